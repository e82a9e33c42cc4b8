import PyProof.Rows.All
import Wide.All
import OpenK.AllK
import Wide.FinOn
import Lean
import PyProof.EqAt
import PyProof.EqKinds
import PyProof.TupleCall
import KE.KSortTup
import PyProof.ZipIter
import PyProof.TupleIter
import PyProof.WalksMore
import PyProof.Rows.TupIter
import PyProof.EnumIter
import PyProof.EnumFor
import PyProof.EnumStmt
import PyProof.ReprRoads
import PyProof.Rows.SeqMore
import PyProof.ListMulRoad
import PyProof.FactsAll.tuple_2
import PyProof.FactsAll.tuple_3
import PyProof.Rows.Tup
import PyProof.ListRange
import PyProof.TupleOfSeq
import PyProof.SumAny
import PyProof.ConsumeS
import PyProof.Rows.CallKwBuiltin
import KE.KLam
import KE.KSortKey
import PyProof.AutoSeq1
import KE.KListMore
import PyProof.FactsAll.subtypes_4
import PyProof.SetRoads
import PyProof.Rows.SetFrom
import PyProof.WalkInts
import PyProof.DictDisplay
import PyProof.ReprBulk
import PyProof.DictWalks
import PySem.Challenge.RW_thinways_k51_whole_few_ties_for_pairs
set_option Elab.async false
set_option linter.all false
set_option maxRecDepth 100000
def uha:=@decide_eq_true
def uhb:=@of_decide_eq_true
def uhc:=@decide_eq_false
def uhd:=@if_pos
def uhe:=@if_neg
open PySem.Challenge renaming pw_thinways_k51_whole_few_ties_for_pairs→a7, rw_thinways_k51_whole_few_ties_for_pairs→m7
open List renaming getD_eq_getElem?_getD→a8, getElem?_eq_getElem→c7, length_map→c8, range→d8, mem_cons_self→i5, length_append→i6, getElem?_map→i8, mem_cons_of_mem→i9, mem_cons→j4, size_toArray→j5, getElem?_eq_some_iff→j7, mem_singleton→k8, length_cons→l6, replicate→l8, not_mem_nil→m8, mem_range→o8, mem_of_getElem?→p6, getElem?_eq_none→r6, mem_append_right→t5, length_singleton→t6, mem_append→u4, length_take→u5, length_range→v4, getElem?_append_right→v8, getElem?_append_left→z0, length_replicate→uaa, Nodup→uai, map_map→uaj, take_of_length_le→uam, length_reverse→uan, mem_filter→uaq, all_eq_true→uas, mem_map→uau, pairwise_map→uaw, append_assoc→uax, append_nil→uay, map_congr_left→uaz, map_cons→ua1, length_drop→ua2, nodup_cons→ua3, take_append_drop→ua6, pairwise_iff_getElem→ua8, range_succ→ubg, mem_of_find?_eq_some→ubh, mem_reverse→ubi, reverse_append→ubk, flatMap_append→ubl, nodup_append→ubm, getD→ubn, map_append→ubs, length_set→ubt, reverse_reverse→ubv, mem_append_left→ubw, lookup_cons→ubx, flatMap_cons→ub2, ext_getElem?→ub3, mem_flatMap→ucb, contains_iff_mem→ucc, all_map→ucd, drop_eq_getElem_cons→uce, pairwise_append→uch, reverse_cons→uci, replicate_succ→ucn, length_pos_iff→uco, getElem?_range→ucp, filterMap_cons→ucq, flatMap_nil→ucs, pairwise_lt_range→ucw, pairwise_cons→ucx, mem_iff_getElem?→uc1, map_id→uc2, find?_some→uc3, sum_cons→uc5, perm_cons_erase→uc6, mem_of_mem_take→uc7, drop_zero→uda, filter_cons→ude, any_eq_true→udf, getElem?_replicate→udl, getElem?_drop→udm, find?_eq_none→udn, append_of_mem→udo, flatten_cons→udv, drop_sublist→udw, zipIdx_cons→udy, take_length→udz, ext_getElem→ud0, length_nil→ud6, forIn_cons→ud7, zip_cons_cons→ueb, toArray→uec, getElem?_take→ued, filter_append→uee, take_add_one→uen, getElem?_take_of_lt→ueo, length_eq_zero_iff→ueu, length→uev, map_snd_zip→uez, getElem_mem→ue0, countP_cons→ue1, getElem?_set_self→ue4, zipIdx_nil→ue7, perm_append_comm→ue8, mem_of_mem_erase→ue9, countP_mono_left→ufa, foldl→uff, mem_of_mem_drop→ufh, mem_iff_getElem→ufi, mem_erase_of_ne→ufj, getElem?_set_ne→ufk, forIn_nil→ufl, drop_drop→ufm, getElem_of_mem→ufo, map_drop→ufr, filterMap_map→ufs, any_cons→uft, take_sublist→uf0, reverse_perm→uf1, getElem_drop→uf2, eq_nil_of_length_eq_zero→uf6, of_mem_zip→ugg, length_eraseIdx_of_lt→ugp, nodup_nil→ug0, length_erase_of_mem→ug6
open PySem renaming wpAny_bind→a9, Value→c9, Shared→d7, wpAny_pure→f9, wpAny→j9, Addr→l7, Program→l9, model→o9, mainGlobals→p9, sizeLine→r9, wpAny_callSpecial?_slot→v7, wpAny_call_entry→uab, Around→uae, wpAny_setField_rec→uag, wpAny_field→uah, World→uak, wpAny_holding→ua0, wpAny_newObj_type→ua4, wpAny_seqItems→ua7, PyData→ua9, starEach→ubc, sizeLine_eq→ubp, wpAny_rule→ubz, wpAny_mono→ub1, mem_of_lookup→ub4, wpAny_attempt→ub7, codeAny_builtin→uca, wpAny_truthy_bool→ucr, Expr→uct, wpAny_setField→uc0, wpAny_passesOwn→uc8, wpAny_setState_of→udb, wpAny_pyIter_list→udc, wpAny_onRaise→udd, Stmt→udi, wpAny_isInstance→udj, wpAny_askSetting→udk, wpAny_setEntries_of→udp, codeAny_mono→udr, wpAny_newList→uea, wpAny_loadPart'→uek, wpAny_letGo→uel, wpAny_typeOf→uet, wpAny_newTuple→uew, isSubtype_stop→uex, plainId_quiet→ufb, wpAny_pyIter_zip→ufg, wpAny_execs_nil→ufp, wpAny_updateSeq_pair→ufu, wpAny_runValue→ufy, wpAny_fieldsOf→ufz, wpAny_pyIter_tuple→uf8, wpAny_Call_Name_kw→uf9, weight_type_call_type→uga, fits_of_scanBound→ugk, call_meets→ugl, callType_new→ugt, Builtin→ug5, check_set_init_1→ug7
open PySem.W renaming Frag→b8, mg_none_of→r8, nsIn→ual, kia_one→ubq, fnOf→ub9, keepIn→uds, codeIn→ud8, methodObj→ufq, instObj→uf3, lookIn→ugb, findIn→ugc, cellsFrom_some→ugu
open PySem.Heap renaming get?_push_of_some→c6, get?_push_size→i7, lt_size→j0, size_push→w8, get?_update_other→uac, get?_update_self→ub0, ExtBut→ufn
open Nat renaming le_refl→h9, ne_of_lt→j8, zero_le→p7, lt_of_lt_of_le→p8, le_trans→uao, lt_succ_of_lt→ubd, lt_irrefl→ubu, le_add_right→uby, le_succ→ub8, ne_of_gt→ucm, lt_succ_self→ucu, lt_of_le_of_lt→ucy, not_lt_zero→udq, le_of_eq→udx, strongRecOn→ud9, sub_zero→ueg, sub_self→ueh, add_sub_cancel→uei, add_comm→uej, lt_trichotomy→uer, mul_succ→ufc, min_le_left→ufd, le_of_lt→ufe, lt_or_eq_of_le→ufv, succ_le_succ→ugd, min_eq_left→ugo
open Bool renaming false_ne_true→j6, and_eq_true→o7, false_eq_true→ube, or_eq_true→ub6, eq_iff_iff→ucj, true_and→ud3, eq_false_iff→uep, false_and→ug1, and_true→ug9
open Or renaming inl→m9
open Array renaming length_toList→u6, getElem?_toList→ua5, getElem?_eq_getElem→ubf, getD_eq_getD_getElem?→ub5, getD→ud4, mk→ues, toList_push→ufx, toList_setIfInBounds→ugh, perm_iff_toList_perm→ugi, getElem?_eq_some_iff→ugj
open Option renaming map_eq_some_iff→u7, map→udu, isSome_iff_exists→uef, bind_eq_some_iff→ugz
open Int renaming toNat_natCast→v5, le_refl→v6, toNat_of_nonneg→uaf, le_of_lt→uap, le_trans→uar, natCast_nonneg→uat, toNat→ubo, emod_lt_of_pos→ucz, emod_nonneg→uc4, neg_le_neg→udg, add_right_comm→ufw, ne_of_lt→uf7, not_lt→ug8
open PySem.Str renaming ofString→v9
open PySem.F renaming called_set→uad, plainAttrs_list→ubb, type_list_append→ucf, slot_list_append→ucg, slot_zip_next→uck, slot_tuple_iterator_next→uc9, plain_list_iadd→udh, slot_enumerate_next→ud1, args_zip_next_1→uey, entry_zip_next→ue6, plain_proto_collect→uf4, entry_proto_collect→uf5, type_list_extend→uge, slot_list_extend→ugf, entry_type_call→ugm, entry_list_iadd→ugn, typeCall_set_1→ugw, entry_set_init→ugx, args_tuple_iterator_next_1→ugy, slot_set_iter→ug2, plain_set_new→ug3, entry_tuple_iterator_next→ug4
open Option.some renaming inj→uav
open PyProof.Rows renaming slot_tuple_getitem→uba, callWith_type1→ubj
open PySem.Heap.SameBut renaming update→ubr, refl→ugv
open List.Pairwise renaming sublist→ucl, imp_of_mem→ud2, nil→ugr, imp→ugs
open PyProof.Rows.F renaming plain_set_update_loop→ucv, entry_set_update_loop→uem
open PySem.PyData renaming int→udt, depthAll→ue2, depth→ue3, eqv→ue5
open List.Perm renaming refl→ud5, append_left→ugq
open Array.Perm renaming refl→ueq
local macro_rules | `(tactic| ac_rfl) => `(tactic| first | exact (fun _ _ _ _ _ _ us hl => match us, hl with | [_], _ => rfl) | exact (fun _ _ _ _ _ _ us hl => match us, hl with | [_, _], _ => rfl) | exact (fun _ _ _ _ _ _ us hl => match us, hl with | [_, _, _], _ => rfl) | exact (fun _ _ _ _ _ _ us hl => match us, hl with | [_, _, _, _], _ => rfl) | exact (fun _ _ _ _ _ _ us hl => match us, hl with | [_, _, _, _, _], _ => rfl) | exact (fun _ _ _ _ _ _ us hl => match us, hl with | [_, _, _, _, _, _], _ => rfl) | exact (fun _ _ _ _ _ _ us hl => match us, hl with | [_, _, _, _, _, _, _], _ => rfl))
local macro_rules | `(tactic| left) => `(tactic| first | lia | omega)
local macro_rules | `(tactic| symm) => `(tactic| decide +kernel)
local macro_rules | `(tactic| right) => `(tactic| exact ⟨rfl, rfl, rfl, by decide +kernel, rfl, by decide +kernel, by decide +kernel⟩)
namespace L2
open PySem PySem.Spec PyProof.Rows
abbrev Key:=Sum Int Str
def keyIs:Key->c9->Bool
 | .inl k,v=>Value.isInt k v
 | .inr x,v=>Value.isStrOf x v
def keyH (w:uak):Key->Int
 | .inl k=>hashInt k
 | .inr x=>hashStr w x
theorem cS:∀ {k:Key}{v:c9},keyIs k v=true->(∃ i t,k=Sum.inl i/\v=Value.int i t)\/(∃ x t,k=Sum.inr x/\v=Value.str x t)
 | .inl i,v,h=>by
  obtain⟨t,e⟩:=Value.isInt_shape (k:=i) (v:=v) h
  exact .inl ⟨i,t,rfl,e⟩
 | .inr x,v,h=>by
  obtain⟨t,e⟩:=Value.isStrOf_shape (x:=x) (v:=v) h
  exact .inr ⟨x,t,rfl,e⟩
theorem zdz (a b:Int):decide ((Sum.inl a:Key)=Sum.inl b)=(a==b):=by
 by_cases e:a=b
 ·subst e;simp
 ·have h:¬ (Sum.inl a:Key)=Sum.inl b:=λ q=>e (Sum.inl.inj q)
  rw[uhc h]
  exact (beq_eq_false_iff_ne.mpr e).symm
theorem zdw (a b:Str):decide ((Sum.inr a:Key)=Sum.inr b)=decide (a=b):=by
 by_cases e:a=b
 ·subst e;simp
 ·have h:¬ (Sum.inr a:Key)=Sum.inr b:=λ q=>e (Sum.inr.inj q)
  rw[uhc h,uhc e]
theorem zdy (a:Int)(b:Str):decide ((Sum.inl a:Key)=Sum.inr b)=false:=uhc (λ q=>nomatch q)
theorem zdx (a:Str)(b:Int):decide ((Sum.inr a:Key)=Sum.inl b)=false:=uhc (λ q=>nomatch q)
def mixKind (prog:l9)(w:uak):PySem.KeyKind prog w Key where
 is:=keyIs
 hash:=keyH w
 inj:=λ v a b ha hb=>by
  rcases cS ha with ⟨i,t,rfl,rfl⟩ | ⟨x,t,rfl,rfl⟩
  ·rcases cS hb with ⟨j,u,rfl,e⟩ | ⟨y,u,rfl,e⟩
   ·injection e with e1 _;rw[e1]
   ·exact nomatch e
  ·rcases cS hb with ⟨j,u,rfl,e⟩ | ⟨y,u,rfl,e⟩
   ·exact nomatch e
   ·injection e with e1 _;rw[e1]
 byValue:=λ k v h=>by
  rcases cS h with ⟨i,t,rfl,rfl⟩ | ⟨x,t,rfl,rfl⟩ <;> rfl
 pyHash:=λ hv h=>by
  rcases cS hv with ⟨i,t,rfl,rfl⟩ | ⟨x,t,rfl,rfl⟩
  ·exact wpAny_pyHash_int h
  ·exact wpAny_pyHash_str h
 eqBool:=λ hu hv h=>by
  rcases cS hu with ⟨i,t,rfl,rfl⟩ | ⟨x,t,rfl,rfl⟩
  ·rcases cS hv with ⟨j,u,rfl,rfl⟩ | ⟨y,u,rfl,rfl⟩
   ·rw[zdz] at h;exact wpAny_eqBool_int h
   ·rw[zdy] at h;exact SeqAt.EqAt.int_str i t y u _ _ _ _ h
  ·rcases cS hv with ⟨j,u,rfl,rfl⟩ | ⟨y,u,rfl,rfl⟩
   ·rw[zdx] at h;exact SeqAt.EqAt.str_int x t j u _ _ _ _ h
   ·rw[zdw] at h;exact wpAny_eqBool_str h
 «strs»:=λ k x t v h=>by
  rcases cS h with ⟨i,u,rfl,e⟩ | ⟨y,u,rfl,e⟩
  ·exact nomatch e
  ·injection e with e1 _
   subst e1
   cases v <;> rfl
end L2
namespace L2
open PySem PySem.Spec PyProof.Rows
inductive V where
 | non | bl (b:Bool) | int (i:Int) | str (x:Str) | byt (b:Array UInt8) | flt (b:UInt64) | ref (a:l7) | ty (n:String)
 deriving DecidableEq
def RelV:V->c9->Prop
 | .non,u=>u=Value.none
 | .bl b,u=>u=Value.bool b
 | .int i,u=>∃ t,u=Value.int i t
 | .str x,u=>∃ t,u=Value.str x t
 | .byt b,u=>∃ t,u=Value.bytes b t
 | .flt b,u=>∃ t,u=Value.float b t
 | .ref a,u=>u=Value.ref a
 | .ty n,u=>u=Value.type n
abbrev Vals:List V->List c9->Prop:=Paired RelV
theorem Vals.length {xs:List V}{us:List c9}(r:Vals xs us):xs.length=us.length:=Paired.length r
theorem Vals.get:∀ {xs:List V}{us:List c9}{i:Nat}{x:V},Vals xs us->xs[i]?=some x->∃ u,us[i]?=some u/\RelV x u
 | _,_,_,_,.nil,e=>by simp at e
 | _,_,0,_,.cons r _,e=>by simp at e;subst e;exact⟨_,rfl,r⟩
 | _,_,i+1,x,.cons _ t,e=>by
  obtain⟨u,h1,h2⟩:=Vals.get (i:=i) (x:=x) t (by simpa using e)
  exact⟨u,by simpa using h1,h2⟩
theorem Vals.set {x:V}{u:c9}(r:RelV x u):∀ {xs:List V}{us:List c9}(i:Nat),Vals xs us->Vals (xs.set i x) (us.set i u)
 | _,_,_,.nil=>.nil
 | _,_,0,.cons _ t=>.cons r t
 | _,_,i+1,.cons q t=>.cons q (Vals.set r i t)
theorem Vals.append:∀ {xs ys:List V}{us ws:List c9},Vals xs us->Vals ys ws->Vals (xs++ys) (us++ws)
 | _,_,_,_,.nil,s=>s
 | _,_,_,_,.cons r t,s=>.cons r (Vals.append t s)
theorem Vals.take:∀ {xs:List V}{us:List c9}(n:Nat),Vals xs us->Vals (xs.take n) (us.take n)
 | _,_,0,_=>.nil
 | _,_,_+1,.nil=>.nil
 | _,_,n+1,.cons r t=>.cons r (Vals.take n t)
theorem Vals.drop:∀ {xs:List V}{us:List c9}(n:Nat),Vals xs us->Vals (xs.drop n) (us.drop n)
 | _,_,0,r=>r
 | _,_,_+1,.nil=>.nil
 | _,_,n+1,.cons _ t=>Vals.drop n t
def RelO:Option V->Option c9->Prop
 | some v,some u=>RelV v u
 | none,none=>True
 | _,_=>False
def KV {κ:Type}:List (κ × V)->List (κ × c9)->Prop:=Paired λ (p:κ × V) (q:κ × c9)=>p.1=q.1/\RelV p.2 q.2
def kV:Key->V
 | .inl i=>.int i
 | .inr x=>.str x
inductive HO where
  | lst (xs:List V)
  | tup (xs:List V)
  | dK (kvs:List (Key × V)) | dT (kvs:List (List Key × V))
  | set (S:Int->Bool) (n:Nat)
  | ins (C dx:l7) (fs:List (Str × V))
  | own (x:l7)
  | xd (fs:List (Str × V))
  | met (f x:l7)
  | rng (lo hi:Int)
  | frz (o:Obj) (u:HO)
  | tbl (ps:Array c9)
  | ext (φ:Heap->Prop)
abbrev Hp:=l7->Option HO
def upd (H:Hp)(a:l7)(o:HO):Hp:=λ b=>if b=a then some o else H b
theorem aO {H:Hp}{a:l7}{o:HO}:upd H a o a=some o:=by unfold upd;rw[uhd rfl]
theorem aN {H:Hp}{a b:l7}{o:HO}(h:b≠a):upd H a o b=H b:=by unfold upd;rw[uhe h]
theorem bB {H:Hp}{a b:l7}{o:HO}(h:H a=some o)(h':H b=none):a≠b:=by
 intro e;subst e;rw[h] at h';cases h'
section
variable (P:l9)(w:uak)
def TupN (h:Heap)(a:l7)(items:Array c9):Prop:=∃ o,h.get? a=some o/\o.cls=.type "tuple"/\(∃ n,o.data=.seq items n)/\o.dict=none
theorem TupN.tup {h:Heap}{a:l7}{items:Array c9}(x:TupN h a items):IsTup h a items:=let ⟨o,e,c,d,_⟩:=x;⟨o,e,c,d⟩
theorem TupN.new (h:Heap)(items:Array c9):TupN (h.push { cls:=.type "tuple",data:=.seq items }) h.objs.size items:=⟨_,i7 _ rfl,rfl,⟨_,rfl⟩,rfl⟩
def ObjOk (H:Hp)(h:Heap)(a:l7):HO->Prop
 | .lst xs=>xs.length<=r9/\∃ (its:List c9)(n:Nat),Vals xs its/\h.get? a=some { cls:=.type "list",data:=.seq its.toArray n }
 | .tup xs=>xs.length<=r9/\∃ its:List c9,Vals xs its/\TupN h a its.toArray
 | .dK kvs=>kvs.length<=r9/\(a==sysModules)=false/\∃ vs,KV kvs vs/\h.DictOf (mixKind P w) a vs
 | .dT kvs => kvs.length <= r9 /\ (a==sysModules) = false /\ ∃ xs : List (List Key × l7 × c9),
     Paired (λ (p:List Key × V) (q:List Key × l7 × c9)=>p.1=q.1/\H q.2.1=some (.tup (p.1.map kV))/\RelV p.2 q.2.2) kvs xs /\
     ∃ o es ep,h.get? a=some o/\o.ExactDict/\o.data=.dict es ep/\es.toList=xs.map (entryOfKey (tupleKind (mixKind P w)))/\(xs.map (·.1)).Nodup
 | .set S n=>h.SetOf (intKind P w) a S n
 | .ins C dx fs => H dx = some (.own a) /\ fs.length <= 1000 /\ dx ≠ a /\ h.get? a = some (uf3 C dx) /\
     ∃ mA,h.Ns1 dx mA/\(∀ f,RelO (fs.lookup f) (mA f))/\PySem.Within mA (fs.map (·.1))
 | .own _=>∃ o,h.get? a=some o
 | .xd fs=>∃ mA,h.Ns1 a mA/\∀ f,RelO (fs.lookup f) (mA f)
 | .rng lo hi=>∃ t u v,h.get? a=some { cls:=.type "range",data:=.fields #[.int lo t,.int hi u,.int 1 v] }
 | .frz o u=>h.get? a=some o/\ObjOk H h a u
 | .tbl ps=>h.get? a=some { cls:=.none,data:=.fields ps }
 | .met f x=>h.get? a=some (ufq (.ref f) (.ref x))
 | .ext φ=>φ h/\(∃ o,h.get? a=some o)/\∀ h1 h2:Heap,φ h1->(∀ o,h1.get? a=some o->h2.get? a=some o)->φ h2
def HOk (H:Hp)(h:Heap):Prop:=∀ a o,H a=some o->ObjOk P w H h a o
end
section
variable {P:l9}{w:uak}{H H':Hp}{h h':Heap}{a:l7}{o:HO}
theorem ObjOk.lt (x:ObjOk P w H h a o):a<h.objs.size:=by
 cases o with
 | lst xs=>obtain⟨_,_,_,_,e⟩:=x;exact j0 e
 | tup xs=>obtain⟨_,_,_,p⟩:=x;exact p.tup.lt
 | dK kvs=>obtain⟨_,_,_,_,o,_,_,e,_⟩:=x;exact j0 e
 | dT kvs=>obtain⟨_,_,_,_,o,_,_,e,_⟩:=x;exact j0 e
 | set S n=>obtain⟨o,_,_,_,e,_⟩:=x;exact j0 e
 | ins C dx fs=>obtain⟨_,_,_,e,_⟩:=x;exact j0 e
 | own y=>obtain⟨_,e⟩:=x;exact j0 e
 | xd fs=>obtain⟨_,⟨_,_,_,e,_⟩,_⟩:=x;exact j0 e
 | rng lo hi=>obtain⟨_,_,_,e⟩:=x;exact j0 e
 | frz ob u=>obtain⟨e,_⟩:=x;exact j0 e
 | tbl ps=>exact j0 (show h.get? a=some _ from x)
 | met f y=>exact j0 (show h.get? a=some _ from x)
 | ext φ=>obtain⟨_,⟨_,e⟩,_⟩:=x;exact j0 e
theorem Paired.mapP {α β:Type}{F G:α->β->Prop}:∀ {l₁:List α}{l₂:List β},Paired F l₁ l₂->(∀ a b,F a b->G a b)->Paired G l₁ l₂
 | _,_,.nil,_=>.nil
 | _,_,.cons r t,f=>.cons (f _ _ r) (Paired.mapP t f)
theorem ObjOk.stay (x:ObjOk P w H h a o)(k:∀ b u,(b=a\/H b=some (.own a))->h.get? b=some u->h'.get? b=some u)
  (ho:∀ b,H b=some (.own a)->H' b=some (.own a)) (ht:∀ b xs,H b=some (.tup xs)->H' b=some (.tup xs)):ObjOk P w H' h' a o:=by
 induction o with
 | lst xs=>obtain⟨z,its,n,r,e⟩:=x;exact⟨z,its,n,r,k _ _ (.inl rfl) e⟩
 | tup xs=>obtain⟨z,its,r,ob,e,c⟩:=x;exact⟨z,its,r,ob,k _ _ (.inl rfl) e,c⟩
 | dK kvs=>obtain⟨z,y,vs,r,ob,es,ep,e,c⟩:=x;exact⟨z,y,vs,r,ob,es,ep,k _ _ (.inl rfl) e,c⟩
 | dT kvs =>
  obtain⟨z,y,xs,r,ob,es,ep,e,c⟩:=x
  exact⟨z,y,xs,Paired.mapP r λ p q z=>⟨z.1,ht _ _ z.2.1,z.2.2⟩,ob,es,ep,k _ _ (.inl rfl) e,c⟩
 | set S n=>obtain⟨ob,es,ep,t,e,c⟩:=x;exact⟨ob,es,ep,t,k _ _ (.inl rfl) e,c⟩
 | ins C dx fs =>
  obtain⟨d,z,ne,e,mA,⟨od,es,ep,e2,c⟩,r⟩:=x
  exact⟨ho _ d,z,ne,k _ _ (.inl rfl) e,mA,⟨od,es,ep,k _ _ (.inr d) e2,c⟩,r⟩
 | own y=>obtain⟨ob,e⟩:=x;exact⟨ob,k _ _ (.inl rfl) e⟩
 | xd fs=>obtain⟨mA,⟨od,es,ep,e,c⟩,r⟩:=x;exact⟨mA,⟨od,es,ep,k _ _ (.inl rfl) e,c⟩,r⟩
 | rng lo hi=>obtain⟨t,u,v,e⟩:=x;exact⟨t,u,v,k _ _ (.inl rfl) e⟩
 | frz ob u ih=>obtain⟨e,q⟩:=x;exact⟨k _ _ (.inl rfl) e,ih q⟩
 | tbl ps =>
  have e:h.get? a=some { cls:=.none,data:=.fields ps }:=x
  show h'.get? a=some { cls:=.none,data:=.fields ps }
  exact k a _ (.inl rfl) e
 | met f y =>
  have e:h.get? a=some (ufq (.ref f) (.ref y)):=x
  show h'.get? a=some (ufq (.ref f) (.ref y))
  exact k a _ (.inl rfl) e
 | ext φ=>obtain⟨p,⟨o,e⟩,st⟩:=x;exact⟨st _ _ p λ o q=>k _ _ (.inl rfl) q,⟨o,k _ _ (.inl rfl) e⟩,st⟩
theorem HOk.lt (x:HOk P w H h)(e:H a=some o):a<h.objs.size:=(x a o e).lt
theorem HOk.fresh (x:HOk P w H h)(e:h.objs.size<=a):H a=none:=by
 cases q:H a with
 | none=>rfl
 | some u=>exact absurd (p8 (x.lt q) e) (ubu _)
theorem HOk.kept (x:HOk P w H h)(k:∀ b u,h.get? b=some u->h'.get? b=some u):HOk P w H h':=λ a o e =>
 (x a o e).stay (λ b u _ q=>k b u q) (λ _ q=>q) λ _ _ q=>q
theorem HOk.laid (x:HOk P w H h)(k:∀ b u,h.get? b=some u->h'.get? b=some u)(hp:h.objs.size<=a)(new:ObjOk P w (upd H a o) h' a o):HOk P w (upd H a o) h':=λ b u e=>by
 have hn:=x.fresh hp
 by_cases hb:b=a
 ·subst hb;rw[aO] at e;cases e;exact new
 ·rw[aN hb] at e
  exact (x b u e).stay (λ c v _ q=>k c v q) (λ c q=>by rw[aN (bB q hn)];exact q) λ c xs q=>by rw[aN (bB q hn)];exact q
end
def Rd (H:Hp)(a:l7)(u:HO):Prop:=H a=some u\/∃ o,H a=some (.frz o u)
theorem Rd.ok {P:l9}{w:uak}{H:Hp}{h:Heap}{a:l7}{u:HO}(r:Rd H a u)(x:HOk P w H h):ObjOk P w H h a u:=by
 rcases r with r | ⟨o,r⟩
 ·exact x a u r
 ·obtain⟨_,q⟩:=x a _ r
  exact q
def Mut:Option HO->Prop
 | some (.lst _)=>True
 | some (.dK _)=>True
 | some (.dT _)=>True
 | some (.set _ _)=>True
 | some (.ins _ _ _)=>True
 | some (.ext _)=>True
 | _=>False
section
variable {P:l9}{w:uak}{H:Hp}{h h':Heap}{x e:l7}{o':HO}
theorem HOk.write (ok:HOk P w H h)(mu:Mut (H x))(he:e=x\/H e=some (.own x))(k:∀ b u,b≠e->h.get? b=some u->h'.get? b=some u)(heo:∃ u,h'.get? e=some u)
  (new:ObjOk P w (upd H x o') h' x o'):HOk P w (upd H x o') h':=λ b u q=>by
 have nown:∀ c y,H c=some (.own y)->c≠x:=λ c y r z=>by subst z;rw[r] at mu;exact mu
 have ntup:∀ c xs,H c=some (.tup xs)->c≠x:=λ c xs r z=>by subst z;rw[r] at mu;exact mu
 by_cases hb:b=x
 ·subst hb;rw[aO] at q;cases q;exact new
 ·rw[aN hb] at q
  by_cases hbe:b=e
  ·have q':H b=some (.own x):=by
    rcases he with z | z
    ·exact absurd (hbe.trans z) hb
    ·rw[hbe];exact z
   rw[q] at q';cases q'
   obtain⟨v,hv⟩:=heo
   exact⟨v,by rw[hbe];exact hv⟩
  ·refine (ok b u q).stay (λ c v hc r=>k c v ?_ r) (λ c r=>by rw[aN (nown c b r)];exact r) λ c xs r=>by rw[aN (ntup c xs r)];exact r
   rcases hc with rfl | hc
   ·exact hbe
   ·rintro rfl
    rcases he with z | z
    ·exact nown c b hc z
    ·rw[hc] at z;cases z;exact hb rfl
end
structure Un (fs ex:List l7)(H H':Hp)(h h':Heap):Prop where
 keep:∀ b o,h.get? b=some o->H b=none->b∉fs->b∉ex->h'.get? b=some o
 slot:∀ b o,h.get? b=some o->H b=none->b∈fs->b∉ex->∃ sl,h'.get? b=some { o with slots:=sl }
 free:∀ b o,h.get? b=some o->H b=none->b∉ex->H' b=none
 there:∀ b o,h.get? b=some o->b∉ex->∃ o',h'.get? b=some o'
 tups:∀ b xs,H b=some (.tup xs)->H' b=some (.tup xs)
 frzs:∀ b o u,H b=some (.frz o u)->H' b=some (.frz o u)
 tbls:∀ b ps,H b=some (.tbl ps)->∃ more,H' b=some (.tbl (ps++more))
section
variable {fs fs' ex ex':List l7}{H H1 H2:Hp}{h h1 h2 h':Heap}{a x e:l7}{o:HO}
theorem Un.any (u:Un fs ex H H1 h h1){b:l7}{ob:Obj}(q:h.get? b=some ob)(n:H b=none)(hx:b∉ex):∃ sl,h1.get? b=some { ob with slots:=sl }:=by
 by_cases hb:b∈fs
 ·exact u.slot b ob q n hb hx
 ·exact⟨ob.slots,u.keep b ob q n hb hx⟩
theorem Un.trans (a:Un fs ex H H1 h h1)(b:Un fs ex H1 H2 h1 h2):Un fs ex H H2 h h2 where
 keep:=λ c ob q n hc hx=>b.keep c ob (a.keep c ob q n hc hx) (a.free c ob q n hx) hc hx
 slot:=λ c ob q n hc hx=>by
  obtain⟨sl,e1⟩:=a.slot c ob q n hc hx
  obtain⟨sl',e2⟩:=b.slot c _ e1 (a.free c ob q n hx) hc hx
  exact⟨sl',e2⟩
 free:=λ c ob q n hx=>by
  obtain⟨o',e1⟩:=a.there c ob q hx
  exact b.free c o' e1 (a.free c ob q n hx) hx
 there:=λ c ob q hx=>by
  obtain⟨o',e1⟩:=a.there c ob q hx
  exact b.there c o' e1 hx
 tups:=λ c xs q=>b.tups c xs (a.tups c xs q)
 frzs:=λ c ob xs q=>b.frzs c ob xs (a.frzs c ob xs q)
 tbls:=λ c ps q=>by
  obtain⟨m1,e1⟩:=a.tbls c ps q
  obtain⟨m2,e2⟩:=b.tbls c _ e1
  exact⟨m1++m2,by rw[e2,Array.append_assoc]⟩
theorem Un.kept (k:∀ b u,h.get? b=some u->h'.get? b=some u):Un fs ex H H h h' :=
 ⟨λ b ob q _ _ _=>k b ob q,λ b ob q _ _ _=>⟨ob.slots,k b ob q⟩,λ _ _ _ n _=>n,λ b ob q _=>⟨ob,k b ob q⟩,λ _ _ q=>q,λ _ _ _ q=>q,λ _ ps q=>⟨#[],by rw[q];simp⟩⟩
theorem Un.refl:Un fs ex H H h h:=Un.kept λ _ _ q=>q
theorem Un.laid (k:∀ b u,h.get? b=some u->h'.get? b=some u)(hp:h.objs.size<=a)(hn:H a=none):Un fs ex H (upd H a o) h h' where
 keep:=λ b u q _ _ _=>k b u q
 slot:=λ b u q _ _ _=>⟨u.slots,k b u q⟩
 free:=λ b u q n _=>by rw[aN (j8 (p8 (j0 q) hp))];exact n
 there:=λ b u q _=>⟨u,k b u q⟩
 tups:=λ b xs q=>by rw[aN (bB q hn)];exact q
 frzs:=λ b u xs q=>by rw[aN (bB q hn)];exact q
 tbls:=λ b ps q=>⟨#[],by rw[aN (bB q hn),q];simp⟩
theorem Un.write (mu:Mut (H x))(he:e=x\/H e=some (.own x))(k:∀ b u,b≠e->h.get? b=some u->h'.get? b=some u)(heo:∃ u,h'.get? e=some u):Un fs ex H (upd H x o) h h':=by
 have hx:∀ b,H b=none->b≠x:=λ b n z=>by subst z;rw[n] at mu;exact mu
 have hb:∀ b,H b=none->b≠e:=λ b n z=>by
  subst z
  rcases he with r | r
  ·exact hx b n r
  ·rw[n] at r;cases r
 have hm:∀ b u,H b=some u->¬ Mut (some u)->b≠x:=λ b u q nm z=>by subst z;rw[q] at mu;exact nm mu
 refine⟨λ b u q n _ _=>k b u (hb b n) q,λ b u q n _ _=>⟨u.slots,k b u (hb b n) q⟩,λ b u q n _=>by rw[aN (hx b n)];exact n,λ b u q _=>?_,
  λ b xs q=>by rw[aN (hm b _ q λ z=>z)];exact q,λ b u xs q=>by rw[aN (hm b _ q λ z=>z)];exact q,λ b ps q=>⟨#[],by rw[aN (hm b _ q λ z=>z),q];simp⟩⟩
 by_cases hbe:b=e
 ·subst hbe;exact heo
 ·exact⟨u,k b u hbe q⟩
end
def trk (h:Heap)(H:Hp):List l7:=(d8 h.objs.size).filter λ a=>(H a).isSome
def hidT (h:Heap)(H:Hp):Heap:=PySem.W.hideAll h (trk h H)
theorem zB (h:Heap)(H:Hp):(hidT h H).objs.size=h.objs.size:=PySem.W.hideAll_size _ _
theorem za0 {h:Heap}{H:Hp}{b:l7}{o:Obj}(e:h.get? b=some o)(n:H b=none):(hidT h H).get? b=some o :=
 PySem.W.hideAll_get _ e λ hm=>by
  have q:(H b).isSome=true:=(uaq.mp hm).2
  rw[n] at q;simp at q
theorem zcj {h:Heap}{H:Hp}{b:l7}{o:Obj}(e:(hidT h H).get? b=some o):h.get? b=some o/\H b=none:=by
 have e':h.get? b=some o:=PySem.W.of_hideAll (trk h H) e
 refine⟨e',?_⟩
 cases q:H b with
 | none=>rfl
 | some x =>
  have hm:b∈trk h H:=uaq.mpr ⟨o8.mpr (j0 e'),by simp [q]⟩
  have z:(hidT h H).get? b=none:=PySem.W.hideAll_none (trk h H) hm
  rw[z] at e;cases e
def allNews (g h:Heap)(L:l7):List (l7 × Obj):=(d8 h.objs.size).filterMap λ a=>if a=L\/(g.get? a).isSome=true then none else (h.get? a).map λ o=>(a,o)
def rest (g h:Heap)(L d:l7):List (l7 × Obj):=(allNews g h L).filter λ p=>decide (p.1≠d)
end L2
namespace L2
open PySem PySem.Spec PyProof.Rows
structure Mod (K:b8)(mg:Str->Option c9)(base:Heap):Prop where
 kin:K.In base
 glob:base.Ns p9 mg
 blt:∃ mb,base.Ns builtinsNs mb/\∀ x:Str,x≠"__name__"->mb x=bootBuiltins x
 nolimit:base.NoLimit
structure Cx where
 prog:l9
 w:uak
 K:b8
 mg:Str->Option c9
 base:Heap
 A:uae
 N:List Str
 s₀:d7
 H₀:Hp
 env:Env
 outer:List Env
 stack:List Env
 ex:List l7
 fn:Str->Bool
 calm:Bool
 pn:List (l7 × Obj)
 xe:c9->d7->Prop
def frs (l:List Env):List l7:=l.filterMap (·.frame)
abbrev Cx.fs (X:Cx):List l7:=frs X.outer
def Vis (sc:Scope)(x:Str):Prop:=sc.names.lookup x=some .local\/sc.names.lookup x=some .cell\/sc.names.lookup x=some .free
def Loc (sc:Scope)(x:Str):Prop:=sc.names.lookup x=some .local\/sc.names.lookup x=some .cell
def Look (env:Env)(h:Heap)(m:Str->Option c9)(x:Str)(u:c9):Prop :=
 (env.kindOf x=some .local/\m x=some u)\/((env.kindOf x=some .cell\/env.kindOf x=some .free)/\∃ c,env.cells.lookup x=some c/\h.IsCell c (some u))
structure Cx.Ok (X:Cx):Prop where
 mod:Mod X.K X.mg X.base
 kind:X.env.scope.kind=.function
 glob:X.env.globals=p9
 blt:X.env.builtins=builtinsNs
 above:X.s₀.heap.objs.size<=X.env.locals
 inj:∀ x y c,X.env.cells.lookup x=some c->X.env.cells.lookup y=some c->x=y
 has:∀ x,(X.env.kindOf x=some .cell\/X.env.kindOf x=some .free)->∃ c,X.env.cells.lookup x=some c
 cab:∀ x c,X.fn x=true->X.env.cells.lookup x=some c->X.s₀.heap.objs.size<=c
 hd:X.calm=true->X.A.handled=none
 frames:X.A.frames=some X.stack
 stk:X.stack=X.outer\/(X.stack=X.env::X.outer/\X.env.frame=some X.env.locals)
 exf:∀ b∈X.ex,b≠X.env.locals/\∀ x c,X.env.cells.lookup x=some c->c≠b
 bs:∀ b o,X.base.get? b=some o->X.s₀.heap.get? b=some o/\X.H₀ b=none
 bsz:X.base.objs.size<=X.s₀.heap.objs.size
 noex:∀ b o,X.base.get? b=some o->b∉X.ex
 exfs:∀ b∈X.ex,b∉X.fs
 funs:X.s₀.heap.FunFrames X.base X.outer
 frf:∀ b∈X.fs,X.H₀ b=none
structure Inv (X:Cx)(pins:List (l7 × Obj))(σ:List (Option V))(H:Hp)(s:d7):Prop where
 ok:X.Ok
 os:s.os=X.s₀.os
 bare:AllBare s.gens
 base:Un X.fs X.ex X.H₀ H X.s₀.heap s.heap
 loc:∃ m,s.heap.Ns X.env.locals m/\∀ (i:Nat)(x:Str)(v:V),X.N[i]?=some x->σ[i]?=some (some v)->Vis X.env.scope x->∃ u,RelV v u/\Look X.env s.heap m x u
 cell:∀ x c,X.env.cells.lookup x=some c->∃ v,s.heap.IsCell c v
 free:H X.env.locals=none
 freeC:∀ x c,X.env.cells.lookup x=some c->H c=none
 pin:∀ p∈X.pn++pins,s.heap.get? p.1=some p.2/\H p.1=none/\p.1≠X.env.locals/\p.1∉X.fs/\∀ v,p.2.data≠.cell v
 hok:HOk X.prog X.w H s.heap
 len:σ.length=X.N.length
section
variable {X:Cx}{pins:List (l7 × Obj)}{σ:List (Option V)}{H H':Hp}{s:d7}{h':Heap}
theorem Cx.Ok.nofr (ok:X.Ok){b:l7}{o:Obj}(e:X.base.get? b=some o):b∉X.fs:=λ hb=>by
 have:=(ok.funs.mem hb).1
 rw[e] at this;cases this
theorem Inv.bs (I:Inv X pins σ H s):∀ b o,X.base.get? b=some o->s.heap.get? b=some o/\H b=none:=λ b o e =>
 ⟨I.base.keep b o (I.ok.bs b o e).1 (I.ok.bs b o e).2 (I.ok.nofr e) (I.ok.noex b o e),I.base.free b o (I.ok.bs b o e).1 (I.ok.bs b o e).2 (I.ok.noex b o e)⟩
theorem Inv.bk (I:Inv X pins σ H s):∀ b o,X.base.get? b=some o->s.heap.get? b=some o:=λ b o e=>(I.bs b o e).1
theorem Inv.mod (I:Inv X pins σ H s):Mod X.K X.mg X.base:=I.ok.mod
theorem Inv.kIn (I:Inv X pins σ H s):X.K.In s.heap:=I.ok.mod.kin.keeps I.bk
theorem Inv.lt (I:Inv X pins σ H s):X.env.locals<s.heap.objs.size:=let ⟨_,hn,_⟩:=I.loc;hn.lt
theorem Inv.sz (I:Inv X pins σ H s):X.s₀.heap.objs.size<=s.heap.objs.size:=uao I.ok.above (ufe I.lt)
theorem Inv.nofs (I:Inv X pins σ H s){a:l7}(h:s.heap.objs.size<=a):a∉X.fs:=λ hb=>by
 obtain⟨_,o,ho,_⟩:=I.ok.funs.mem hb
 exact absurd (p8 (j0 ho) (uao I.sz h)) (ubu _)
theorem Inv.cne (I:Inv X pins σ H s):∀ x c,X.env.cells.lookup x=some c->c≠X.env.locals:=λ x c e z=>by
 obtain⟨v,o,ho,hd⟩:=I.cell x c e
 obtain⟨m,⟨o',es,ep,ho',hd',_⟩,_⟩:=I.loc
 rw[z,ho'] at ho;cases ho;rw[hd'] at hd;cases hd
theorem Inv.funs (I:Inv X pins σ H s):s.heap.FunFrames X.base X.outer:=by
 have all:∀ (l:List Env),(∀ b∈frs l,b∈X.fs)->X.s₀.heap.FunFrames X.base l->s.heap.FunFrames X.base l:=by
  intro l
  induction l with
  | nil=>intro _ _;trivial
  | cons env r ih =>
   intro hs hl
   obtain⟨hk,⟨L,o,hf,hn,ho,hd⟩,hr⟩:=hl
   have hL:L∈X.fs:=hs L (by unfold frs;rw[ucq,hf];exact i5)
   obtain⟨sl,e⟩:=I.base.slot L o ho (I.ok.frf L hL) hL λ z=>I.ok.exfs L z hL
   exact⟨hk,⟨L,_,hf,hn,e,hd⟩,ih (λ b hb=>hs b (by unfold frs;rw[ucq,hf];exact i9 _ hb)) hr⟩
 exact all X.outer (λ _ hb=>hb) I.ok.funs
theorem Inv.stack (I:Inv X pins σ H s):s.heap.FunFrames X.base X.stack:=by
 rcases I.ok.stk with e | ⟨e,hf⟩
 ·rw[e];exact I.funs
 ·rw[e]
  obtain⟨m,hn,_⟩:=I.loc
  refine .cons (by rw[I.ok.kind];decide) hf hn ?_ I.funs
  exact Heap.get?_none_of_le (uao I.ok.bsz I.ok.above)
theorem Inv.stkSub (I:Inv X pins σ H s):∀ b∈frs X.stack,b∈X.env.locals::X.fs:=λ b hb=>by
 rcases I.ok.stk with e | ⟨e,hf⟩
 ·rw[e] at hb;exact i9 _ hb
 ·rw[e] at hb
  unfold frs at hb
  rw[ucq,hf] at hb
  exact hb
theorem Inv.stkFree (I:Inv X pins σ H s):∀ b∈frs X.stack,H b=none:=λ b hb=>by
 rcases j4.mp (I.stkSub b hb) with e | hb
 ·rw[e];exact I.free
 ·obtain⟨_,o,ho,_⟩:=I.ok.funs.mem hb
  exact I.base.free b o ho (I.ok.frf b hb) λ z=>I.ok.exfs b z hb
theorem Inv.step {g':Array GenState}{t':Nat}{d':Drawn}{ch:List l7}(I:Inv X pins σ H s)
  (hch:∀ b∈ch,(b∈X.ex\/X.s₀.heap.objs.size<=b)/\b≠X.env.locals/\(∀ x c,X.env.cells.lookup x=some c->c≠b)/\∀ p∈X.pn++pins,p.1≠b)
  (keep:∀ b o,b≠X.env.locals->b∉X.fs->b∉ch->s.heap.get? b=some o->H b=none->h'.get? b=some o)
  (slot:∀ b o,b≠X.env.locals->b∈X.fs->b∉ch->s.heap.get? b=some o->H b=none->∃ sl,h'.get? b=some { o with slots:=sl }) (free:∀ b o,b∉ch->s.heap.get? b=some o->H b=none->H' b=none)
  (there:∀ b o,b∉ch->s.heap.get? b=some o->∃ o',h'.get? b=some o')
  (tups:∀ b xs,H b=some (.tup xs)->H' b=some (.tup xs)) (frzs:∀ b o u,H b=some (.frz o u)->H' b=some (.frz o u)) (tbls:∀ b ps,H b=some (.tbl ps)->∃ more,H' b=some (.tbl (ps++more)))
  (ns:∀ m,s.heap.Ns X.env.locals m->h'.Ns X.env.locals m) (hok:HOk X.prog X.w H' h') (hg:AllBare g') :
  Inv X pins σ H' { s with heap:=h',gens:=g',drawn:=d',toks:=t' }:=by
 have neL:∀ b o,X.s₀.heap.get? b=some o->b≠X.env.locals:=λ b o e=>j8 (p8 (j0 e) I.ok.above)
 have neC:∀ b o,X.s₀.heap.get? b=some o->b∉X.ex->b∉ch:=λ b o e hx hb=>by
  rcases (hch b hb).1 with z | z
  ·exact hx z
  ·exact absurd (p8 (j0 e) z) (ubu _)
 have cellK:∀ x c,X.env.cells.lookup x=some c->∀ v,s.heap.IsCell c v->h'.IsCell c v:=λ x c e v ⟨o,ho,hd⟩=>by
  have nch:c∉ch:=λ z=>(hch c z).2.2.1 x c e rfl
  by_cases hc:c∈X.fs
  ·obtain⟨sl,q⟩:=slot c o (I.cne x c e) hc nch ho (I.freeC x c e)
   exact⟨_,q,hd⟩
  ·exact⟨o,keep c o (I.cne x c e) hc nch ho (I.freeC x c e),hd⟩
 refine⟨I.ok,I.os,hg,⟨λ b o e n hb hx=>?_,λ b o e n hb hx=>?_,λ b o e n hx=>?_,λ b o e hx=>?_,λ b xs e=>tups b xs (I.base.tups b xs e),λ b o xs e=>frzs b o xs (I.base.frzs b o xs e),λ b ps e=>?_⟩,?_,λ x c e=>?_,?_,λ x c e=>?_,λ p hp=>?_,hok,I.len⟩
 ·exact keep b o (neL b o e) hb (neC b o e hx) (I.base.keep b o e n hb hx) (I.base.free b o e n hx)
 ·obtain⟨sl,e1⟩:=I.base.slot b o e n hb hx
  obtain⟨sl',e2⟩:=slot b _ (neL b o e) hb (neC b o e hx) e1 (I.base.free b o e n hx)
  exact⟨sl',e2⟩
 ·obtain⟨o',e1⟩:=I.base.there b o e hx
  exact free b o' (neC b o e hx) e1 (I.base.free b o e n hx)
 ·obtain⟨o',e1⟩:=I.base.there b o e hx
  exact there b o' (neC b o e hx) e1
 ·obtain⟨m1,e1⟩:=I.base.tbls b ps e
  obtain⟨m2,e2⟩:=tbls b _ e1
  exact⟨m1++m2,by rw[e2,Array.append_assoc]⟩
 ·obtain⟨m,hn,hl⟩:=I.loc
  refine⟨m,ns m hn,λ i x v e1 e2 e3=>?_⟩
  obtain⟨u,r,l⟩:=hl i x v e1 e2 e3
  refine⟨u,r,?_⟩
  rcases l with l | ⟨k,c,e,z⟩
  ·exact .inl l
  ·exact .inr ⟨k,c,e,cellK x c e _ z⟩
 ·obtain⟨v,z⟩:=I.cell x c e
  exact⟨v,cellK x c e v z⟩
 ·obtain⟨m,⟨o,_,_,ho,_⟩,_⟩:=I.loc
  exact free _ o (λ z=>(hch _ z).2.1 rfl) ho I.free
 ·obtain⟨v,o,ho,hd⟩:=I.cell x c e
  exact free c o (λ z=>(hch c z).2.2.1 x c e rfl) ho (I.freeC x c e)
 ·obtain⟨e,n,ne,nf,d⟩:=I.pin p hp
  have nch:p.1∉ch:=λ z=>(hch p.1 z).2.2.2 p hp rfl
  exact⟨keep p.1 p.2 ne nf nch e n,free p.1 p.2 nch e n,ne,nf,d⟩
theorem Inv.un {t':Nat}(I:Inv X pins σ H s)(u:Un X.fs [] H H' s.heap h')(hok:HOk X.prog X.w H' h'):Inv X pins σ H' { s with heap:=h',toks:=t' }:=by
 obtain⟨m,⟨o,es,ep,ho,r⟩,_⟩:=id I.loc
 obtain⟨sl,hL⟩:=u.any ho I.free (by simp)
 exact I.step (g':=s.gens) (d':=s.drawn) (ch:=[]) (λ _ z=>nomatch z) (λ b o _ hb _ e n=>u.keep b o e n hb (by simp)) (λ b o _ hb _ e n=>u.slot b o e n hb (by simp)) (λ b o _ e n=>u.free b o e n (by simp)) (λ b o _ e=>u.there b o e (by simp)) u.tups u.frzs u.tbls (λ m' hm=>by
  obtain⟨o',es',ep',ho',r'⟩:=hm
  rw[ho] at ho';cases ho'
  exact⟨_,es',ep',hL,r'⟩) hok I.bare
theorem Inv.call {g':Array GenState}{t':Nat}{d':Drawn}{ch:List l7}(I:Inv X pins σ H s)(u:Un (frs X.stack) ch H H' s.heap h')(hok:HOk X.prog X.w H' h')(hg:AllBare g')
  (hch:∀ b∈ch,(b∈X.ex\/X.s₀.heap.objs.size<=b)/\b≠X.env.locals/\(∀ x c,X.env.cells.lookup x=some c->c≠b)/\∀ p∈X.pn++pins,p.1≠b) :
  Inv X pins σ H' { s with heap:=h',gens:=g',drawn:=d',toks:=t' }:=by
 obtain⟨m,⟨o,es,ep,ho,r⟩,_⟩:=id I.loc
 obtain⟨sl,hL⟩:=u.any ho I.free λ z=>(hch _ z).2.1 rfl
 exact I.step (ch:=ch) hch (λ b o hL hb hc e n=>u.keep b o e n (λ z=>(j4.mp (I.stkSub b z)).elim hL hb) hc) (λ b o _ _ hc e n=>u.any e n hc) (λ b o hc e n=>u.free b o e n hc) (λ b o hc e=>u.there b o e hc) u.tups u.frzs u.tbls (λ m' hm=>by
  obtain⟨o',es',ep',ho',r'⟩:=hm
  rw[ho] at ho';cases ho'
  exact⟨_,es',ep',hL,r'⟩) hok hg
theorem Inv.turned {t':Nat}{it:l7}(I:Inv X pins σ H s)(k:∀ b o,b≠it->s.heap.get? b=some o->h'.get? b=some o)(hn:H it=none)(hL:it≠X.env.locals)
  (h1:it∈X.ex\/X.s₀.heap.objs.size<=it) (h2:∀ x c,X.env.cells.lookup x=some c->c≠it) (h3:∀ p∈X.pn++pins,p.1≠it):Inv X pins σ H { s with heap:=h',toks:=t' }:=by
 have nit:∀ b u,H b=some u->b≠it:=λ b u e z=>by rw[z,hn] at e;cases e
 refine I.step (g':=s.gens) (d':=s.drawn) (ch:=[it]) (λ b hb=>?_) (λ b o _ _ hc e _=>k b o (λ z=>hc (by simp [z])) e) (λ b o _ _ hc e _=>⟨o.slots,k b o (λ z=>hc (by simp [z])) e⟩) (λ _ _ _ _ n=>n)
  (λ b o hc e=>⟨o,k b o (λ z=>hc (by simp [z])) e⟩) (λ _ _ e=>e) (λ _ _ _ e=>e) (λ b ps e=>⟨#[],by rw[e];simp⟩) (λ m hm=>?_) (λ b u e=>?_) I.bare
 ·have e:b=it:=by simpa using hb
  subst e
  exact⟨h1,hL,h2,h3⟩
 ·obtain⟨o,es,ep,ho,r⟩:=hm
  exact⟨o,es,ep,k _ o (Ne.symm hL) ho,r⟩
 ·refine (I.hok b u e).stay (λ c v hc q=>k c v ?_ q) (λ _ q=>q) λ _ _ q=>q
  rcases hc with z | z
  ·rw[z];exact nit b u e
  ·exact nit c _ z
theorem Inv.tok (I:Inv X pins σ H s)(t:Nat):Inv X pins σ H { s with toks:=t }:=I.un (h':=s.heap) (t':=t) Un.refl I.hok
theorem Inv.kept {t':Nat}(I:Inv X pins σ H s)(k:∀ b u,s.heap.get? b=some u->h'.get? b=some u):Inv X pins σ H { s with heap:=h',toks:=t' }:=I.un (Un.kept k) (I.hok.kept k)
theorem Inv.laid {a:l7}{o:HO}{t':Nat}(I:Inv X pins σ H s)(k:∀ b u,s.heap.get? b=some u->h'.get? b=some u)(hp:s.heap.objs.size<=a)(new:ObjOk X.prog X.w (upd H a o) h' a o) :
  Inv X pins σ (upd H a o) { s with heap:=h',toks:=t' }:=I.un (Un.laid k hp (I.hok.fresh hp)) (I.hok.laid k hp new)
theorem Inv.write {x e:l7}{o:HO}{t':Nat}(I:Inv X pins σ H s)(mu:Mut (H x))(he:e=x\/H e=some (.own x))(k:∀ b u,b≠e->s.heap.get? b=some u->h'.get? b=some u)(heo:∃ u,h'.get? e=some u)
  (new:ObjOk X.prog X.w (upd H x o) h' x o):Inv X pins σ (upd H x o) { s with heap:=h',toks:=t' }:=I.un (Un.write mu he k heo) (I.hok.write mu he k heo new)
theorem Inv.pins_of {pins':List (l7 × Obj)}(I:Inv X pins σ H s)(h:∀ p∈pins',s.heap.get? p.1=some p.2/\H p.1=none/\p.1≠X.env.locals/\p.1∉X.fs/\∀ v,p.2.data≠.cell v):Inv X pins' σ H s :=
 ⟨I.ok,I.os,I.bare,I.base,I.loc,I.cell,I.free,I.freeC,λ p hp=>(u4.mp hp).elim (λ z=>I.pin p (ubw _ z)) (h p),I.hok,I.len⟩
theorem nS {N:List Str}(hN:N.Nodup){i j:Nat}{x:Str}(a:N[i]?=some x)(b:N[j]?=some x):i=j:=by
 obtain⟨h1,e1⟩:=j7.mp a
 obtain⟨h2,e2⟩:=j7.mp b
 exact (List.getElem_inj hN).mp (e1.trans e2.symm)
theorem xZ {M:Model}{A:uae}{E:c9->d7->Prop}{i:Nat}{x:Str}{v:V}{u:c9}{Q:Unit->d7->Prop}(I:Inv X pins σ H s)(hN:X.N.Nodup)(hi:X.N[i]?=some x)(hx:Loc X.env.scope x)(r:RelV v u)
  (h:∀ s',Inv X pins (σ.set i (some v)) H s'->(∃ a,Heap.SameBut a s.heap s'.heap/\(a=X.env.locals\/X.env.cells.lookup x=some a))->Q () s') (hf:X.fn x=true\/X.env.scope.names.lookup x=some .local:=by first | exact .inl rfl | exact .inr rfl | assumption):j9 M A (storeName X.env x u) Q E s:=by
 obtain⟨m,hn,hl⟩:=id I.loc
 have hcls:(X.env.scope.kind==.class||(X.env.scope.kind==.module&&X.env.locals != X.env.globals))=false:=by rw[I.ok.kind];rfl
 have hiσ:i<σ.length:=by rw[I.len];exact (j7.mp hi).1
 have cne:=I.cne
 have tracked:∀ {a:l7}{h':Heap},(∃ o,s.heap.get? a=some o/\H a=none)->Heap.SameBut a s.heap h'->HOk X.prog X.w H h':=λ {a h'} ha hs b ob e=>by
  obtain⟨_,_,hfree⟩:=ha
  refine (I.hok b ob e).stay (λ c w' hc q=>(hs.2 c ?_).trans q) (λ _ q=>q) λ _ _ q=>q
  rintro rfl
  rcases hc with rfl | hc
  ·rw[hfree] at e;cases e
  ·rw[hfree] at hc;cases hc
 rcases hx with hk | hk
 ·refine wpAny_storeName_local hk hn (λ h' hn' hs=>?_) hcls
  obtain⟨oL,_,_,hoL,_⟩:=id hn
  refine h _ ⟨I.ok,I.os,I.bare,⟨λ b o e n hb hx=>?_,λ b o e n hb hx=>?_,I.base.free,λ b o e hx=>?_,I.base.tups,I.base.frzs,I.base.tbls⟩,⟨_,hn',λ j y v' e1 e2 e3=>?_⟩,λ y c e=>?_,I.free,I.freeC,λ p hp=>?_,tracked ⟨oL,hoL,I.free⟩ hs,by simpa using I.len⟩ ⟨_,hs,.inl rfl⟩
  ·exact (hs.2 b (j8 (p8 (j0 e) I.ok.above))).trans (I.base.keep b o e n hb hx)
  ·obtain⟨sl,e1⟩:=I.base.slot b o e n hb hx
   exact⟨sl,(hs.2 b (j8 (p8 (j0 e) I.ok.above))).trans e1⟩
  ·obtain⟨o',e1⟩:=I.base.there b o e hx
   exact⟨o',(hs.2 b (j8 (p8 (j0 e) I.ok.above))).trans e1⟩
  ·by_cases hj:j=i
   ·subst hj
    rw[hi] at e1;cases e1
    rw[ue4 hiσ] at e2
    cases e2
    exact⟨u,r,.inl ⟨hk,by simp⟩⟩
   ·rw[ufk (Ne.symm hj)] at e2
    obtain⟨u',r',q⟩:=hl j y v' e1 e2 e3
    refine⟨u',r',?_⟩
    rcases q with ⟨k,e⟩ | ⟨k,c,e,z⟩
    ·refine .inl ⟨k,?_⟩
     have:y≠x:=λ e=>hj (nS hN e1 (e ▸ hi))
     simp [this,e]
    ·exact .inr ⟨k,c,e,z.sameBut hs (cne y c e)⟩
  ·obtain⟨w',z⟩:=I.cell y c e
   exact⟨w',z.sameBut hs (cne y c e)⟩
  ·obtain⟨e,n,ne,nf,d⟩:=I.pin p hp
   exact⟨(hs.2 p.1 ne).trans e,n,ne,nf,d⟩
 ·have hfn:X.fn x=true:=by
   rcases hf with z | z
   ·exact z
   ·rw[z] at hk;cases hk
  obtain⟨c,hc⟩:=I.ok.has x (.inl hk)
  obtain⟨w',z⟩:=I.cell x c hc
  refine wpAny_storeName_cell I.ok.kind hk hc z (λ h' hc' hs=>?_)
  obtain⟨oc,hoc,hocd⟩:=id z
  refine h { s with heap:=h' } ⟨I.ok,I.os,I.bare,⟨λ b o e n hb hx=>?_,λ b o e n hb hx=>?_,I.base.free,λ b o e hx=>?_,I.base.tups,I.base.frzs,I.base.tbls⟩,⟨m,hn.sameBut hs (Ne.symm (cne x c hc)),λ j y v' e1 e2 e3=>?_⟩,λ y c' e=>?_,I.free,I.freeC,λ p hp=>?_,tracked ⟨oc,hoc,I.freeC x c hc⟩ hs,by simpa using I.len⟩ ⟨c,hs,.inr hc⟩
  ·exact (hs.2 b (j8 (p8 (j0 e) (I.ok.cab x c hfn hc)))).trans (I.base.keep b o e n hb hx)
  ·obtain⟨sl,e1⟩:=I.base.slot b o e n hb hx
   exact⟨sl,(hs.2 b (j8 (p8 (j0 e) (I.ok.cab x c hfn hc)))).trans e1⟩
  ·obtain⟨o',e1⟩:=I.base.there b o e hx
   exact⟨o',(hs.2 b (j8 (p8 (j0 e) (I.ok.cab x c hfn hc)))).trans e1⟩
  ·by_cases hj:j=i
   ·subst hj
    rw[hi] at e1;cases e1
    rw[ue4 hiσ] at e2
    cases e2
    exact⟨u,r,.inr ⟨.inl hk,c,hc,hc'⟩⟩
   ·rw[ufk (Ne.symm hj)] at e2
    obtain⟨u',r',q⟩:=hl j y v' e1 e2 e3
    refine⟨u',r',?_⟩
    rcases q with q | ⟨k,c',e,z'⟩
    ·exact .inl q
    ·refine .inr ⟨k,c',e,z'.sameBut hs ?_⟩
     rintro rfl
     exact hj (nS hN e1 (I.ok.inj _ _ _ e hc ▸ hi))
  ·by_cases hcc:c'=c
   ·subst hcc;exact⟨_,hc'⟩
   ·obtain⟨w2,z2⟩:=I.cell y c' e
    exact⟨w2,z2.sameBut hs hcc⟩
  ·obtain⟨e,n,ne,nf,d⟩:=I.pin p hp
   refine⟨(hs.2 p.1 ?_).trans e,n,ne,nf,d⟩
   intro q
   rw[q,hoc] at e
   have q':oc=p.2:=uav e
   exact d w' (by rw[← q'];exact hocd)
theorem nE {M:Model}{A:uae}{E:c9->d7->Prop}{i:Nat}{x:Str}{v:V}{u:c9}{Q:Unit->d7->Prop}(I:Inv X pins σ H s)(hN:X.N.Nodup)(hi:X.N[i]?=some x)(hx:Loc X.env.scope x)(r:RelV v u)
  (h:∀ s',Inv X pins (σ.set i (some v)) H s'->Q () s') (hf:X.fn x=true\/X.env.scope.names.lookup x=some .local:=by first | exact .inl rfl | exact .inr rfl | assumption):j9 M A (storeName X.env x u) Q E s :=
 xZ I hN hi hx r (λ s' I' _=>h s' I') hf
theorem Inv.call' {s':d7}{ch:List l7}(I:Inv X pins σ H s)(ho:s'.os=s.os)(u:Un (frs X.stack) ch H H' s.heap s'.heap)(hok:HOk X.prog X.w H' s'.heap)(hg:AllBare s'.gens)
  (hch:∀ b∈ch,(b∈X.ex\/X.s₀.heap.objs.size<=b)/\b≠X.env.locals/\(∀ x c,X.env.cells.lookup x=some c->c≠b)/\∀ p∈X.pn++pins,p.1≠b):Inv X pins σ H' s':=by
 obtain⟨h',g',d',t',o'⟩:=s'
 have e:o'=s.os:=ho
 subst e
 exact I.call (g':=g') (t':=t') (d':=d') u hok hg hch
end
abbrev XK:=c9->Option l7->Hp->Prop
abbrev St:=List (Option V)
abbrev VK:=V->Hp->Prop
abbrev TE:=St->Hp->VK->Prop
abbrev TT:=St->Hp->(Bool->Hp->Prop)->Prop
abbrev TA:=St->Hp->(List V->Hp->Prop)->Prop
structure Ends where
 nx:St->Hp->Prop
 rt:VK
 bk:St->Hp->Prop:=λ _ _=>False
 ct:St->Hp->Prop:=λ _ _=>False
abbrev TS:=Ends->St->Hp->Prop
def EP (X:Cx)(pins:List (l7 × Obj))(σ:St)(Q:VK)(u:c9)(s':d7):Prop:=∃ v H',Inv X pins σ H' s'/\RelV v u/\Q v H'
def TP (X:Cx)(pins:List (l7 × Obj))(σ:St)(Q:Bool->Hp->Prop)(b:Bool)(s':d7):Prop:=∃ H',Inv X pins σ H' s'/\Q b H'
def AP (X:Cx)(pins:List (l7 × Obj))(σ:St)(Q:List V->Hp->Prop)(us:List c9)(s':d7):Prop:=∃ vs H',Inv X pins σ H' s'/\Vals vs us/\Q vs H'
def SP (X:Cx)(pins:List (l7 × Obj))(D:Ends)(f:Flow)(s':d7):Prop :=
 match f with
 | .next=>∃ σ' H',Inv X pins σ' H' s'/\D.nx σ' H'
 | .brk=>∃ σ' H',Inv X pins σ' H' s'/\D.bk σ' H'
 | .cont=>∃ σ' H',Inv X pins σ' H' s'/\D.ct σ' H'
 | .ret u=>∃ v σ' H',Inv X pins σ' H' s'/\RelV v u/\D.rt v H'
def PE (X:Cx)(e:uct)(t:TE):Prop :=
 ∀ (pins:List (l7 × Obj))(s:d7)(σ:St)(H:Hp)(Q:VK),Inv X pins σ H s->t σ H Q->j9 (o9 X.prog X.w) X.A (eval e X.env) (EP X pins σ Q) X.xe s
def PT (X:Cx)(e:uct)(t:TT):Prop :=
 ∀ (pins:List (l7 × Obj))(s:d7)(σ:St)(H:Hp)(Q:Bool->Hp->Prop),Inv X pins σ H s->t σ H Q->j9 (o9 X.prog X.w) X.A (isTrue e X.env (eval e X.env)) (TP X pins σ Q) X.xe s
def PW (X:Cx)(e:uct)(t:TT):Prop :=
 ∀ (whole:Sem c9)(pins:List (l7 × Obj))(s:d7)(σ:St)(H:Hp)(Q:Bool->Hp->Prop),Inv X pins σ H s->t σ H Q->j9 (o9 X.prog X.w) X.A (isTrue e X.env whole) (TP X pins σ Q) X.xe s
theorem PW.pt {X:Cx}{e:uct}{t:TT}(h:PW X e t):PT X e t:=h _
def PA (X:Cx)(es:List uct)(t:TA):Prop :=
 ∀ (pos:Pos)(pins:List (l7 × Obj))(s:d7)(σ:St)(H:Hp)(Q:List V->Hp->Prop),Inv X pins σ H s->t σ H Q->j9 (o9 X.prog X.w) X.A (spliced (backTo pos (ubc es X.env))) (AP X pins σ Q) X.xe s
def PS (X:Cx)(st:udi)(t:TS):Prop :=
 ∀ (pins:List (l7 × Obj))(s:d7)(σ:St)(H:Hp)(D:Ends),Inv X pins σ H s->t D σ H->j9 (o9 X.prog X.w) X.A (exec st X.env) (SP X pins D) X.xe s
def PSs (X:Cx)(st:List udi)(t:TS):Prop :=
 ∀ (pins:List (l7 × Obj))(s:d7)(σ:St)(H:Hp)(D:Ends),Inv X pins σ H s->t D σ H->j9 (o9 X.prog X.w) X.A (execs st X.env) (SP X pins D) X.xe s
theorem thn {α:Type}{t:Sem α}{Q Q':α->d7->Prop}{M:Model}{A:uae}{E:c9->d7->Prop}{s:d7}(h:j9 M A t Q E s)(hQ:∀ a s,Q a s->Q' a s):j9 M A t Q' E s:=ub1 h hQ λ _ _ x=>x
end L2
namespace L2
open PySem PySem.Spec PyProof.Rows
section
variable {X:Cx}
inductive EVar (σ:L2.St)(i:Nat)(Q:V->Prop):Prop
 | mk:∀ v,(σ[i]?=some (some v))->Q v->EVar σ i Q
inductive EBl (x:V)(Q:Bool->Prop):Prop
 | mk:∀ c,(x=.bl c)->Q c->EBl x Q
inductive EInt (x:V)(Q:Int->Prop):Prop
 | mk:∀ i,(x=.int i)->Q i->EInt x Q
inductive ERef (x:V)(Q:l7->Prop):Prop
 | mk:∀ a,(x=.ref a)->Q a->ERef x Q
inductive EOne (vs:List V)(Q:Int->Prop):Prop
 | mk:∀ j,(vs=[.int j])->Q j->EOne vs Q
inductive ETwo (vs:List V)(Q:V->V->Prop):Prop
 | mk:∀ v w,(vs=[v,w])->Q v w->ETwo vs Q
def tVar (i:Nat):TE:=λ σ H Q=>EVar σ i λ v=>Q v H
def tC (v:V):TE:=λ _ H Q=>Q v H
theorem zdm {i:Nat}{x:Str}{pos:Pos}(hN:X.N[i]?=some x)(hv:Vis X.env.scope x)(hd:(x==("__debug__":Str))=false:=by decide)(hcd:(x==("__classdict__":Str))=false:=by decide):PE X (.Name x pos) (tVar i):=by
 intro pins s σ H Q I h
 obtain⟨v,e,h⟩:=h
 obtain⟨m,hn,hl⟩:=I.loc
 obtain⟨u,r,l⟩:=hl i x v hN e hv
 have fin:EP X pins σ Q u s:=⟨v,H,I,r,h⟩
 rcases l with ⟨hk,hm⟩ | ⟨hk,c,hc,hcell⟩
 ·exact wpAny_Name (wpAny_loadName_local I.ok.kind hk hn hm fin) hd
 ·rcases hk with hk | hk
  ·exact wpAny_Name (wpAny_loadName_cell I.ok.kind hk hc hcell fin) hd
  ·exact wpAny_Name (wpAny_loadName_free I.ok.kind hk hc hcell fin hcd) hd
theorem aC {i j pos}:PE X (.Constant (.int i) j pos) (tC (.int i)):=λ _ _ _ H _ I h=>wpAny_Constant_int ⟨.int i,H,I.tok _,⟨_,rfl⟩,h⟩
theorem bP {b j pos}:PE X (.Constant (.bool b) j pos) (tC (.bl b)):=λ _ _ _ H _ I h=>Constant_bool ⟨.bl b,H,I,rfl,h⟩
theorem bO {j pos}:PE X (.Constant .none j pos) (tC .non):=λ _ _ _ H _ I h=>Constant_none ⟨.non,H,I,rfl,h⟩
def Gl (X:Cx)(x:Str):Prop:=X.env.kindOf x=some .globalImplicit
theorem zcs {E:c9->d7->Prop}{pins:List (l7 × Obj)}{s:d7}{σ:St}{H:Hp}{x:Str}{u:c9}{pos:Pos}{Q:c9->d7->Prop}(I:Inv X pins σ H s)(hg:Gl X x)(hm:X.mg x=some u)(h:Q u s)
  (hd:(x==("__debug__":Str))=false:=by decide):j9 (o9 X.prog X.w) X.A (eval (.Name x pos) X.env) Q E s :=
 Calls.Name_function_global I.ok.kind hg (Calls.loadGlobal_global (by rw[I.ok.glob];exact I.mod.glob.keeps I.bk) hm h) hd
theorem dN {E:c9->d7->Prop}{pins:List (l7 × Obj)}{s:d7}{σ:St}{H:Hp}{x:Str}{u:c9}{pos:Pos}{Q:c9->d7->Prop}(I:Inv X pins σ H s)(hg:Gl X x)(hm:X.mg x=none)(hv:bootBuiltins x=some u)(h:Q u s)
  (hn:x≠"__name__":=by decide) (hd:(x==("__debug__":Str))=false:=by decide):j9 (o9 X.prog X.w) X.A (eval (.Name x pos) X.env) Q E s:=by
 obtain⟨mb,h1,h2⟩:=I.mod.blt
 exact Calls.Name_function_global I.ok.kind hg (Calls.loadGlobal_builtin (by rw[I.ok.glob];exact I.mod.glob.keeps I.bk) hm (by rw[I.ok.blt];exact h1.keeps I.bk) ((h2 x hn).trans hv) h) hd
theorem eR {x:Str}{v:V}{u:c9}{pos:Pos}(hg:Gl X x)(hm:X.mg x=none)(hv:bootBuiltins x=some u)(r:RelV v u)(hn:x≠"__name__":=by decide)(hd:(x==("__debug__":Str))=false:=by decide):PE X (.Name x pos) (tC v) :=
 λ _ _ _ H _ I h=>dN I hg hm hv ⟨v,H,I,r,h⟩ hn hd
variable {a b:uct}{ta tb:TE}{pos:Pos}
def tB (t:TE):TT:=λ σ H Q=>t σ H λ x H1=>EBl x λ c=>Q c H1
theorem cI {e:uct}{t:TE}(h:PE X e t)(he:∀ whole,isTrue e X.env whole=(do let v ← whole;standAt e.pos;holding [v] (truthy v)):=by intro _;rfl):PT X e (tB t):=by
 intro pins s σ H Q I hw
 refine isTrue_plain (thn (h pins s σ H _ I hw) λ v s1 ⟨x,H1,I1,r1,q1⟩=>?_) (he _)
 obtain⟨d,rfl,q⟩:=q1
 cases r1
 exact ucr ⟨H1,I1,q⟩
variable {tA tB':TT}{rest:List uct}
def tAnd (t u:TT):TT:=λ σ H Q=>t σ H λ c H1=>if c=true then u σ H1 Q else Q false H1
def tOr (t u:TT):TT:=λ σ H Q=>t σ H λ c H1=>if c=true then Q true H1 else u σ H1 Q
def tNot (t:TT):TT:=λ σ H Q=>t σ H λ c H1=>Q (!c) H1
theorem pF (ha:PT X a tA):PW X (.BoolOp .And [a] pos) tA:=by
 intro wh pins s σ H Q I h
 refine isTrue_and (thn (ha pins s σ H Q I h) λ c s1 e=>?_)
 cases c with
 | true=>exact isTrue_and_nil e
 | false=>exact e
theorem cX (ha:PT X a tA):PW X (.BoolOp .Or [a] pos) tA:=by
 intro wh pins s σ H Q I h
 refine isTrue_or (thn (ha pins s σ H Q I h) λ c s1 e=>?_)
 cases c with
 | false=>exact isTrue_or_nil e
 | true=>exact e
theorem kI (ha:PT X a tA)(hb:PW X (.BoolOp .And (b::rest) pos) tB'):PW X (.BoolOp .And (a::b::rest) pos) (tAnd tA tB'):=by
 intro wh pins s σ H Q I h
 refine isTrue_and (thn (ha pins s σ H _ I h) λ c s1 ⟨H1,I1,q1⟩=>?_)
 cases c with
 | true=>exact hb wh pins s1 σ H1 Q I1 q1
 | false=>exact⟨H1,I1,q1⟩
theorem cN (ha:PT X a tA)(hb:PW X (.BoolOp .Or (b::rest) pos) tB'):PW X (.BoolOp .Or (a::b::rest) pos) (tOr tA tB'):=by
 intro wh pins s σ H Q I h
 refine isTrue_or (thn (ha pins s σ H _ I h) λ c s1 ⟨H1,I1,q1⟩=>?_)
 cases c with
 | true=>exact⟨H1,I1,q1⟩
 | false=>exact hb wh pins s1 σ H1 Q I1 q1
theorem cP (ha:PT X a tA):PT X (.UnaryOp .Not a pos) (tNot tA):=by
 intro pins s σ H Q I h
 exact isTrue_not (ha pins s σ H (λ c H1=>Q (!c) H1) I h)
def tAndV (ta tb:TE):TE:=λ σ H Q=>ta σ H λ x H1=>EBl x λ c=>if c=true then tb σ H1 Q else Q (.bl false) H1
def tOrV (ta tb:TE):TE:=λ σ H Q=>ta σ H λ x H1=>EBl x λ c=>if c=true then Q (.bl true) H1 else tb σ H1 Q
def tNotV (ta:TE):TE:=λ σ H Q=>ta σ H λ x H1=>EBl x λ c=>Q (.bl (!c)) H1
theorem bX {op} {t:TE} (h:PE X a t):PE X (.BoolOp op [a] pos) t:=λ pins s σ H Q I hw=>BoolOp_one (h pins s σ H Q I hw)
theorem bZ (ha:PE X a ta)(hb:PE X (.BoolOp .And (b::rest) pos) tb):PE X (.BoolOp .And (a::b::rest) pos) (tAndV ta tb):=by
 intro pins s σ H Q I h
 refine BoolOp_and (thn (ha pins s σ H _ I h) λ v s1 ⟨x,H1,I1,r1,q1⟩=>?_)
 obtain⟨c,rfl,q1⟩:=q1
 cases r1
 refine ucr ?_
 cases c with
 | true=>exact hb pins s1 σ H1 Q I1 q1
 | false=>exact⟨.bl false,H1,I1,rfl,q1⟩
theorem kP (ha:PE X a ta)(hb:PE X (.BoolOp .Or (b::rest) pos) tb):PE X (.BoolOp .Or (a::b::rest) pos) (tOrV ta tb):=by
 intro pins s σ H Q I h
 refine BoolOp_or (thn (ha pins s σ H _ I h) λ v s1 ⟨x,H1,I1,r1,q1⟩=>?_)
 obtain⟨c,rfl,q1⟩:=q1
 cases r1
 refine ucr ?_
 cases c with
 | false=>exact hb pins s1 σ H1 Q I1 q1
 | true=>exact⟨.bl true,H1,I1,rfl,q1⟩
theorem zdn (ha:PE X a ta):PE X (.UnaryOp .Not a pos) (tNotV ta):=by
 intro pins s σ H Q I h
 refine UnaryOp_ (thn (ha pins s σ H _ I h) λ v s1 ⟨x,H1,I1,r1,q1⟩=>?_)
 obtain⟨c,rfl,q1⟩:=q1
 cases r1
 exact not_of (ucr ⟨.bl (!c),H1,I1,rfl,q1⟩)
def tIf (t:TT)(ta tb:TE):TE:=λ σ H Q=>t σ H λ c H1=>if c=true then ta σ H1 Q else tb σ H1 Q
theorem nP {c:uct}(hc:PT X c tA)(ha:PE X a ta)(hb:PE X b tb):PE X (.IfExp c a b pos) (tIf tA ta tb):=by
 intro pins s σ H Q I h
 refine wpAny_IfExp (thn (hc pins s σ H _ I h) λ d s1 ⟨H1,I1,q1⟩=>?_)
 cases d with
 | true=>exact ha pins s1 σ H1 Q I1 q1
 | false=>exact hb pins s1 σ H1 Q I1 q1
end
end L2
namespace L2
open PySem PySem.Spec PyProof.Rows
def SqL (K:b8)(H:Hp)(a:l7)(xs:List V):Prop :=
 Rd H a (.lst xs) \/
  ∃ (o:Obj)(its:Array c9)(n:Nat),K.lookup a=some o/\o.cls=.type "list"/\o.dict=none/\o.data=.seq its n/\its.size<=r9/\Vals xs its.toList
def SqT (K:b8)(H:Hp)(a:l7)(xs:List V):Prop :=
 Rd H a (.tup xs) \/
  ∃ (o:Obj)(its:Array c9)(n:Nat),K.lookup a=some o/\o.cls=.type "tuple"/\o.data=.seq its n/\its.size<=r9/\Vals xs its.toList
def absV:c9->Option V
 | .none=>some .non
 | .bool b=>some (.bl b)
 | .int i _=>some (.int i)
 | .str x _=>some (.str x)
 | .bytes b _=>some (.byt b)
 | .float b _=>some (.flt b)
 | .ref a=>some (.ref a)
 | .type n=>some (.ty n)
 | _=>none
theorem RelV.abs {x:V}{u:c9}(r:RelV x u):absV u=some x:=by
 cases x with
 | non=>cases r;rfl
 | bl _=>cases r;rfl
 | int _=>obtain⟨t,rfl⟩:=r;rfl
 | str _=>obtain⟨t,rfl⟩:=r;rfl
 | byt _=>obtain⟨t,rfl⟩:=r;rfl
 | flt _=>obtain⟨t,rfl⟩:=r;rfl
 | ref _=>cases r;rfl
 | ty _=>cases r;rfl
theorem RelV.inj {x y:V}{u:c9}(r:RelV x u)(q:RelV y u):x=y:=uav (r.abs.symm.trans q.abs)
theorem Vals.inj:∀ {xs ys:List V}{us:List c9},Vals xs us->Vals ys us->xs=ys
 | _,_,_,.nil,.nil=>rfl
 | _,_,_,.cons r t,.cons r' t'=>by rw[r.inj r',Vals.inj t t']
section
variable {X:Cx}{pins:List (l7 × Obj)}{σ:St}{H:Hp}{s:d7}{a:l7}{xs ys:List V}
theorem SqL.of {K:b8}(h:H a=some (.lst xs)):SqL K H a xs:=.inl (.inl h)
theorem SqT.of {K:b8}(h:H a=some (.tup xs)):SqT K H a xs:=.inl (.inl h)
theorem Inv.list (I:Inv X pins σ H s)(h:SqL X.K H a xs):∃ its:List c9,Vals xs its/\PlainL s.heap a its.toArray/\xs.length<=r9:=by
 rcases h with h | ⟨o,its,n,hk,hc,hd,hs,hz,r⟩
 ·obtain⟨z,its,n,r,e⟩:=h.ok I.hok
  exact⟨its,r,⟨_,n,e,rfl,rfl,rfl⟩,z⟩
 ·refine⟨its.toList,r,⟨o,n,I.kIn a o hk,hc,hd,by simpa using hs⟩,?_⟩
  have e:=r.length
  simp only [u6] at e
  left
theorem Inv.tuple (I:Inv X pins σ H s)(h:SqT X.K H a xs):∃ its:List c9,Vals xs its/\IsTup s.heap a its.toArray/\xs.length<=r9:=by
 rcases h with h | ⟨o,its,n,hk,hc,hs,hz,r⟩
 ·obtain⟨z,its,r,p⟩:=h.ok I.hok
  exact⟨its,r,p.tup,z⟩
 ·refine⟨its.toList,r,⟨o,I.kIn a o hk,hc,n,by simpa using hs⟩,?_⟩
  have e:=r.length
  simp only [u6] at e
  left
theorem Inv.list_inj (I:Inv X pins σ H s)(h:SqL X.K H a xs)(h':SqL X.K H a ys):xs=ys:=by
 obtain⟨its,r,⟨o,n,e,_,_,d⟩,_⟩:=I.list h
 obtain⟨its',r',⟨o',n',e',_,_,d'⟩,_⟩:=I.list h'
 rw[e] at e';cases e'
 rw[d] at d'
 injection d' with d1 _
 have:its=its':=by simpa using congrArg Array.toList d1
 subst this
 exact r.inj r'
theorem Inv.tuple_inj (I:Inv X pins σ H s)(h:SqT X.K H a xs)(h':SqT X.K H a ys):xs=ys:=by
 obtain⟨its,r,⟨o,e,_,n,d⟩,_⟩:=I.tuple h
 obtain⟨its',r',⟨o',e',_,n',d'⟩,_⟩:=I.tuple h'
 rw[e] at e';cases e'
 rw[d] at d'
 injection d' with d1 _
 have:its=its':=by simpa using congrArg Array.toList d1
 subst this
 exact r.inj r'
end
abbrev Cx.wish (X:Cx)(E:c9->d7->Prop):Cx:={ X with xe:=E }
abbrev Cx.nox (X:Cx):Cx:=X.wish λ _ _=>False
theorem Cx.Ok.wish {X:Cx}(ok:X.Ok)(E:c9->d7->Prop):(X.wish E).Ok :=
 ⟨ok.mod,ok.kind,ok.glob,ok.blt,ok.above,ok.inj,ok.has,ok.cab,ok.hd,ok.frames,ok.stk,ok.exf,ok.bs,ok.bsz,ok.noex,ok.exfs,ok.funs,ok.frf⟩
theorem Cx.Ok.unwish {X:Cx}{E:c9->d7->Prop}(ok:(X.wish E).Ok):X.Ok :=
 ⟨ok.mod,ok.kind,ok.glob,ok.blt,ok.above,ok.inj,ok.has,ok.cab,ok.hd,ok.frames,ok.stk,ok.exf,ok.bs,ok.bsz,ok.noex,ok.exfs,ok.funs,ok.frf⟩
section
variable {X:Cx}{pins:List (l7 × Obj)}{σ:St}{H:Hp}{s:d7}{E:c9->d7->Prop}
theorem Inv.wish (I:Inv X pins σ H s)(E:c9->d7->Prop):Inv (X.wish E) pins σ H s:=⟨I.ok.wish E,I.os,I.bare,I.base,I.loc,I.cell,I.free,I.freeC,I.pin,I.hok,I.len⟩
theorem Inv.unwish (I:Inv (X.wish E) pins σ H s):Inv X pins σ H s:=⟨I.ok.unwish,I.os,I.bare,I.base,I.loc,I.cell,I.free,I.freeC,I.pin,I.hok,I.len⟩
theorem SP.unwish {D:Ends}{f:Flow}{s':d7}(h:SP (X.wish E) pins D f s'):SP X pins D f s':=by
 cases f with
 | next=>obtain⟨σ',H',I,q⟩:=h;exact⟨σ',H',I.unwish,q⟩
 | brk=>obtain⟨σ',H',I,q⟩:=h;exact⟨σ',H',I.unwish,q⟩
 | cont=>obtain⟨σ',H',I,q⟩:=h;exact⟨σ',H',I.unwish,q⟩
 | ret u=>obtain⟨v,σ',H',I,r,q⟩:=h;exact⟨v,σ',H',I.unwish,r,q⟩
theorem PSs.nox {st:List udi}{t:TS}(h:PSs X.nox st t):PSs X st t:=λ pins s σ H D I hw =>
 ub1 (h pins s σ H D (I.wish _) hw) (λ _ _ q=>q.unwish) λ _ _ z=>False.elim z
end
section
variable {X:Cx}{st:udi}{rest:List udi}{t u:TS}{e:uct}{te:TE}{pos:Pos}
def tNext:TS:=λ D σ H=>D.nx σ H
def tSeq (t u:TS):TS:=λ D σ H=>t { D with nx:=u D } σ H
theorem aV:PSs X [] tNext:=λ _ _ σ H _ I h=>ufp ⟨σ,H,I,h⟩
theorem aG (h1:PS X st t)(h2:PSs X rest u):PSs X (st::rest) (tSeq t u):=by
 intro pins s σ H D I h
 refine wpAny_execs_cons (thn (h1 pins s σ H { D with nx:=u D } I h) λ f s1 q=>?_)
 cases f with
 | next =>
  obtain⟨σ',H',I',q⟩:=q
  exact h2 pins s1 σ' H' D I' q
 | ret v=>exact q
 | brk=>exact q
 | cont=>exact q
theorem aE (h1:PS X st t):PSs X [st] t:=by
 intro pins s σ H D I h
 refine wpAny_execs_cons (thn (h1 pins s σ H D I h) λ f s1 q=>?_)
 cases f with
 | next=>exact ufp q
 | ret v=>exact q
 | brk=>exact q
 | cont=>exact q
def tCont:TS:=λ D σ H=>D.ct σ H
theorem vS:PS X (.Continue pos) tCont:=λ _ _ σ H _ I h=>wpAny_Continue ⟨σ,H,I,h⟩
theorem Inv.quiet {pins:List (l7 × Obj)}{σ:St}{H:Hp}{s:d7}(I:Inv X pins σ H s):interactive X.env=false:=by simp [interactive,I.ok.kind]
def tDrop (te:TE):TS:=λ D σ H=>te σ H λ _ H1=>D.nx σ H1
theorem dW (he:PE X e te)(hs:swapsWith e none pos.line X.env=pure false:=by rfl):PS X (.Expr e pos) (tDrop te):=by
 intro pins s σ H D I h
 exact wpAny_Expr_any (thn (he pins s σ H _ I h) λ v s1 ⟨x,H1,I1,r1,q1⟩=>⟨σ,H1,I1,q1⟩) I.quiet hs
def tRet (te:TE):TS:=λ D σ H=>te σ H D.rt
theorem aL (he:PE X e te):PS X (.Return (some e) pos) (tRet te):=by
 intro pins s σ H D I h
 exact wpAny_Return_some (thn (he pins s σ H _ I h) λ v s1 ⟨x,H1,I1,r1,q1⟩=>⟨x,σ,H1,I1,r1,q1⟩)
def tIfS (c:TT)(t u:TS):TS:=λ D σ H=>c σ H λ b H1=>if b=true then t D σ H1 else u D σ H1
theorem aX {c:uct}{a b:List udi}{tc:TT}(hc:PT X c tc)(ha:PSs X a t)(hb:PSs X b u):PS X (.If c a b pos) (tIfS tc t u):=by
 intro pins s σ H D I h
 refine wpAny_If (thn (hc pins s σ H _ I h) λ d s1 ⟨H1,I1,q1⟩=>?_)
 cases d with
 | true=>exact ha pins s1 σ H1 D I1 q1
 | false=>exact hb pins s1 σ H1 D I1 q1
end
abbrev TG:=V->St->Hp->(St->Hp->Prop)->Prop
abbrev TGs:=List V->St->Hp->(St->Hp->Prop)->Prop
def PG (X:Cx)(target:uct)(t:TG):Prop :=
 ∀ (pins:List (l7 × Obj))(s:d7)(σ:St)(H:Hp)(v:V)(u:c9)(Q:St->Hp->Prop),Inv X pins σ H s->RelV v u->t v σ H Q ->
  j9 (o9 X.prog X.w) X.A (assign target X.env u) (λ _ s'=>∃ σ' H',Inv X pins σ' H' s'/\Q σ' H') X.xe s
def PGs (X:Cx)(ts:List uct)(t:TGs):Prop :=
 ∀ (pins:List (l7 × Obj))(s:d7)(σ:St)(H:Hp)(vs:List V)(us:List c9)(Q:St->Hp->Prop),Inv X pins σ H s->Vals vs us->t vs σ H Q ->
  j9 (o9 X.prog X.w) X.A (assignInOrder ((assignEach ts X.env).map (·.2)) us) (λ _ s'=>∃ σ' H',Inv X pins σ' H' s'/\Q σ' H') X.xe s
abbrev TSet:=V->V->V->Hp->(Hp->Prop)->Prop
def PSet (X:Cx)(t:TSet):Prop :=
 ∀ (pins:List (l7 × Obj))(s:d7)(σ:St)(H:Hp)(o i v:V)(ov iv u:c9)(Q:Hp->Prop),Inv X pins σ H s->RelV o ov->RelV i iv->RelV v u->t o i v H Q ->
  j9 (o9 X.prog X.w) X.A (setItem ov iv u) (λ _ s'=>∃ H',Inv X pins σ H' s'/\Q H') X.xe s
section
variable {X:Cx}{pos:Pos}
def gName (i:Nat):TG:=λ v σ H Q=>Q (σ.set i (some v)) H
theorem aH {i:Nat}{x:Str}(hN:X.N.Nodup)(hi:X.N[i]?=some x)(hx:Loc X.env.scope x)(hf:X.fn x=true\/X.env.scope.names.lookup x=some .local:=by first | exact .inl rfl | exact .inr rfl | assumption):PG X (.Name x pos) (gName i):=by
 intro pins s σ H v u Q I r h
 exact wpAny_assign_Name (nE I hN hi hx r (λ s' I'=>⟨_,H,I',h⟩) hf)
def gNil:TGs:=λ vs σ H Q=>vs=[]/\Q σ H
inductive gCons_i (t:TG)(u:TGs)(vs:List V)(σ:L2.St)(H:Hp)(Q:L2.St->Hp->Prop):Prop
 | mk:∀ v r,(vs=v::r)->(t v σ H λ σ' H'=>u r σ' H' Q)->gCons_i t u vs σ H Q
def gCons (t:TG)(u:TGs):TGs:=λ vs σ H Q=>gCons_i t u vs σ H Q
theorem bD:PGs X [] gNil:=by
 intro pins s σ H vs us Q I r h
 obtain⟨e,h⟩:=h
 subst e
 cases r
 exact assignInOrder_nil ⟨σ,H,I,h⟩
theorem aP {e:uct}{es:List uct}{t:TG}{u:TGs}(h1:PG X e t)(h2:PGs X es u)
  (hs:(assignEach (e::es) X.env).map (·.2)=assign e X.env::(assignEach es X.env).map (·.2):=by rfl):PGs X (e::es) (gCons t u):=by
 intro pins s σ H vs us Q I r h
 obtain⟨v,vr,e1,h⟩:=h
 subst e1
 cases r with
 | cons r rr =>
  rw[hs]
  refine assignInOrder_cons (thn (h1 pins s σ H _ _ _ I r h) λ _ s1 ⟨σ1,H1,I1,q1⟩=>?_)
  exact h2 pins s1 σ1 H1 _ _ Q I1 rr q1
inductive gTup_i (K:b8)(n:Nat)(t:TGs)(v:V)(σ:L2.St)(H:Hp)(Q:L2.St->Hp->Prop):Prop
 | mk:∀ a xs,(v=.ref a)->(SqT K H a xs)->(xs.length=n)->(t xs σ H Q)->gTup_i K n t v σ H Q
def gTup (K:b8)(n:Nat)(t:TGs):TG:=λ v σ H Q=>gTup_i K n t v σ H Q
theorem bT {es:List uct}{k:Nat}{t:TGs}{n:Nat}(hc:X.calm=true)(h:PGs X es t)
  (hn:(assignEach es X.env).length=n:=by rfl) (hst:(assignEach es X.env).findIdx? (·.1)=none:=by rfl):PG X (.Tuple es k pos) (gTup X.K n t):=by
 intro pins s σ H v u Q I r hw
 obtain⟨a,xs,e1,hq,hl,hw⟩:=hw
 subst e1
 cases r
 obtain⟨its,rv,ht,hz⟩:=I.tuple hq
 refine assign_Tuple_tuple (I.ok.hd hc) ht (by simp [hn,← hl,rv.length]) hst λ h' hx=>?_
 have I1:Inv X pins σ H { s with heap:=h' }:=I.kept (t':=s.toks) λ b o e=>hx b o (j8 (j0 e)) e
 exact h pins _ σ H xs _ Q I1 (by simpa using rv) hw
def gSub (to ti:TE)(t:TSet):TG:=λ v σ H Q=>to σ H λ o H1=>ti σ H1 λ i H2=>t o i v H2 λ H3=>Q σ H3
theorem dY {o i:uct}{to ti:TE}{t:TSet}(ho:PE X o to)(hi:PE X i ti)(hs:PSet X t)
  (ha:∀ v,assign (.Subscript o i pos) X.env v=(do
   let ov ← holding [v] (eval o X.env)
   let iv ← holding [v,ov] (eval i X.env)
   standAt pos
   holding [v,ov,iv] (setItem ov iv v)
   release [v,ov,iv] []):=by intro _;rfl):PG X (.Subscript o i pos) (gSub to ti t):=by
 intro pins s σ H v u Q I r h
 rw[ha]
 refine a9 (ua0 (thn (ho pins s σ H _ I h) λ ov s1 ⟨x,H1,I1,r1,q1⟩=>?_))
 refine a9 (ua0 (thn (hi pins s1 σ H1 _ I1 q1) λ iv s2 ⟨y,H2,I2,r2,q2⟩=>?_))
 refine a9 (wpAny_standAt (a9 (ua0 (thn (hs pins s2 σ H2 x y v ov iv u _ I2 r1 r2 r q2) λ _ s3 ⟨H3,I3,q3⟩=>?_))))
 exact wpAny_release ⟨σ,H3,I3,q3⟩
def tAsg (te:TE)(g:TG):TS:=λ D σ H=>te σ H λ x H1=>g x σ H1 D.nx
theorem bS {tg e:uct}{te:TE}{g:TG}(he:PE X e te)(hg:PG X tg g)(hs:swapsWithSole [tg] e pos.line X.env=pure false:=by rfl)(hw:swappedStores [tg] e X.env=pure none:=by rfl)
  (h1:(assignEach [tg] X.env).map (·.2)=[assign tg X.env]:=by rfl):PS X (.Assign [tg] e pos) (tAsg te g):=by
 intro pins s σ H D I h
 refine wpAny_Assign_stores (thn (he pins s σ H _ I h) λ v s1 ⟨x,H1,I1,r1,q1⟩=>?_) hs hw
 rw[h1]
 exact thn (hg pins s1 σ H1 x v _ I1 r1 q1) λ _ s2 q=>q
theorem aR {i:Nat}{x:Str}{e:uct}{te:TE}{pos':Pos}(hN:X.N.Nodup)(hi:X.N[i]?=some x)(hx:Loc X.env.scope x)(he:PE X e te)(hs:swapsWith e (some (.Name x pos')) pos.line X.env=pure false:=by rfl)(hf:X.fn x=true\/X.env.scope.names.lookup x=some .local:=by first | exact .inl rfl | exact .inr rfl | assumption) :
  PS X (.Assign [.Name x pos'] e pos) (tAsg te (gName i)):=by
 intro pins s σ H D I h
 refine wpAny_Assign_Name (thn (he pins s σ H _ I h) λ v s1 ⟨y,H1,I1,r1,q1⟩=>?_) hs
 exact nE I1 hN hi hx r1 (λ s2 I2=>⟨_,H1,I2,q1⟩) hf
end
section
variable {X:Cx}{pos:Pos}
def tWhile (c:TT)(tb:TS):TS:=λ D σ H=>∃ W:Nat->St->Hp->Prop,(∃ m,W m σ H)/\∀ m σ H,W m σ H ->
 c σ H λ b H1=>if b=true then ∃ N:St->Hp->Prop,(∀ σ' H',N σ' H'->∃ m',m'<m/\W m' σ' H')/\tb { D with nx:=N,ct:=N,bk:=D.nx } σ H1 else D.nx σ H1
theorem nN {c:uct}{body:List udi}{tc:TT}{tb:TS}(hp:PassesOwn (o9 X.prog X.w) X.A X.env X.xe)(hc:PT X c tc)(hb:PSs X body tb):PS X (.While c body [] pos) (tWhile tc tb):=by
 intro pins s σ H D I h
 obtain⟨W,⟨m0,w0⟩,turn⟩:=h
 refine wpAny_While (codeAny_whileLoop (λ n s'=>∃ σ' H',Inv X pins σ' H' s'/\W n σ' H') ?_ m0 ⟨σ,H,I,w0⟩)
 rintro n s1 ⟨σ1,H1,I1,w1⟩
 refine uc8 hp (thn (hc pins s1 σ1 H1 _ I1 (turn n σ1 H1 w1)) λ b s2 ⟨H2,I2,q2⟩=>?_)
 cases b with
 | true =>
  obtain⟨N,hN,q2⟩:=q2
  rw[uhd rfl]
  refine uc8 hp (thn (hb pins s2 σ1 H2 _ I2 q2) λ f s3 q3=>?_)
  cases f with
  | next =>
   obtain⟨σ3,H3,I3,n3⟩:=q3
   obtain⟨m',hm,w3⟩:=hN σ3 H3 n3
   exact⟨m',hm,σ3,H3,I3,w3⟩
  | cont =>
   obtain⟨σ3,H3,I3,n3⟩:=q3
   obtain⟨m',hm,w3⟩:=hN σ3 H3 n3
   exact⟨m',hm,σ3,H3,I3,w3⟩
  | brk=>exact q3
  | ret v=>exact q3
 | false =>
  rw[uhe j6]
  exact ufp ⟨σ1,H2,I2,q2⟩
end
structure It where
 go:Nat->Hp->Prop
 yld:Nat->Hp->V->Hp->Prop
 stop:Nat->Hp->Prop
def FpOk (X:Cx)(pins:List (l7 × Obj))(H:Hp)(b:l7):Prop :=
 H b=none/\b≠X.env.locals/\b∉X.fs/\(b∈X.ex\/X.s₀.heap.objs.size<=b)/\(∀ x c,X.env.cells.lookup x=some c->c≠b)/\∀ p∈X.pn++pins,p.1≠b
theorem Inv.fpOk {X:Cx}{pins:List (l7 × Obj)}{σ:St}{H H':Hp}{s:d7}{b:l7}(I:Inv X pins σ H s)(hb:s.heap.objs.size<=b)(hn:H' b=none):FpOk X pins H' b:=by
 refine⟨hn,ucm (p8 I.lt hb),I.nofs hb,.inr (uao I.sz hb),λ x c e z=>?_,λ p hp z=>?_⟩
 ·obtain⟨v,q⟩:=I.cell x c e
  exact absurd (p8 q.lt (by rw[z];exact hb)) (ubu _)
 ·exact absurd (p8 (j0 (I.pin p hp).1) (by rw[z];exact hb)) (ubu _)
structure Turn (P:l9)(w:uak)(K:b8)(tg:uct)(J:It)(fp:List l7)(it:l7)(tn:Nat->Heap->Prop):Prop where
 mem:it∈fp
 obj:∀ i h,tn i h->∀ b∈fp,∃ o,h.get? b=some o/\∀ v,o.data≠.cell v
 keep:∀ i h h',tn i h->(∀ b∈fp,∀ o,h.get? b=some o->h'.get? b=some o)->tn i h'
 item:∀ (X:Cx),X.prog=P->X.w=w->X.K=K->X.calm=true->∀ (i:Nat)(pins:List (l7 × Obj))(s:d7)(σ:St)(H:Hp)(E:c9->d7->Prop),Inv X pins σ H s->(∀ b∈fp,FpOk X pins H b)->tn i s.heap->J.go i H ->
  j9 (o9 P w) X.A (pyNext (.ref it)) (λ r s1=>∃ u,r=some u /\
   j9 (o9 P w) X.A (letOwnedTupleGo tg (.ref it) u) (λ _ s2=>∃ x H',Inv X pins σ H' s2/\RelV x u/\J.yld i H x H'/\tn (i+1) s2.heap/\∀ b∈fp,H' b=none) E s1) E s
 done:∀ (X:Cx),X.prog=P->X.w=w->X.K=K->X.calm=true->∀ (i:Nat)(pins:List (l7 × Obj))(s:d7)(σ:St)(H:Hp)(E:c9->d7->Prop),Inv X pins σ H s->(∀ b∈fp,FpOk X pins H b)->tn i s.heap->J.stop i H ->
  j9 (o9 P w) X.A (pyNext (.ref it)) (λ r s1=>r=none/\Inv X pins σ H s1) E s
 self:∀ (A:uae)(i:Nat)(s:d7)(Q:c9->d7->Prop)(E:c9->d7->Prop),tn i s.heap->Q (.ref it) s->j9 (o9 P w) A (pyIter (.ref it)) Q E s
abbrev TI:=St->Hp->(It->Hp->Prop)->Prop
def PIE (X:Cx)(pins:List (l7 × Obj))(σ:St)(tg:uct)(R:It->Hp->Prop)(itv:c9)(s2:d7):Prop :=
 ∃ (it:l7)(fp:List l7)(tn:Nat->Heap->Prop)(J:It)(H':Hp),itv=.ref it/\Inv X pins σ H' s2/\Turn X.prog X.w X.K tg J fp it tn/\tn 0 s2.heap/\(∀ b∈fp,FpOk X pins H' b)/\R J H'
def PI (X:Cx)(tg iter:uct)(wi:TI):Prop :=
 ∀ (pins:List (l7 × Obj))(s:d7)(σ:St)(H:Hp)(R:It->Hp->Prop),Inv X pins σ H s->wi σ H R ->
  j9 (o9 X.prog X.w) X.A (eval iter X.env) (λ v s1=>j9 (o9 X.prog X.w) X.A (pyIter v) (PIE X pins σ tg R) X.xe s1) X.xe s
theorem kR {M:Model}{A:uae}{E:c9->d7->Prop}{s:d7}{tg:uct}{it:l7}{u:c9}{o:Obj}{n:String}{vs:Array c9}{Q:Unit->d7->Prop}(ho:s.heap.get? it=some o)(hc:o.cls=.type n)(hd:o.data=.fields vs)
  (hn:["enumerate","zip","dict_itemiterator","dict_reverseitemiterator","odict_iterator","itertools.zip_longest","itertools.pairwise"].contains n=false) (hQ:Q () s):j9 M A (letOwnedTupleGo tg (.ref it) u) Q E s:=by
 unfold letOwnedTupleGo
 cases tg <;> first
  | exact f9 hQ
  | (cases u <;> first
      | exact f9 hQ
      | (refine a9 (wpAny_load ho ?_)
         rw[hc,hd]
         show j9 M A (if (["enumerate","zip","dict_itemiterator","dict_reverseitemiterator","odict_iterator","itertools.zip_longest","itertools.pairwise"].contains n&&vs[0]?==some (rawInt _))=true then _ else _) Q E s
         rw[uhe (by intro h;rw[hn,ug1] at h;cases h)]
         exact f9 hQ))
def Itl (K:b8)(a:l7):It :=
 ⟨λ i H=>∃ xs x,SqL K H a xs/\xs[i]?=some x,λ i H x H'=>H'=H/\∀ xs,SqL K H a xs->xs[i]?=some x,λ i H=>∃ xs,SqL K H a xs/\xs.length<=i⟩
def Itt (K:b8)(a:l7):It :=
 ⟨λ i H=>∃ xs x,SqT K H a xs/\xs[i]?=some x,λ i H x H'=>H'=H/\∀ xs,SqT K H a xs->xs[i]?=some x,λ i H=>∃ xs,SqT K H a xs/\xs.length<=i⟩
def Itr (lo:Int)(n:Nat):It:=⟨λ i _=>i<n,λ i H x H'=>H'=H/\x=.int (lo+i),λ i _=>n<=i⟩
theorem xT {P:l9}{w:uak}{K:b8}{tg:uct}(a it:l7):Turn P w K tg (Itl K a) [it] it (λ i h=>h.IsListIter it a i) where
 mem:=by simp
 obj:=λ i h st b hb=>by
  have e:b=it:=by simpa using hb
  subst e
  obtain⟨o,e,c,d⟩:=st
  exact⟨o,e,λ v z=>by rw[d] at z;cases z⟩
 keep:=λ i h h' st k=>st.at λ o e=>k it (by simp) o e
 item:=by
  intro X hP hw hK hc i pins s σ H E I hf st hg
  subst hP hw hK
  obtain⟨xs,x,hq,hx⟩:=hg
  obtain⟨its,rv,p,hz⟩:=I.list hq
  obtain⟨u,hu,ru⟩:=rv.get hx
  obtain⟨f0,f1,f2,f3,f4,f5⟩:=hf it (by simp)
  refine wpAny_pyNext_list_item st p.isList (x:=u) (by simpa using hu) λ h' st' sb=>?_
  have I1:Inv X pins σ H { s with heap:=h' }:=I.turned (t':=s.toks) (λ b o hb e=>(sb.2 b hb).trans e) f0 f1 f3 f4 f5
  obtain⟨o,e,c,d⟩:=id st'
  exact⟨u,rfl,kR (s:={ s with heap:=h' }) e c d (by decide) ⟨x,H,I1,ru,⟨rfl,λ ys hy=>by rw[I.list_inj hy hq];exact hx⟩,st',λ b hb=>(hf b hb).1⟩⟩
 done:=by
  intro X hP hw hK hc i pins s σ H E I hf st hg
  subst hP hw hK
  obtain⟨xs,hq,hx⟩:=hg
  obtain⟨its,rv,p,hz⟩:=I.list hq
  obtain⟨f0,f1,f2,f3,f4,f5⟩:=hf it (by simp)
  have hl:=rv.length
  exact wpAny_pyNext_list_end (I.ok.hd hc) st p.isList (by simp;left) λ h' eb=>⟨rfl,I.turned (t':=s.toks) (λ b o hb e=>eb b o hb e) f0 f1 f3 f4 f5⟩
 self:=λ _ _ _ _ _ st h=>wpAny_pyIter_listiter st h
theorem wQ {P:l9}{w:uak}{K:b8}{tg:uct}(a it:l7):Turn P w K tg (Itt K a) [it] it (λ i h=>h.IsTupleIter it a i) where
 mem:=by simp
 obj:=λ i h st b hb=>by
  have e:b=it:=by simpa using hb
  subst e
  obtain⟨o,e,c,d⟩:=st
  exact⟨o,e,λ v z=>by rw[d] at z;cases z⟩
 keep:=λ i h h' st k=>st.at λ o e=>k it (by simp) o e
 item:=by
  intro X hP hw hK hc i pins s σ H E I hf st hg
  subst hP hw hK
  obtain⟨xs,x,hq,hx⟩:=hg
  obtain⟨its,rv,p,hz⟩:=I.tuple hq
  obtain⟨u,hu,ru⟩:=rv.get hx
  obtain⟨f0,f1,f2,f3,f4,f5⟩:=hf it (by simp)
  refine wpAny_pyNext_tuple_item st (show s.heap.IsTuple a its.toArray from p) (x:=u) (by simpa using hu) λ h' st' sb=>?_
  have I1:Inv X pins σ H { s with heap:=h' }:=I.turned (t':=s.toks) (λ b o hb e=>(sb.2 b hb).trans e) f0 f1 f3 f4 f5
  obtain⟨o,e,c,d⟩:=id st'
  exact⟨u,rfl,kR (s:={ s with heap:=h' }) e c d (by decide) ⟨x,H,I1,ru,⟨rfl,λ ys hy=>by rw[I.tuple_inj hy hq];exact hx⟩,st',λ b hb=>(hf b hb).1⟩⟩
 done:=by
  intro X hP hw hK hc i pins s σ H E I hf st hg
  subst hP hw hK
  obtain⟨xs,hq,hx⟩:=hg
  obtain⟨its,rv,p,hz⟩:=I.tuple hq
  obtain⟨f0,f1,f2,f3,f4,f5⟩:=hf it (by simp)
  have hl:=rv.length
  exact wpAny_pyNext_tuple_end (I.ok.hd hc) st (show s.heap.IsTuple a its.toArray from p) (by simp;left) λ h' eb=>⟨rfl,I.turned (t':=s.toks) (λ b o hb e=>eb b o hb e) f0 f1 f3 f4 f5⟩
 self:=λ _ _ _ _ _ st h=>wpAny_pyIter_tupleiter st h
theorem wR {P:l9}{w:uak}{K:b8}{tg:uct}(it:l7)(lo:Int)(n:Nat):Turn P w K tg (Itr lo n) [it] it (λ i h=>IsRangeIter h it (lo+(i:Nat)*1) ((n:Int)-(i:Nat)) 1) where
 mem:=by simp
 obj:=λ i h st b hb=>by
  have e:b=it:=by simpa using hb
  subst e
  exact⟨_,st,λ v z=>by
   have z':Data.fields _=Data.cell v:=z
   cases z'⟩
 keep:=λ i h h' st k=>k it (by simp) _ st
 item:=by
  intro X hP hw hK hc i pins s σ H E I hf st hg
  subst hP hw hK
  obtain⟨f0,f1,f2,f3,f4,f5⟩:=hf it (by simp)
  have W:=Walks.range (prog:=X.prog) (w:=X.w) (I.ok.hd hc) it lo 1 n
  refine W.item i s _ _ hg st λ v h' tk hv st' kk=>?_
  obtain⟨t,rfl⟩:=hv
  have I1:Inv X pins σ H { s with heap:=h',toks:=tk }:=I.turned (λ b o hb e=>kk b o (by simpa using hb) e) f0 f1 f3 f4 f5
  refine⟨_,rfl,kR (s:={ s with heap:=h',toks:=tk }) (n:="range_iterator") st' rfl rfl (by decide) ⟨.int (lo+i),H,I1,⟨t,?_⟩,⟨rfl,rfl⟩,st',λ b hb=>(hf b hb).1⟩⟩
  rw[Int.mul_one]
 done:=by
  intro X hP hw hK hc i pins s σ H E I hf st hg
  subst hP hw hK
  obtain⟨f0,f1,f2,f3,f4,f5⟩:=hf it (by simp)
  exact wpAny_pyNext_range_end (I.ok.hd hc) st (by have:n<=i:=hg;left) λ h' eb=>⟨rfl,I.turned (t':=s.toks) (λ b o hb e=>eb b o hb e) f0 f1 f3 f4 f5⟩
 self:=λ _ _ _ _ _ st h=>wpAny_pyIter_rangeiter st h
end L2
namespace L2
open PySem PySem.Spec PyProof.Rows
section
variable {X:Cx}{tg:uct}
def iList (K:b8)(tl:TE):TI:=λ σ H R=>tl σ H λ x H1=>ERef x λ a=>(∃ xs,SqL K H1 a xs)/\R (Itl K a) H1
def iTup (K:b8)(tl:TE):TI:=λ σ H R=>tl σ H λ x H1=>ERef x λ a=>(∃ xs,SqT K H1 a xs)/\R (Itt K a) H1
theorem fT {l:uct}{tl:TE}(hl:PE X l tl):PI X tg l (iList X.K tl):=by
 intro pins s σ H R I h
 refine thn (hl pins s σ H _ I h) λ v s1 ⟨x,H1,I1,r1,q1⟩=>?_
 obtain⟨a,e,⟨xs,hq⟩,q⟩:=q1
 subst e
 cases r1
 obtain⟨its,rv,p,hz⟩:=I1.list hq
 refine udc p.isList ?_
 refine⟨s1.heap.objs.size,[s1.heap.objs.size],_,_,H1,rfl,I1.kept (t':=s1.toks) λ b o e=>c6 _ e,xT a _,⟨_,i7 _ rfl,rfl,rfl⟩,λ b hb=>?_,q⟩
 have e:b=s1.heap.objs.size:=by simpa using hb
 subst e
 exact I1.fpOk (h9 _) (I1.hok.fresh (h9 _))
theorem bW {l:uct}{tl:TE}(hl:PE X l tl):PI X tg l (iTup X.K tl):=by
 intro pins s σ H R I h
 refine thn (hl pins s σ H _ I h) λ v s1 ⟨x,H1,I1,r1,q1⟩=>?_
 obtain⟨a,e,⟨xs,hq⟩,q⟩:=q1
 subst e
 cases r1
 obtain⟨its,rv,p,hz⟩:=I1.tuple hq
 refine uf8 (show s1.heap.IsTuple a its.toArray from p) ?_
 refine⟨s1.heap.objs.size,[s1.heap.objs.size],_,_,H1,rfl,I1.kept (t':=s1.toks) λ b o e=>c6 _ e,wQ a _,⟨_,i7 _ rfl,rfl,rfl⟩,λ b hb=>?_,q⟩
 have e:b=s1.heap.objs.size:=by simpa using hb
 subst e
 exact I1.fpOk (h9 _) (I1.hok.fresh (h9 _))
theorem nM {pins:List (l7 × Obj)}{σ:St}{H:Hp}{s:d7}{R:It->Hp->Prop}{E:c9->d7->Prop}{lo hi:Int}{t u v:Tok}{tk:Nat}(I:Inv X pins σ H s)(h1:-(2^62)<=lo)(h2:lo<2^62)(h3:-(2^62)<=hi)(h4:hi<2^62)
  (q:R (Itr lo (hi-lo).toNat) H):j9 (o9 X.prog X.w) X.A (pyIter (.ref s.heap.objs.size)) (PIE X pins σ tg R) E { s with heap:=s.heap.push { cls:=.type "range",data:=.fields #[.int lo t,.int hi u,.int 1 v] },toks:=tk }:=by
 refine wpAny_pyIter_range (IsRange.new ..) (small_one h1 h2 h3 h4) ?_
 have I1:Inv X pins σ H { s with heap:=s.heap.push { cls:=.type "range",data:=.fields #[.int lo t,.int hi u,.int 1 v] },toks:=tk }:=I.kept λ b o e=>c6 _ e
 refine⟨(s.heap.push { cls:=.type "range",data:=.fields #[.int lo t,.int hi u,.int 1 v] }).objs.size,[(s.heap.push { cls:=.type "range",data:=.fields #[.int lo t,.int hi u,.int 1 v] }).objs.size],_,_,H,rfl,
  I1.kept (t':=tk) λ b o e=>c6 _ e,wR _ lo (hi-lo).toNat,?_,λ b hb=>?_,q⟩
 ·have e1:lo+((0:Nat):Int)*1=lo:=by simp
  have e2:(((hi-lo).toNat:Nat):Int)-((0:Nat):Int)=Builtin.Range.rangeSize lo hi 1:=by rw[rangeSize_one];split <;> left
  show IsRangeIter _ _ (lo+((0:Nat):Int)*1) ((((hi-lo).toNat:Nat):Int)-((0:Nat):Int)) 1
  rw[e1,e2]
  exact i7 _ rfl
 ·have e:b=(s.heap.push { cls:=.type "range",data:=.fields #[.int lo t,.int hi u,.int 1 v] }).objs.size:=by simpa using hb
  subst e
  exact I1.fpOk (h9 _) (I1.hok.fresh (h9 _))
def iRng1 (ta:TA):TI:=λ σ H R=>ta σ H λ vs H1=>EOne vs λ j=>-(2^62)<=j/\j<2^62/\R (Itr 0 j.toNat) H1
def iRng2 (ta:TA):TI:=λ σ H R=>ta σ H λ vs H1=>∃ i j:Int,vs=[.int i,.int j]/\(-(2^62)<=i/\i<2^62/\-(2^62)<=j/\j<2^62)/\R (Itr i (j-i).toNat) H1
theorem dQ {a:uct}{ta:TA}{p pos:Pos}(hg:Gl X "range")(hm:X.mg "range"=none)(ha:PA X [a] ta)(hs:ubc [a] X.env=[(false,eval a X.env)]:=by rfl):PI X tg (.Call (.Name "range" p) [a] [] pos) (iRng1 ta):=by
 intro pins s σ H R I h
 refine Call_ (dN I hg hm boot_range (ubj (thn (ha pos pins s σ H _ I h) λ us s1 ⟨vs,H1,I1,r1,q1⟩=>?_) hs rfl))
 obtain⟨j,e,q1,q2,q⟩:=q1
 subst e
 cases r1 with
 | cons r rr =>
  cases rr
  obtain⟨t,rfl⟩:=r
  exact call_range_1 (nM I1 (by left) (by left) q1 q2 (by simpa using q))
theorem yI {a b:uct}{ta:TA}{p pos:Pos}(hg:Gl X "range")(hm:X.mg "range"=none)(ha:PA X [a,b] ta)(hs:ubc [a,b] X.env=[(false,eval a X.env),(false,eval b X.env)]:=by rfl)(hs2:ubc [b] X.env=[(false,eval b X.env)]:=by rfl) :
  PI X tg (.Call (.Name "range" p) [a,b] [] pos) (iRng2 ta):=by
 intro pins s σ H R I h
 refine Call_ (dN I hg hm boot_range (ubj (thn (ha pos pins s σ H _ I h) λ us s1 ⟨vs,H1,I1,r1,q1⟩=>?_) (by rw[hs,hs2]) (by rw[hs2];rfl)))
 obtain⟨i,j,e,⟨q1,q2,q3,q4⟩,q⟩:=q1
 subst e
 cases r1 with
 | cons r rr =>
  cases rr with
  | cons r' rr =>
   cases rr
   obtain⟨t,rfl⟩:=r
   obtain⟨t',rfl⟩:=r'
   exact call_range_2 (nM I1 q1 q2 q3 q4 q)
def tFor (wi:TI)(g:TG)(tb:TS):TS:=λ D σ H=>wi σ H λ J H1=>∃ W:Nat->Nat->St->Hp->Prop,(∃ m,W 0 m σ H1)/\∀ i m σ H,W i m σ H ->
 (J.stop i H/\D.nx σ H)\/(J.go i H/\∃ N:St->Hp->Prop,(∀ σ' H',N σ' H'->∃ m',m'<m/\W (i+1) m' σ' H')/\∀ x H',J.yld i H x H'->g x σ H' λ σ2 H2=>tb { D with nx:=N,ct:=N,bk:=D.nx } σ2 H2)
def pinsAt (fp:List l7)(h:Heap):List (l7 × Obj):=fp.filterMap λ b=>(h.get? b).map λ o=>(b,o)
theorem gI {fp:List l7}{h:Heap}{b:l7}{o:Obj}(hb:b∈fp)(e:h.get? b=some o):(b,o)∈pinsAt fp h:=List.mem_filterMap.mpr ⟨b,hb,by rw[e];rfl⟩
theorem yN {fp:List l7}{h:Heap}{p:l7 × Obj}(hp:p∈pinsAt fp h):p.1∈fp/\h.get? p.1=some p.2:=by
 obtain⟨b,hb,e⟩:=List.mem_filterMap.mp hp
 cases q:h.get? b with
 | none=>rw[q] at e;cases e
 | some o =>
  rw[q] at e
  have e':(b,o)=p:=uav e
  subst e'
  exact⟨hb,q⟩
theorem Inv.pinned {pins:List (l7 × Obj)}{σ:St}{H:Hp}{s:d7}{fp:List l7}(I:Inv X pins σ H s)(hf:∀ b∈fp,FpOk X pins H b)(ho:∀ b∈fp,∃ o,s.heap.get? b=some o/\∀ v,o.data≠.cell v):Inv X (pins++pinsAt fp s.heap) σ H s :=
 I.pins_of λ p hp=>(u4.mp hp).elim (λ z=>I.pin p (t5 _ z)) λ z=>by
  obtain⟨hb,e⟩:=yN z
  obtain⟨f0,f1,f2,_⟩:=hf p.1 hb
  obtain⟨o,e',d⟩:=ho p.1 hb
  rw[e] at e';cases e'
  exact⟨e,f0,f1,f2,d⟩
theorem Inv.unpinned {pins pl:List (l7 × Obj)}{σ:St}{H:Hp}{s:d7}(I:Inv X (pins++pl) σ H s):Inv X pins σ H s:=I.pins_of λ p hp=>I.pin p (t5 _ (ubw _ hp))
theorem bL {iter:uct}{body:List udi}{wi:TI}{g:TG}{tb:TS}{pos:Pos}(hp:PassesOwn (o9 X.prog X.w) X.A X.env X.xe)(hc:X.calm=true)(hi:PI X tg iter wi)(hg:PG X tg g)(hb:PSs X body tb)
  (hs:∀ x,foldedSetIterable iter X.env x=pure x:=by intro _;rfl):PS X (.For tg iter body [] pos) (tFor wi g tb):=by
 intro pins s σ H D I h
 refine wpAny_For (thn (hi pins s σ H _ I h) λ v s1 h1=>thn h1 λ itv s2 h2=>?_) hs
 obtain⟨it,fp,tn,J,H2,e,I2,T,st2,f2,W,⟨m0,w0⟩,turn⟩:=h2
 subst e
  -- what stays true of the iterator's objects through the loop
 have stat:∀ {H':Hp},(∀ b∈fp,H' b=none)->∀ b∈fp,FpOk X pins H' b:=λ hn b hb=>⟨hn b hb,(f2 b hb).2⟩
 refine codeAny_forLoop_any (λ n s'=>∃ i σ' H',Inv X pins σ' H' s'/\tn i s'.heap/\(∀ b∈fp,H' b=none)/\W i n σ' H') ?_ m0 ⟨0,σ,H2,I2,st2,λ b hb=>(f2 b hb).1,w0⟩
 rintro n s3 ⟨i,σ3,H3,I3,st3,fr3,w3⟩
 rcases turn i n σ3 H3 w3 with ⟨stop,qn⟩ | ⟨go,N,hN,step⟩
 ·refine uc8 hp (thn (T.done X rfl rfl rfl hc i pins s3 σ3 H3 X.xe I3 (stat fr3) st3 stop) λ r s4 ⟨hr,I4⟩=>?_)
  subst hr
  exact ufp ⟨σ3,H3,I4,qn⟩
 ·refine uc8 hp (thn (T.item X rfl rfl rfl hc i pins s3 σ3 H3 X.xe I3 (stat fr3) st3 go) λ r s4 ⟨u,hr,h4⟩=>?_)
  subst hr
  refine uc8 hp (thn h4 λ _ s5 ⟨x,H5,I5,r5,y5,st5,fr5⟩=>?_)
  have I5':=I5.pinned (stat fr5) (T.obj _ _ st5)
  refine uc8 hp (thn (hg _ s5 σ3 H5 x u _ I5' r5 (step x H5 y5)) λ _ s6 ⟨σ6,H6,I6,q6⟩=>?_)
  refine uc8 hp (thn (hb _ s6 σ6 H6 _ I6 q6) λ f s7 q7=>?_)
  have again:∀ {σ7:St}{H7:Hp},Inv X (pins++pinsAt fp s5.heap) σ7 H7 s7->N σ7 H7->∃ m,m<n/\∃ i σ' H',Inv X pins σ' H' s7/\tn i s7.heap/\(∀ b∈fp,H' b=none)/\W i m σ' H':=λ {σ7 H7} I7 n7=>by
   obtain⟨m',hm,w7⟩:=hN σ7 H7 n7
   refine⟨m',hm,i+1,σ7,H7,I7.unpinned,T.keep _ _ _ st5 λ b hb o e=>(I7.pin (b,o) (t5 _ (t5 _ (gI hb e)))).1,λ b hb=>?_,w7⟩
   obtain⟨o,e,d⟩:=T.obj _ _ st5 b hb
   exact (I7.pin (b,o) (t5 _ (t5 _ (gI hb e)))).2.1
  cases f with
  | next=>obtain⟨σ7,H7,I7,n7⟩:=q7;exact again I7 n7
  | cont=>obtain⟨σ7,H7,I7,n7⟩:=q7;exact again I7 n7
  | brk=>obtain⟨σ7,H7,I7,q7⟩:=q7;exact⟨σ7,H7,I7.unpinned,q7⟩
  | ret v=>obtain⟨x7,σ7,H7,I7,r7,q7⟩:=q7;exact⟨x7,σ7,H7,I7.unpinned,r7,q7⟩
end
theorem za4 {K:b8}{a:l7}{xs:List V}{g:TG}{tb:TS}{D:Ends}{σ:St}{H:Hp}(Pv:Nat->St->Hp->Prop)(h0:Pv 0 σ H)(hl:∀ i σ H,i<=xs.length->Pv i σ H->SqL K H a xs)
  (hs:∀ i x σ H,xs[i]?=some x->Pv i σ H->g x σ H λ σ2 H2=>tb { D with nx:=Pv (i+1),ct:=Pv (i+1),bk:=D.nx } σ2 H2) (hd:∀ σ H,Pv xs.length σ H->D.nx σ H) :
  ∃ W:Nat->Nat->St->Hp->Prop,(∃ m,W 0 m σ H)/\∀ i m σ H,W i m σ H ->
   ((Itl K a).stop i H/\D.nx σ H)\/((Itl K a).go i H/\∃ N:St->Hp->Prop,(∀ σ' H',N σ' H'->∃ m',m'<m/\W (i+1) m' σ' H')/\∀ x H',(Itl K a).yld i H x H'->g x σ H' λ σ2 H2=>tb { D with nx:=N,ct:=N,bk:=D.nx } σ2 H2):=by
 refine⟨λ i m σ H=>m=xs.length-i/\i<=xs.length/\Pv i σ H,⟨xs.length,by simp,p7 _,h0⟩,?_⟩
 rintro i m σ H ⟨rfl,hi,p⟩
 have q:=hl i σ H hi p
 by_cases hlt:i<xs.length
 ·refine .inr ⟨⟨xs,xs[i],q,by simp [hlt]⟩,Pv (i+1),λ σ' H' p'=>⟨xs.length-(i+1),by left,rfl,hlt,p'⟩,λ x H' y=>?_⟩
  obtain⟨e,y⟩:=y
  subst e
  exact hs i x σ _ (y xs q) p
 ·have e:i=xs.length:=by left
  subst e
  exact .inl ⟨⟨xs,q,h9 _⟩,hd σ H p⟩
theorem fU {K:b8}{a:l7}{xs:List V}{g:TG}{tb:TS}{D:Ends}{σ:St}{H:Hp}(Pv:Nat->St->Hp->Prop)(h0:Pv 0 σ H)(hl:∀ i σ H,i<=xs.length->Pv i σ H->SqT K H a xs)
  (hs:∀ i x σ H,xs[i]?=some x->Pv i σ H->g x σ H λ σ2 H2=>tb { D with nx:=Pv (i+1),ct:=Pv (i+1),bk:=D.nx } σ2 H2) (hd:∀ σ H,Pv xs.length σ H->D.nx σ H) :
  ∃ W:Nat->Nat->St->Hp->Prop,(∃ m,W 0 m σ H)/\∀ i m σ H,W i m σ H ->
   ((Itt K a).stop i H/\D.nx σ H)\/((Itt K a).go i H/\∃ N:St->Hp->Prop,(∀ σ' H',N σ' H'->∃ m',m'<m/\W (i+1) m' σ' H')/\∀ x H',(Itt K a).yld i H x H'->g x σ H' λ σ2 H2=>tb { D with nx:=N,ct:=N,bk:=D.nx } σ2 H2):=by
 refine⟨λ i m σ H=>m=xs.length-i/\i<=xs.length/\Pv i σ H,⟨xs.length,by simp,p7 _,h0⟩,?_⟩
 rintro i m σ H ⟨rfl,hi,p⟩
 have q:=hl i σ H hi p
 by_cases hlt:i<xs.length
 ·refine .inr ⟨⟨xs,xs[i],q,by simp [hlt]⟩,Pv (i+1),λ σ' H' p'=>⟨xs.length-(i+1),by left,rfl,hlt,p'⟩,λ x H' y=>?_⟩
  obtain⟨e,y⟩:=y
  subst e
  exact hs i x σ _ (y xs q) p
 ·have e:i=xs.length:=by left
  subst e
  exact .inl ⟨⟨xs,q,h9 _⟩,hd σ H p⟩
theorem dD {lo:Int}{n:Nat}{g:TG}{tb:TS}{D:Ends}{σ:St}{H:Hp}(Pv:Nat->St->Hp->Prop)(h0:Pv 0 σ H)
  (hs:∀ i σ H,i<n->Pv i σ H->g (.int (lo+i)) σ H λ σ2 H2=>tb { D with nx:=Pv (i+1),ct:=Pv (i+1),bk:=D.nx } σ2 H2) (hd:∀ σ H,Pv n σ H->D.nx σ H) :
  ∃ W:Nat->Nat->St->Hp->Prop,(∃ m,W 0 m σ H)/\∀ i m σ H,W i m σ H ->
   ((Itr lo n).stop i H/\D.nx σ H)\/((Itr lo n).go i H/\∃ N:St->Hp->Prop,(∀ σ' H',N σ' H'->∃ m',m'<m/\W (i+1) m' σ' H')/\∀ x H',(Itr lo n).yld i H x H'->g x σ H' λ σ2 H2=>tb { D with nx:=N,ct:=N,bk:=D.nx } σ2 H2):=by
 refine⟨λ i m σ H=>m=n-i/\i<=n/\Pv i σ H,⟨n,by simp,p7 _,h0⟩,?_⟩
 rintro i m σ H ⟨rfl,hi,p⟩
 by_cases hlt:i<n
 ·refine .inr ⟨hlt,Pv (i+1),λ σ' H' p'=>⟨n-(i+1),by left,rfl,hlt,p'⟩,λ x H' y=>?_⟩
  obtain⟨e,y⟩:=y
  subst e y
  exact hs i σ _ hlt p
 ·have e:i=n:=by left
  subst e
  exact .inl ⟨h9 _,hd σ H p⟩
end L2
namespace L2
open PySem PySem.Spec PyProof.Rows
abbrev R2:=V->V->Hp->VK->Prop
def OpR (X:Cx)(f:c9->c9->Sem c9)(r:R2):Prop :=
 ∀ (pins:List (l7 × Obj))(s:d7)(σ:St)(H:Hp)(x y:V)(v u:c9)(Q:VK),Inv X pins σ H s->RelV x v->RelV y u->r x y H Q ->
  j9 (o9 X.prog X.w) X.A (f v u) (EP X pins σ Q) X.xe s
def UnR (X:Cx)(f:c9->Sem c9)(r:V->Hp->VK->Prop):Prop :=
 ∀ (pins:List (l7 × Obj))(s:d7)(σ:St)(H:Hp)(x:V)(v:c9)(Q:VK),Inv X pins σ H s->RelV x v->r x H Q ->
  j9 (o9 X.prog X.w) X.A (f v) (EP X pins σ Q) X.xe s
def CallR (X:Cx)(f:c9)(r:List V->Hp->VK->Prop):Prop :=
 ∀ (pins:List (l7 × Obj))(s:d7)(σ:St)(H:Hp)(xs:List V)(us:List c9)(Q:VK),Inv X pins σ H s->Vals xs us->r xs H Q ->
  j9 (o9 X.prog X.w) X.A (call f us) (EP X pins σ Q) X.xe s
def tOp (r:R2)(ta tb:TE):TE:=λ σ H Q=>ta σ H λ x H1=>tb σ H1 λ y H2=>r x y H2 Q
def tUn (r:V->Hp->VK->Prop)(ta:TE):TE:=λ σ H Q=>ta σ H λ x H1=>r x H1 Q
inductive rI_i (C:Int->Int->Prop)(g:Int->Int->V)(x:V)(y:V)(H:Hp)(Q:VK):Prop
 | mk:∀ i j,(x=.int i)->(y=.int j)->(C i j)->(Q (g i j) H)->rI_i C g x y H Q
def rI (C:Int->Int->Prop)(g:Int->Int->V):R2:=λ x y H Q=>rI_i C g x y H Q
inductive rI0_i (g:Int->Int->V)(x:V)(y:V)(H:Hp)(Q:VK):Prop
 | mk:∀ i j,(x=.int i)->(y=.int j)->(Q (g i j) H)->rI0_i g x y H Q
def rI0 (g:Int->Int->V):R2:=λ x y H Q=>rI0_i g x y H Q
inductive rU_i (g:Int->V)(x:V)(H:Hp)(Q:VK):Prop
 | mk:∀ i,(x=.int i)->(Q (g i) H)->rU_i g x H Q
def rU (g:Int->V):V->Hp->VK->Prop:=λ x H Q=>rU_i g x H Q
section
variable {X:Cx}{a b c:uct}{ta tb tc:TE}{pos:Pos}
theorem binT (ha:PE X a ta)(hb:PE X b tb){pins:List (l7 × Obj)}{s:d7}{σ:St}{H:Hp}{R:V->V->Hp->Prop}(I:Inv X pins σ H s)
  (h:ta σ H λ x H1=>tb σ H1 λ y H2=>R x y H2) {Q:c9->d7->Prop} {f:c9->c9->Sem c9}
  (hf:∀ v u s2 x y H2,Inv X pins σ H2 s2->RelV x v->RelV y u->R x y H2->j9 (o9 X.prog X.w) X.A (f v u) Q X.xe s2) :
  j9 (o9 X.prog X.w) X.A (eval a X.env) (λ v s₁=>j9 (o9 X.prog X.w) X.A (eval b X.env) (λ u s₂=>j9 (o9 X.prog X.w) X.A (f v u) Q X.xe s₂) X.xe s₁) X.xe s:=by
 refine thn (ha pins s σ H _ I h) λ v s1 ⟨x,H1,I1,r1,q1⟩=>?_
 refine thn (hb pins s1 σ H1 _ I1 q1) λ u s2 ⟨y,H2,I2,r2,q2⟩=>?_
 exact hf v u s2 x y H2 I2 r1 r2 q2
theorem aM {op:Operator}{r:R2}(ho:OpR X (binaryOp op) r)(ha:PE X a ta)(hb:PE X b tb):PE X (.BinOp a op b pos) (tOp r ta tb):=by
 intro pins s σ H Q I h
 exact wpAny_BinOp (binT ha hb I h λ v u s2 x y H2 I2 rx ry q=>ho pins s2 σ H2 x y v u Q I2 rx ry q)
theorem gA {op:UnaryOp}{r:V->Hp->VK->Prop}(ho:UnR X (unaryOp op) r)(ha:PE X a ta):PE X (.UnaryOp op a pos) (tUn r ta):=by
 intro pins s σ H Q I h
 exact UnaryOp_ (thn (ha pins s σ H _ I h) λ v s1 ⟨x,H1,I1,r1,q1⟩=>ho pins s1 σ H1 x v Q I1 r1 q1)
theorem opI {f:c9->c9->Sem c9}{C:Int->Int->Prop}{g:Int->Int->Int}
  (rule:∀ (i j:Int)(t u:Tok)(s:d7)(Q:c9->d7->Prop)(E:c9->d7->Prop),C i j->Q (.int (g i j) s.toks) { s with toks:=s.toks+1 }->j9 (o9 X.prog X.w) X.A (f (.int i t) (.int j u)) Q E s) :
  OpR X f (rI C λ i j=>.int (g i j)):=by
 intro pins s σ H x y v u Q I rx ry h
 obtain⟨i,j,rfl,rfl,hc,q⟩:=h
 obtain⟨t,rfl⟩:=rx
 obtain⟨t',rfl⟩:=ry
 exact rule i j t t' s _ _ hc ⟨.int (g i j),H,I.tok _,⟨_,rfl⟩,q⟩
theorem opI0 {f:c9->c9->Sem c9}{g:Int->Int->Int}
  (rule:∀ (i j:Int)(t u:Tok)(s:d7)(Q:c9->d7->Prop)(E:c9->d7->Prop),Q (.int (g i j) s.toks) { s with toks:=s.toks+1 }->j9 (o9 X.prog X.w) X.A (f (.int i t) (.int j u)) Q E s) :
  OpR X f (rI0 λ i j=>.int (g i j)):=by
 intro pins s σ H x y v u Q I rx ry h
 obtain⟨i,j,rfl,rfl,q⟩:=h
 obtain⟨t,rfl⟩:=rx
 obtain⟨t',rfl⟩:=ry
 exact rule i j t t' s _ _ ⟨.int (g i j),H,I.tok _,⟨_,rfl⟩,q⟩
theorem opB0 {f:c9->c9->Sem c9}{g:Int->Int->Bool}
  (rule:∀ (i j:Int)(t u:Tok)(s:d7)(Q:c9->d7->Prop)(E:c9->d7->Prop),Q (.bool (g i j)) s->j9 (o9 X.prog X.w) X.A (f (.int i t) (.int j u)) Q E s) :
  OpR X f (rI0 λ i j=>.bl (g i j)):=by
 intro pins s σ H x y v u Q I rx ry h
 obtain⟨i,j,rfl,rfl,q⟩:=h
 obtain⟨t,rfl⟩:=rx
 obtain⟨t',rfl⟩:=ry
 exact rule i j t t' s _ _ ⟨.bl (g i j),H,I,rfl,q⟩
def CDiv (i j:Int):Prop:=0<j/\j<1073741824
def CPow (i j:Int):Prop:=0<=j/\j<=1000000/\i.natAbs<2^64
def CMul (i j:Int):Prop:=(-(2^64)<i/\i<2^64)\/(-(2^64)<j/\j<2^64)
theorem CMul.ok {i j:Int}(h:CMul i j):IntMulOk i j:=by
 rcases h with ⟨h1,h2⟩ | ⟨h1,h2⟩
 ·exact .of_left (intBits_le_64 h1 h2)
 ·exact .of_right (intBits_le_64 h1 h2)
theorem cB:OpR X (binaryOp .Add) (rI0 λ i j=>.int (i+j)):=opI0 λ _ _ _ _ _ _ _ q=>add_int q
theorem cL:OpR X (binaryOp .Sub) (rI0 λ i j=>.int (i-j)):=opI0 λ _ _ _ _ _ _ _ q=>sub_int q
theorem eC:OpR X (binaryOp .Mult) (rI CMul λ i j=>.int (i*j)):=opI λ _ _ _ _ _ _ _ hc q=>mul_int q hc.ok
theorem pM:OpR X (binaryOp .FloorDiv) (rI CDiv λ i j=>.int (i / j)):=opI λ i j _ _ _ _ _ hc q=>by
 have h1:(0:Int)<j:=hc.1
 have h2:j<1073741824:=hc.2
 exact floordiv_int (by left) (by rw[Int.fdiv_eq_ediv_of_nonneg i (by left)];exact q) (.inl (PyProof.noPylong_small (by left)))
theorem cM:OpR X (binaryOp .Mod) (rI (λ _ j=>0<j) λ i j=>.int (i%j)):=opI λ i j _ _ _ _ _ hc q=>by
 have h1:(0:Int)<j:=hc
 exact mod_int' (by left) (by rw[Int.fmod_eq_emod_of_nonneg i (by left)];exact q)
theorem cA:OpR X (binaryOp .Pow) (rI CPow λ i j=>.int (i^j.toNat)):=opI λ _ _ _ _ _ _ _ hc q=>pow_int_small hc.1 hc.2.1 hc.2.2 q
theorem unI {f:c9->Sem c9}{g:Int->Int}
  (rule:∀ (i:Int)(t:Tok)(s:d7)(Q:c9->d7->Prop)(E:c9->d7->Prop),Q (.int (g i) s.toks) { s with toks:=s.toks+1 }->j9 (o9 X.prog X.w) X.A (f (.int i t)) Q E s) :
  UnR X f (rU λ i=>.int (g i)):=by
 intro pins s σ H x v Q I rx h
 obtain⟨i,rfl,q⟩:=h
 obtain⟨t,rfl⟩:=rx
 exact rule i t s _ _ ⟨.int (g i),H,I.tok _,⟨_,rfl⟩,q⟩
theorem fV:UnR X (unaryOp .USub) (rU λ i=>.int (-i)):=unI λ _ _ _ _ _ q=>neg_int q
end
def scal:V->V->Bool
 | .non,.non=>true | .non,.int _=>true | .int _,.non=>true | .non,.bl _=>true | .bl _,.non=>true | .non,.str _=>true | .str _,.non=>true
 | .int _,.int _=>true | .bl _,.bl _=>true | .str _,.str _=>true | .byt _,.byt _=>true
 | .int _,.str _=>true | .str _,.int _=>true | .bl _,.str _=>true | .str _,.bl _=>true
 | _,_=>false
def rEq:R2:=λ x y H Q=>scal x y=true/\Q (.bl (decide (x=y))) H
def rNe:R2:=λ x y H Q=>scal x y=true/\Q (.bl (!decide (x=y))) H
theorem pY {i j:Int}:decide (V.int i=V.int j)=(i==j):=by
 rw[ucj]
 simp
theorem rE {i j:Bool}:decide (V.bl i=V.bl j)=(i==j):=by
 rw[ucj]
 simp
theorem pX {i j:Str}:decide (V.str i=V.str j)=(i==j):=by
 rw[ucj]
 simp
theorem pZ {i j:Array UInt8}:decide (V.byt i=V.byt j)=(i.toList==j.toList):=by
 rw[ucj]
 cases i
 cases j
 simp
section
variable {X:Cx}{a b c:uct}{ta tb tc:TE}{pos:Pos}
theorem aU {pins:List (l7 × Obj)}{σ:St}{H:Hp}{s:d7}{Q:VK}{k k':Bool}(I:Inv X pins σ H s)(q:Q (.bl k) H)(e:k=k'):EP X pins σ Q (.bool k') s:=by
 subst e
 exact⟨.bl k,H,I,rfl,q⟩
theorem bE:OpR X (compareOp .Eq) rEq:=by
 intro pins s σ H x y v u Q I rx ry h
 obtain⟨hs,q⟩:=h
 cases x with
 | non =>
  cases rx
  cases y with
  | non=>cases ry;exact PySem.EqNone.eq_none_none (aU I q (by simp))
  | bl j=>cases ry;exact PySem.EqNone.eq_none_bool (aU I q (by simp))
  | int j=>obtain⟨t',rfl⟩:=ry;exact PySem.EqNone.eq_none_int (aU I q (by simp))
  | str j=>obtain⟨t',rfl⟩:=ry;exact PySem.EqNone.eq_none_str (aU I q (by simp))
  | _=>exact absurd (show false=true from hs) j6
 | bl i =>
  cases rx
  cases y with
  | non=>cases ry;exact PySem.EqNone.eq_bool_none (aU I q (by simp))
  | bl j=>cases ry;exact eq_bool (aU I q rE)
  | str j=>obtain⟨t',rfl⟩:=ry;exact PySem.EqMixed.eq_bool_str (aU I q (by simp))
  | _=>exact absurd (show false=true from hs) j6
 | int i =>
  obtain⟨t,rfl⟩:=rx
  cases y with
  | non=>cases ry;exact PySem.EqNone.eq_int_none (aU I q (by simp))
  | int j=>obtain⟨t',rfl⟩:=ry;exact eq_int (aU I q pY)
  | str j=>obtain⟨t',rfl⟩:=ry;exact PySem.EqMixed.eq_int_str (aU I q (by simp))
  | _=>exact absurd (show false=true from hs) j6
 | str i =>
  obtain⟨t,rfl⟩:=rx
  cases y with
  | non=>cases ry;exact PySem.EqNone.eq_str_none (aU I q (by simp))
  | bl j=>cases ry;exact PySem.EqMixed.eq_str_bool (aU I q (by simp))
  | int j=>obtain⟨t',rfl⟩:=ry;exact PySem.EqMixed.eq_str_int (aU I q (by simp))
  | str j=>obtain⟨t',rfl⟩:=ry;exact eq_str (aU I q pX)
  | _=>exact absurd (show false=true from hs) j6
 | byt i =>
  obtain⟨t,rfl⟩:=rx
  cases y with
  | byt j=>obtain⟨t',rfl⟩:=ry;exact PySem.W.eq_bytes (aU I q pZ)
  | _=>exact absurd (show false=true from hs) j6
 | _=>cases y <;> exact absurd (show false=true from hs) j6
theorem rM:OpR X (compareOp .NotEq) rNe:=by
 intro pins s σ H x y v u Q I rx ry h
 obtain⟨hs,q⟩:=h
 cases x with
 | non =>
  cases rx
  cases y with
  | non=>cases ry;exact PySem.EqNone.ne_none_none (aU I q (by simp))
  | bl j=>cases ry;exact PySem.EqNone.ne_none_bool (aU I q (by simp))
  | int j=>obtain⟨t',rfl⟩:=ry;exact PySem.EqNone.ne_none_int (aU I q (by simp))
  | str j=>obtain⟨t',rfl⟩:=ry;exact PySem.EqNone.ne_none_str (aU I q (by simp))
  | _=>exact absurd (show false=true from hs) j6
 | bl i =>
  cases rx
  cases y with
  | non=>cases ry;exact PySem.EqNone.ne_bool_none (aU I q (by simp))
  | bl j=>cases ry;exact ne_bool (aU I q (congrArg not rE))
  | str j=>obtain⟨t',rfl⟩:=ry;exact PySem.EqMixed.ne_bool_str (aU I q (by simp))
  | _=>exact absurd (show false=true from hs) j6
 | int i =>
  obtain⟨t,rfl⟩:=rx
  cases y with
  | non=>cases ry;exact PySem.EqNone.ne_int_none (aU I q (by simp))
  | int j=>obtain⟨t',rfl⟩:=ry;exact ne_int (aU I q (congrArg not pY))
  | str j=>obtain⟨t',rfl⟩:=ry;exact PySem.EqMixed.ne_int_str (aU I q (by simp))
  | _=>exact absurd (show false=true from hs) j6
 | str i =>
  obtain⟨t,rfl⟩:=rx
  cases y with
  | non=>cases ry;exact PySem.EqNone.ne_str_none (aU I q (by simp))
  | bl j=>cases ry;exact PySem.EqMixed.ne_str_bool (aU I q (by simp))
  | int j=>obtain⟨t',rfl⟩:=ry;exact PySem.EqMixed.ne_str_int (aU I q (by simp))
  | str j=>obtain⟨t',rfl⟩:=ry;exact ne_str (aU I q (congrArg not pX))
  | _=>exact absurd (show false=true from hs) j6
 | byt i =>
  obtain⟨t,rfl⟩:=rx
  cases y with
  | byt j=>obtain⟨t',rfl⟩:=ry;exact PySem.W.ne_bytes (aU I q (congrArg not pZ))
  | _=>exact absurd (show false=true from hs) j6
 | _=>cases y <;> exact absurd (show false=true from hs) j6
theorem cO:OpR X (compareOp .Lt) (rI0 λ i j=>.bl (decide (i<j))):=opB0 λ _ _ _ _ _ _ _ q=>lt_int q
theorem kQ:OpR X (compareOp .LtE) (rI0 λ i j=>.bl (decide (i<=j))):=opB0 λ _ _ _ _ _ _ _ q=>le_int q
theorem cQ:OpR X (compareOp .Gt) (rI0 λ i j=>.bl (decide (j<i))):=opB0 λ _ _ _ _ _ _ _ q=>gt_int q
theorem zef:OpR X (compareOp .GtE) (rI0 λ i j=>.bl (decide (j<=i))):=opB0 λ _ _ _ _ _ _ _ q=>ge_int q
theorem cY:OpR X (compareOp .Is) (λ x y H Q=>y=.non/\Q (.bl (decide (x=.non))) H):=by
 intro pins s σ H x y v u Q I rx ry h
 obtain⟨rfl,q⟩:=h
 cases ry
 refine is_none_gen (aU I q ?_)
 cases x <;> first
  | (cases rx;rfl)
  | (obtain⟨t,rfl⟩:=rx;rfl)
theorem pK:OpR X (compareOp .IsNot) (λ x y H Q=>y=.non/\Q (.bl (!decide (x=.non))) H):=by
 intro pins s σ H x y v u Q I rx ry h
 obtain⟨rfl,q⟩:=h
 cases ry
 refine isnot_none_gen (aU I q ?_)
 cases x <;> first
  | (cases rx;rfl)
  | (obtain⟨t,rfl⟩:=rx;rfl)
theorem nomark (b:uct){op:CmpOp}(h:op≠.In:=by decide)(h2:op≠.NotIn:=by decide):behindInMarks op b=false:=by
 have e1:(op==CmpOp.In)=false:=by cases op <;> first | rfl | exact absurd rfl h
 have e2:(op==CmpOp.NotIn)=false:=by cases op <;> first | rfl | exact absurd rfl h2
 cases b <;> simp [behindInMarks,e1,e2]
theorem bC {op:CmpOp}{r:R2}(ho:OpR X (compareOp op) r)(ha:PE X a ta)(hb:PE X b tb)(hm:behindInMarks op b=false):PE X (.Compare a [op] [b] pos) (tOp r ta tb):=by
 intro pins s σ H Q I h
 exact wpAny_Compare1 (binT ha hb I h λ v u s2 x y H2 I2 rx ry q=>ho pins s2 σ H2 x y v u Q I2 rx ry q) hm
def tTest (t:TE):TT:=λ σ H Q=>t σ H λ x H'=>EBl x λ k=>Q k H'
theorem aS {op:CmpOp}{r:R2}(ho:OpR X (compareOp op) r)(ha:PE X a ta)(hb:PE X b tb)(hm:behindInMarks op b=false):PT X (.Compare a [op] [b] pos) (tTest (tOp r ta tb)):=by
 intro pins s σ H Q I h
 refine wpAny_isTrue_Compare1 (thn (ha pins s σ H _ I h) λ v s1 ⟨x,H1,I1,r1,q1⟩=>thn (hb pins s1 σ H1 _ I1 q1) λ u s2 ⟨y,H2,I2,r2,q2⟩ =>
  thn (ho pins s2 σ H2 x y v u _ I2 r1 r2 q2) λ c s3 ⟨z,H3,I3,r3,k,e,q3⟩=>?_) hm
 subst e
 cases r3
 exact ucr ⟨H3,I3,q3⟩
def tChain (r r':R2)(ta tb tc:TE):TE:=λ σ H Q=>ta σ H λ x H1=>tb σ H1 λ y H2=>r x y H2 λ z H3=>EBl z λ k=>(if k=true then tc σ H3 λ w' H4=>r' y w' H4 Q else Q (.bl false) H3)
theorem nQ {op op':CmpOp}{r r':R2}(ho:OpR X (compareOp op) r)(ho':OpR X (compareOp op') r')(ha:PE X a ta)(hb:PE X b tb)(hc:PE X c tc)
  (hm:lastMarks [op,op'] [b,c]=false:=by with_unfolding_all rfl):PE X (.Compare a [op,op'] [b,c] pos) (tChain r r' ta tb tc):=by
 intro pins s σ H Q I h
 refine Compare_chain (thn (ha pins s σ H _ I h) λ v s1 ⟨x,H1,I1,r1,q1⟩=>chain_link (thn (hb pins s1 σ H1 _ I1 q1) λ u s2 ⟨y,H2,I2,r2,q2⟩ =>
  thn (ho pins s2 σ H2 x y v u _ I2 r1 r2 q2) λ d s3 ⟨z,H3,I3,r3,k,e,q3⟩=>?_)) hm
 subst e
 cases r3
 refine ucr ?_
 cases k with
 | false=>exact ite_ff ⟨.bl false,H3,I3,rfl,q3⟩
 | true=>exact ite_tt (chain_last (thn (hc pins s3 σ H3 _ I3 q3) λ w' s4 ⟨z',H4,I4,r4,q4⟩=>ho' pins s4 σ H4 y z' u w' Q I4 r2 r4 q4))
theorem line63:(r9:Nat)<2^63:=by rw[ubp];decide
theorem vals1 {x:V}{us:List c9}(r:Vals [x] us):∃ u,us=[u]/\RelV x u:=by
 cases r with
 | cons r1 r2=>cases r2;exact⟨_,rfl,r1⟩
theorem vals2 {x y:V}{us:List c9}(r:Vals [x,y] us):∃ u w',us=[u,w']/\RelV x u/\RelV y w':=by
 cases r with
 | cons r1 r2 =>
  cases r2 with
  | cons r3 r4=>cases r4;exact⟨_,_,rfl,r1,r3⟩
inductive call_abs_i  (xs:List V) (H:Hp) (Q:VK):Prop
 | mk:∀ i,(xs=[.int i])->(Q (.int (if i<0 then -i else i)) H)->call_abs_i xs H Q
theorem zbh:CallR X (.builtin "abs") (call_abs_i):=by
 intro pins s σ H xs us Q I r h
 obtain⟨i,rfl,q⟩:=h
 obtain⟨u,rfl,t,rfl⟩:=vals1 r
 exact call_abs_int λ u tk=>⟨.int (if i<0 then -i else i),H,I.tok _,⟨_,rfl⟩,q⟩
theorem jI (hc:X.calm=true):CallR X (.builtin "max") (λ xs H Q=>∃ i j,xs=[.int i,.int j]/\Q (.int (if j>i then j else i)) H):=by
 intro pins s σ H xs us Q I r h
 obtain⟨i,j,rfl,q⟩:=h
 obtain⟨u,w',rfl,⟨t,rfl⟩,⟨t',rfl⟩⟩:=vals2 r
 refine max_two_ints (I.ok.hd hc) λ h' tk k=>⟨_,H,I.kept k,?_,q⟩
 by_cases hj:j>i
 ·rw[uhd hj,uhd hj];exact⟨_,rfl⟩
 ·rw[uhe hj,uhe hj];exact⟨_,rfl⟩
inductive call_min2_i  (xs:List V) (H:Hp) (Q:VK):Prop
 | mk:∀ i j,(xs=[.int i,.int j])->(Q (.int (if j<i then j else i)) H)->call_min2_i xs H Q
theorem jH (hc:X.calm=true):CallR X (.builtin "min") (call_min2_i):=by
 intro pins s σ H xs us Q I r h
 obtain⟨i,j,rfl,q⟩:=h
 obtain⟨u,w',rfl,⟨t,rfl⟩,⟨t',rfl⟩⟩:=vals2 r
 refine min_two_ints (I.ok.hd hc) λ h' tk k=>⟨_,H,I.kept k,?_,q⟩
 by_cases hj:j<i
 ·rw[uhd hj,uhd hj];exact⟨_,rfl⟩
 ·rw[uhe hj,uhe hj];exact⟨_,rfl⟩
theorem zL:CallR X (.type "int") (λ xs H Q=>(∃ i,xs=[.int i]/\Q (.int i) H)\/∃ k,xs=[.bl k]/\Q (.int (if k then 1 else 0)) H):=by
 intro pins s σ H xs us Q I r h
 rcases h with ⟨i,rfl,q⟩ | ⟨k,rfl,q⟩
 ·obtain⟨u,rfl,t,rfl⟩:=vals1 r
  exact call_int_int ⟨.int i,H,I,⟨_,rfl⟩,q⟩
 ·obtain⟨u,rfl,r1⟩:=vals1 r
  cases r1
  exact call_int_bool ⟨.int (if k then 1 else 0),H,I.tok _,⟨_,rfl⟩,q⟩
end
end L2
namespace L2
open PySem PySem.Spec PyProof.Rows
structure ObjM (h:Heap)(x dx C:l7)(mA:Str->Option c9):Prop where
 obj:h.get? x=some (uf3 C dx)
 ns:h.Ns1 dx mA
 ne:dx≠x
theorem yU {h:Heap}{dx:l7}{mA:Str->Option c9}(n:h.Ns1 dx mA):∃ od,h.get? dx=some od/\∀ name,ugb name od=some (mA name):=by
 obtain⟨o,es,ep,ho,hd,hk,_,hm⟩:=n
 refine⟨o,ho,λ name=>?_⟩
 have e:=hm name
 unfold nsFind findBy at e
 rw[← Array.find?_toList] at e
 unfold ugb
 rw[hd]
 dsimp only
 split
 ·rename_i y q
  rw[q] at e
  exact congrArg some e
 ·rename_i q
  rw[q] at e
  have a:es.toList.any (·.refKey)=false:=by
   rw[List.any_eq_false]
   intro y hy
   obtain⟨z,t,hkey⟩:=hk y (Array.mem_toList_iff.mp hy)
   simp [DictEntry.refKey,hkey]
  have a':¬ es.toList.any (·.refKey)=true:=by rw[a];exact j6
  rw[uhe a']
  exact congrArg some e
theorem ObjM.look {h:Heap}{x dx C:l7}{mA:Str->Option c9}(I:ObjM h x dx C mA):∃ od,PySem.W.InstAt h x (uf3 C dx) C (some od)/\∀ name,ugb name od=some (mA name) :=
 let ⟨od,ho,hl⟩:=yU I.ns
 ⟨od,⟨I.obj,rfl,rfl,ho⟩,hl⟩
section
variable {prog:l9}{w:uak}{A:uae}{E:c9->d7->Prop}{s:d7}{K:b8}{x dx C f:l7}{mA:Str->Option c9}{name:Str}{v:c9}
end
section
variable {P:l9}{w:uak}{H H':Hp}{h h':Heap}{a C dx:l7}{fs fs':List (Str × V)}
theorem zcv (hok:HOk P w H h)(e:H a=some (.ins C dx fs)):∃ mA,ObjM h a dx C mA/\(∀ f,RelO (fs.lookup f) (mA f))/\PySem.Within mA (fs.map (·.1))/\fs.length<=1000/\H dx=some (.own a):=by
 obtain⟨d,z,ne,ob,mA,n,r,q⟩:=(show ObjOk P w H h a (.ins C dx fs) from hok a _ e)
 exact⟨mA,⟨ob,n,ne⟩,r,q,z,d⟩
end
structure Cls (K:b8)(C:l7):Prop where
 pg:PySem.W.plainGet K C Str.empty=true
 hd:PySem.W.hasDictIn K C=true
 po:PySem.W.plainOver K C=true
 sa:ugc K (.ref C) "__setattr__"=some (some (.builtin "object.__setattr__"))
theorem Cls.get {K:b8}{C:l7}(c:Cls K C)(f:Str):PySem.W.plainGet K C f=true:=c.pg
structure Con (K:b8)(C:l7)(f:Str)(v:V)(u:c9):Prop where
 at_:ugc K (.ref C) f=some (some u)
 rel:RelV v u
 get:PySem.W.specialIn K u "__get__"=some none
 cp:PySem.W.copiedNames.contains f=false
section
variable {X:Cx}{pins:List (l7 × Obj)}{σ:St}{H:Hp}{s:d7}{a C dx:l7}{fs:List (Str × V)}{f:Str}{v:V}{A:uae}{E:c9->d7->Prop}
end
section
variable {X:Cx}{o e value:uct}{f:Str}{pos pos' tpos:Pos}{ta tv:TE}
end
section
variable {X:Cx}{pins:List (l7 × Obj)}{σ:St}{H:Hp}{s:d7}{A:uae}{E:c9->d7->Prop}{Q:c9->d7->Prop}{c:c9}{b:Bool}
inductive TyOf (K:b8)(H:Hp):V->c9->Prop where
 | non:TyOf K H .non (.type "NoneType")
 | bl (x:Bool):TyOf K H (.bl x) (.type "bool")
 | int (i:Int):TyOf K H (.int i) (.type "int")
 | str (x:Str):TyOf K H (.str x) (.type "str")
 | flt (x:UInt64):TyOf K H (.flt x) (.type "float")
 | lst {a:l7} {xs:List V} (e:H a=some (.lst xs)):TyOf K H (.ref a) (.type "list")
 | frz {a:l7} {o:Obj} {xs:List V} (e:H a=some (.frz o (.lst xs))):TyOf K H (.ref a) (.type "list")
 | tup {a:l7} {xs:List V} (e:H a=some (.tup xs)):TyOf K H (.ref a) (.type "tuple")
 | dK {a:l7} {kvs:List (Key × V)} (e:H a=some (.dK kvs)):TyOf K H (.ref a) (.type "dict")
 | dT {a:l7} {kvs:List (List Key × V)} (e:H a=some (.dT kvs)):TyOf K H (.ref a) (.type "dict")
 | ins {a C dx : l7} {fs : List (Str × V)} (e : H a = some (.ins C dx fs)) (cl : Cls K C) (ha : ugc K (.ref C) "__class__" = some (some (.builtin "object.__class__")))
     (hn:PySem.W.specialIn K (.builtin "object.__class__") "__get__"=some (some (.builtin "getset_descriptor.__get__"))) (htk:PySem.W.takesIn K (.builtin "object.__class__")=some true)
     (hm:PySem.W.mroIn K C (.type "object")=some true):TyOf K H (.ref a) (.ref C)
theorem yY {x:V}{u t:c9}(I:Inv X pins σ H s)(rx:RelV x u)(ty:TyOf X.K H x t)(e:PySem.W.kitOne X.K t c=some b)(h:∀ tk,Q (.bool b) { s with toks:=tk }) :
  j9 (o9 X.prog X.w) A (call (.builtin "isinstance") [u,c]) Q E s:=by
 cases ty with
 | non=>cases (show u=Value.none from rx);exact ubq PySem.W.kitx_none I.kIn True.intro e (λ z=>nomatch z) h
 | bl y=>cases (show u=Value.bool y from rx);exact ubq PySem.W.kitx_bool I.kIn True.intro e (λ z=>nomatch z) h
 | int i=>obtain⟨t,q⟩:=(show ∃ t,u=Value.int i t from rx);cases q;exact ubq PySem.W.kitx_int I.kIn True.intro e (λ z=>nomatch z) h
 | str y=>obtain⟨t,q⟩:=(show ∃ t,u=Value.str y t from rx);cases q;exact ubq PySem.W.kitx_str I.kIn True.intro e (λ z=>nomatch z) h
 | flt y=>obtain⟨t,q⟩:=(show ∃ t,u=Value.float y t from rx);cases q;exact ubq PySem.W.kitx_float I.kIn True.intro e (λ z=>nomatch z) h
 | @lst a xs ea =>
  cases (show u=Value.ref a from rx)
  obtain⟨_,_,n,_,h1⟩:=(show ObjOk X.prog X.w H s.heap a (.lst xs) from I.hok a _ ea)
  exact ubq PySem.W.kitx_list I.kIn ⟨_,h1,rfl⟩ e (λ z=>nomatch z) h
 | @frz a ob xs ea =>
  cases (show u=Value.ref a from rx)
  obtain⟨_,_,_,n,_,h1⟩:=(show ObjOk X.prog X.w H s.heap a (.frz ob (.lst xs)) from I.hok a _ ea)
  exact ubq PySem.W.kitx_list I.kIn ⟨_,h1,rfl⟩ e (λ z=>nomatch z) h
 | @tup a xs ea =>
  cases (show u=Value.ref a from rx)
  obtain⟨_,_,_,p⟩:=(show ObjOk X.prog X.w H s.heap a (.tup xs) from I.hok a _ ea)
  obtain⟨o,h1,h2,_⟩:=p
  exact ubq PySem.W.kitx_tuple I.kIn ⟨o,h1,h2⟩ e (λ z=>nomatch z) h
 | @dK a kvs ea =>
  cases (show u=Value.ref a from rx)
  obtain⟨_,_,vs,_,p⟩:=(show ObjOk X.prog X.w H s.heap a (.dK kvs) from I.hok a _ ea)
  obtain⟨o,es,ep,h1,h2,_⟩:=p
  exact ubq PySem.W.kitx_dict I.kIn ⟨o,h1,h2.1⟩ e (λ z=>nomatch z) h
 | @dT a kvs ea =>
  cases (show u=Value.ref a from rx)
  obtain⟨_,_,xs,_,o,es,ep,h1,h2,_⟩:=(show ObjOk X.prog X.w H s.heap a (.dT kvs) from I.hok a _ ea)
  exact ubq PySem.W.kitx_dict I.kIn ⟨o,h1,h2.1⟩ e (λ z=>nomatch z) h
 | @ins a C dx fs ea cl ha hn htk hm =>
  cases (show u=Value.ref a from rx)
  obtain⟨mA,O,_⟩:=zcv I.hok ea
  obtain⟨od,J,_⟩:=O.look
  exact ubq (PySem.W.kitx_own (cl.get _) cl.hd ha hn htk hm) I.kIn J e (λ z=>nomatch z) h
end
end L2
namespace L2
open PySem PySem.Spec PyProof.Rows
structure Room (k:Nat)(A:uae):Prop where
 hd:A.handled=none
 dp:A.depth+3*k+5<recursionLimit
 un:A.units+16*k+200<cLine
 gd:A.guards=some []
theorem Room.mono {j k:Nat}{A:uae}(r:Room k A)(h:j<=k):Room j A:=⟨r.hd,by have:=r.dp;left,by have:=r.un;left,r.gd⟩
theorem Room.deeper {k:Nat}{A:uae}(r:Room (k+1) A)(env:Env):Room k (A.deeper env) :=
 ⟨r.hd,by have:=r.dp;show A.depth+1+3*k+5<_;left,by have:=r.un;show A.units+3+16*k+200<_;left,r.gd⟩
theorem Room.depth {k:Nat}{A:uae}(r:Room k A):A.depth<recursionLimit:=by have:=r.dp;left
theorem Room.units {k:Nat}{A:uae}(r:Room k A):A.units+64<cLine:=by have:=r.un;left
theorem Room.units0 {k:Nat}{A:uae}(r:Room k A):A.units<cLine:=by have:=r.un;left
def tNil:TA:=λ _ H Q=>Q [] H
def tCons (ta:TE)(tr:TA):TA:=λ σ H Q=>ta σ H λ x H1=>tr σ H1 λ xs H2=>Q (x::xs) H2
section
variable {X:Cx}{e:uct}{es:List uct}{te:TE}{t:TA}{pos:Pos}
theorem aB:PA X [] tNil:=λ _ _ _ _ H Q I h=>Calls.spliced_nil ⟨[],H,I,.nil,h⟩
theorem aA (ha:PE X e te)(hr:PA X es t)(hs:ubc (e::es) X.env=(false,eval e X.env)::ubc es X.env:=by rfl):PA X (e::es) (tCons te t):=by
 intro pos pins s σ H Q I h
 rw[hs]
 show j9 _ _ (spliced ((false,eval e X.env)::backTo pos (ubc es X.env))) _ _ s
 refine Calls.spliced_cons (thn (ha pins s σ H _ I h) λ u s1 ⟨x,H1,I1,r1,q1⟩=>?_)
 exact thn (hr pos pins s1 σ H1 _ I1 q1) λ us s2 ⟨xs,H2,I2,r2,q2⟩=>⟨x::xs,H2,I2,.cons r1 r2,q2⟩
def tTup (t:TA):TE:=λ σ H Q=>t σ H λ xs H1=>xs.length<=r9/\∀ p,H1 p=none->Q (.ref p) (upd H1 p (.tup xs))
def tLst (t:TA):TE:=λ σ H Q=>t σ H λ xs H1=>xs.length<=r9/\∀ p,H1 p=none->Q (.ref p) (upd H1 p (.lst xs))
theorem qS {x1} (h:PA X es t):PE X (.Tuple es x1 pos) (tTup t):=by
 intro pins s σ H Q I hq
 refine wpAny_Tuple_spliced (thn (h pos pins s σ H _ I hq) λ us s1 ⟨xs,H1,I1,r,z,q⟩=>⟨by rw[← r.length];exact z,?_⟩)
 have hf:H1 s1.heap.objs.size=none:=I1.hok.fresh (h9 _)
 refine⟨.ref s1.heap.objs.size,upd H1 s1.heap.objs.size (.tup xs),I1.laid (t':=s1.toks) (λ b u e=>c6 _ e) (h9 _) ?_,rfl,q _ hf⟩
 exact⟨z,us,r,⟨_,i7 _ rfl,rfl,⟨_,rfl⟩,rfl⟩⟩
theorem dZ (h:PA X es t):PE X (.List es pos) (tLst t):=by
 intro pins s σ H Q I hq
 refine wpAny_List_spliced (thn (h pos pins s σ H _ I hq) λ us s1 ⟨xs,H1,I1,r,z,q⟩=>⟨by rw[← r.length];exact z,?_⟩)
 have hf:H1 s1.heap.objs.size=none:=I1.hok.fresh (h9 _)
 refine⟨.ref s1.heap.objs.size,upd H1 s1.heap.objs.size (.lst xs),I1.laid (t':=s1.toks) (λ b u e=>c6 _ e) (h9 _) ?_,rfl,q _ hf⟩
 exact⟨z,us,0,r,i7 _ rfl⟩
end
abbrev Sp:=List V->Hp->VK->XK->Prop
abbrev CXT:=List Env->Hp->d7->XK->c9->d7->Prop
structure Env0 (P:l9)(w:uak)(K:b8)(mg:Str->Option c9)(base:Heap)(A:uae)(outer:List Env)(s:d7)(H:Hp):Prop where
 frames:A.frames=some outer
 mod:Mod K mg base
 bs:∀ b o,base.get? b=some o->s.heap.get? b=some o/\H b=none
 bsz:base.objs.size<=s.heap.objs.size
 funs:s.heap.FunFrames base outer
 frf:∀ b∈frs outer,H b=none
 hok:HOk P w H s.heap
 bare:AllBare s.gens
def CE (outer:List Env)(P:l9)(w:uak)(H:Hp)(s:d7)(Q:VK)(u:c9)(s':d7):Prop :=
 ∃ v H',s'.os=s.os/\AllBare s'.gens/\Un (frs outer) [] H H' s.heap s'.heap/\HOk P w H' s'.heap/\RelV v u/\Q v H'
def CR (CX:CXT)(outer:List Env)(P:l9)(w:uak)(H:Hp)(s:d7)(Q:VK)(E:XK)(r:Result)(s':d7):Prop :=
 match r with
 | .ok (.ret u)=>CE outer P w H s Q u s'
 | .ok _=>False
 | .error e=>CX outer H s E e s'
structure FnOk (P:l9)(w:uak)(K:b8)(mg:Str->Option c9)(base:Heap)(CX:CXT)(k:Nat)(f:l7)(fd:FuncData)(ps:List Str)(sp:Sp):Prop where
 len:∀ vs H Q E,sp vs H Q E->vs.length=ps.length
 run:∀ (A:uae)(outer:List Env)(s:d7)(H:Hp)(args:Args)(us:List c9)(vs:List V)(Q:VK)(E:XK),Room k A->Env0 P w K mg base A outer s H->BindsTo s fd args (ps.zip us)->Vals vs us->sp vs H Q E ->
  codeAny (o9 P w) A (.call (.ref f) args) (CR CX outer P w H s Q E) s
theorem FnOk.mono {P:l9}{w:uak}{K:b8}{mg:Str->Option c9}{base:Heap}{CX:CXT}{j k:Nat}{f:l7}{fd:FuncData}{ps:List Str}{sp:Sp}(F:FnOk P w K mg base CX j f fd ps sp)(h:j<=k) :
  FnOk P w K mg base CX k f fd ps sp:=⟨F.len,λ A outer s H args us vs Q E hr=>F.run A outer s H args us vs Q E (hr.mono h)⟩
theorem FnOk.imp {P:l9}{w:uak}{K:b8}{mg:Str->Option c9}{base:Heap}{CX:CXT}{k:Nat}{f:l7}{fd:FuncData}{ps:List Str}{sp sp':Sp}(F:FnOk P w K mg base CX k f fd ps sp)
  (h:∀ vs H Q E,sp' vs H Q E->sp vs H Q E):FnOk P w K mg base CX k f fd ps sp' :=
 ⟨λ vs H Q E q=>F.len vs H Q E (h _ _ _ _ q),λ A outer s H args us vs Q E hr he hb hv hs=>F.run A outer s H args us vs Q E hr he hb hv (h _ _ _ _ hs)⟩
section
variable {X:Cx}{pins:List (l7 × Obj)}{σ:St}{H:Hp}{s s':d7}
theorem Inv.env0 (I:Inv X pins σ H s):Env0 X.prog X.w X.K X.mg X.base X.A X.stack s H :=
 ⟨I.ok.frames,I.ok.mod,I.bs,uao I.ok.bsz I.sz,I.stack,I.stkFree,I.hok,I.bare⟩
theorem Inv.after {Q:VK}{u:c9}(I:Inv X pins σ H s)(h:CE X.stack X.prog X.w H s Q u s'):EP X pins σ Q u s':=by
 obtain⟨v,H',os,bare,un,hok,r,q⟩:=h
 obtain⟨hh,g,d,t,os'⟩:=s'
 obtain rfl:os'=s.os:=os
 exact⟨v,H',I.call (h':=hh) (g':=g) (d':=d) (t':=t) (ch:=[]) un hok bare (λ b z=>absurd z (by simp)),r,q⟩
end
def tCall (sp:Sp)(dvs:List V)(E:XK)(t:TA):TE:=λ σ H Q=>t σ H λ vs H1=>sp (vs++dvs) H1 Q E
def Binds (K:b8)(fd:FuncData)(ps:List Str)(ds:List c9):Prop :=
 ∀ (s:d7)(us:List c9),K.In s.heap->(us++ds).length=ps.length->BindsTo s fd ⟨us,[]⟩ (ps.zip (us++ds))
theorem Binds.all {K:b8}{fd:FuncData}{ps:List Str}(h:∀ us:List c9,us.length=ps.length->bindArgs fd ⟨us,[]⟩=pure (ps.zip us)):Binds K fd ps []:=λ s us _ hl=>by
 rw[uay] at hl ⊢
 exact .of_eq (h us hl)
def Passes (CX:CXT)(X:Cx)(E:XK):Prop:=∀ (pins:List (l7 × Obj))(σ:St)(H:Hp)(s:d7)(e:c9)(s':d7),Inv X pins σ H s->CX X.stack H s E e s'->X.xe e s'
section
variable {X:Cx}{CX:CXT}{k:Nat}{f C:l7}{fd:FuncData}{ps:List Str}{sp:Sp}{dvs:List V}{ds:List c9}{E:XK}{x m:Str}{p pos apos:Pos}{e o:uct}{es:List uct}{ta:TE}{t:TA}
theorem zdj {pins:List (l7 × Obj)}{σ:St}{H:Hp}{s:d7}{Q:VK}{us:List c9}{vs:List V}(F:FnOk X.prog X.w X.K X.mg X.base CX k f fd ps sp)(hr:Room k X.A)(hb:Binds X.K fd ps ds)(hd:Vals dvs ds)(hx:Passes CX X E)
  (I:Inv X pins σ H s) (r:Vals vs us) (h:sp (vs++dvs) H Q E):j9 (o9 X.prog X.w) X.A (call (.ref f) us) (EP X pins σ Q) X.xe s:=by
 have r2:Vals (vs++dvs) (us++ds):=r.append hd
 have hl:(us++ds).length=ps.length:=by rw[← r2.length];exact F.len _ _ _ _ h
 refine wpAny_call (udr (F.run X.A X.stack s H ⟨us,[]⟩ (us++ds) (vs++dvs) Q E hr I.env0 (hb s us I.kIn hl) r2 h) λ r s' hq=>?_)
 cases r with
 | error e=>exact hx pins σ H s e s' I hq
 | ok fl =>
  cases fl with
  | ret u=>exact I.after hq
  | next=>exact False.elim hq
  | brk=>exact False.elim hq
  | cont=>exact False.elim hq
theorem zch (F:FnOk X.prog X.w X.K X.mg X.base CX k f fd ps sp)(hr:Room k X.A)(hg:Gl X x)(hm:X.mg x=some (.ref f))(hk:uds X.K (.ref f)=true)(hb:Binds X.K fd ps ds)(hd:Vals dvs ds)(hx:Passes CX X E)
  (ha:PA X (e::es) t) (hdb:(x==("__debug__":Str))=false:=by decide) (he:ubc (e::es) X.env=(false,eval e X.env)::ubc es X.env:=by rfl) (hpl:(backTo pos (ubc es X.env)).any (·.1)=false:=by rfl) :
  PE X (.Call (.Name x p) (e::es) [] pos) (tCall sp dvs E t):=by
 intro pins s σ H Q I h
 refine uf9 (zcs I hg hm ?_ hdb)
 refine PySem.W.callWith_K (h₀:=X.base) I.ok.mod.kin hk (thn (ha pos pins s σ H _ I h) λ us s1 ⟨vs,H1,I1,r,q⟩=>⟨I1.kIn,?_⟩) he hpl
 exact zdj F hr hb hd hx I1 r q
end
section
variable {X:Cx}{CX:CXT}{k:Nat}{f C:l7}{fd:FuncData}{ps ks:List Str}{sp:Sp}{E:XK}{x m:Str}{p pos apos kpos:Pos}{e o:uct}{es:List uct}{kws:List Keyword}{te ta:TE}{t tk:TA}{nm:Option Str}
variable {g:List c9->List c9->List c9}{gV:List V->List V->List V}
end
structure FnScope (N P:List Str)(sc:Scope):Prop where
 kind:sc.kind=.function
 co:sc.isCoroutine=false
 gen:sc.isGenerator=false
 nd:N.Nodup
 pre:N.take P.length=P
 par:∀ x∈P,sc.names.lookup x=some .local\/sc.names.lookup x=some .cell
 nofree:∀ y∈sc.names,y.2≠.free
theorem mO {kindOf:Str->Option NameKind}{x:Str}:∀ {binds:List (Str × c9)}{m:Str->Option c9},(∀ v,(x,v)∉binds)->bindL kindOf binds m x=m x
 | [],_,_=>rfl
 | (n,v)::r,m,h=>by
  unfold bindL
  rw[mO λ w hw=>h w (i9 _ hw)]
  split
  ·have:x≠n:=by rintro rfl;exact h v i5
   simp [this]
  ·rfl
theorem mQ {kindOf:Str->Option NameKind}{x:Str}:∀ {binds:List (Str × c9)}{m:Str->Option c9},(∀ v,(x,v)∉binds)->bindC kindOf binds m x=m x
 | [],_,_=>rfl
 | (n,v)::r,m,h=>by
  unfold bindC
  rw[mQ λ w hw=>h w (i9 _ hw)]
  split
  ·rfl
  ·have:x≠n:=by rintro rfl;exact h v i5
   simp [this]
theorem mP {kindOf:Str->Option NameKind}{x:Str}{v:c9}:∀ {P:List Str}{vs:List c9}{i:Nat}{m:Str->Option c9},P.Nodup->P[i]?=some x->vs[i]?=some v->kindOf x=some .local ->
  bindL kindOf (P.zip vs) m x=some v
 | [],_,_,_,_,h,_,_=>by simp at h
 | _::_,[],_,_,_,_,h,_=>by simp at h
 | p::P,w::vs,0,m,nd,h1,h2,hk=>by
  simp at h1 h2;subst h1;subst h2
  show bindL kindOf ((p,w)::P.zip vs) m p=_
  unfold bindL
  rw[mO λ v hv=>(ua3.mp nd).1 (ugg hv).1,uhd hk]
  simp
 | p::P,w::vs,i+1,m,nd,h1,h2,hk=>by
  show bindL kindOf ((p,w)::P.zip vs) m x=_
  unfold bindL
  exact mP (i:=i) (ua3.mp nd).2 (by simpa using h1) (by simpa using h2) hk
theorem mR {kindOf:Str->Option NameKind}{x:Str}{v:c9}:∀ {P:List Str}{vs:List c9}{i:Nat}{m:Str->Option c9},P.Nodup->P[i]?=some x->vs[i]?=some v->kindOf x≠some .local ->
  bindC kindOf (P.zip vs) m x=some v
 | [],_,_,_,_,h,_,_=>by simp at h
 | _::_,[],_,_,_,_,h,_=>by simp at h
 | p::P,w::vs,0,m,nd,h1,h2,hk=>by
  simp at h1 h2;subst h1;subst h2
  show bindC kindOf ((p,w)::P.zip vs) m p=_
  unfold bindC
  rw[mQ λ v hv=>(ua3.mp nd).1 (ugg hv).1,uhe hk]
  simp
 | p::P,w::vs,i+1,m,nd,h1,h2,hk=>by
  show bindC kindOf ((p,w)::P.zip vs) m x=_
  unfold bindC
  exact mR (i:=i) (ua3.mp nd).2 (by simpa using h1) (by simpa using h2) hk
def start (N:List Str)(vs:List V):St:=vs.map some++l8 (N.length-vs.length) none
def cxOf (CX:CXT)(P:l9)(w:uak)(K:b8)(mg:Str->Option c9)(base:Heap)(N:List Str)(qual:Str)(scope:Scope)(f:l7)(cd:c9)(A:uae)(outer:List Env)(s:d7)(H:Hp)(E:XK):Cx where
 prog:=P
 w:=w
 K:=K
 mg:=mg
 base:=base
 A:=A.deeper (envOfC qual scope s.heap.objs.size f cd)
 N:=N
 s₀:=s
 H₀:=H
 env:=envOfC qual scope s.heap.objs.size f cd
 outer:=outer
 stack:=envOfC qual scope s.heap.objs.size f cd::outer
 ex:=[]
 calm:=true
 fn:=λ _=>true
 pn:=[]
 xe:=λ e s'=>j9 (o9 P w) (A.deeper (envOfC qual scope s.heap.objs.size f cd)) (leaving (envOfC qual scope s.heap.objs.size f cd) e) (λ _ s''=>CX outer H s E e s'') (λ e' s''=>CX outer H s E e' s'') s'
theorem oM {sc:Scope}{n:Nat}{x:Str}(h:sc.names.lookup x=some .cell):∃ c,(cellsFrom n sc.names []).lookup x=some c:=by
 have q:=ugu sc.names n [] (.inl h)
 exact uef.mp q
theorem yZ {CX:CXT}{P:l9}{w:uak}{K:b8}{mg:Str->Option c9}{base:Heap}{N ps:List Str}{qual:Str}{scope:Scope}{f:l7}{cd:c9}{A:uae}{outer:List Env}{s s1:d7}{H:Hp}{E:XK}{us:List c9}{vs:List V}
  (S:FnScope N ps scope) (hd:A.handled=none) (e0:Env0 P w K mg base A outer s H) (hl:vs.length=ps.length) (r:Vals vs us)
  (x:InCallC s s.heap.objs.size (bindL (envOfC qual scope s.heap.objs.size f cd).kindOf (ps.zip us) λ _=>none) (cellsFrom (s.heap.objs.size+1) scope.names []) (bindC (envOfC qual scope s.heap.objs.size f cd).kindOf (ps.zip us) λ _=>none) s1) :
  Inv (cxOf CX P w K mg base N qual scope f cd A outer s H E) [] (start N vs) H s1:=by
 have hpl:ps.length<=N.length:=by have:=congrArg uev S.pre;rw[u5] at this;left
 obtain⟨h1,tk,rfl,hk⟩:=x.done
 have noA:∀ b:l7,b∉(cxOf CX P w K mg base N qual scope f cd A outer s H E).ex:=λ b z=>absurd (show b∈([]:List l7) from z) (by simp)
 refine⟨⟨e0.mod,S.kind,rfl,rfl,h9 _,λ y z c h1 h2=>?_,λ y hy=>?_,λ y c _ h=>?_,λ _=>hd,Around.frames_deeper e0.frames,.inr ⟨rfl,rfl⟩,λ b z=>absurd z (noA b),e0.bs,e0.bsz,λ b _ _=>noA b,λ b z=>absurd z (noA b),e0.funs,e0.frf⟩,
  rfl,e0.bare,Un.kept hk,⟨_,x.toInCall.ns,λ i y v h1 h2 h3=>?_⟩,λ y c h=>⟨_,x.cell y c h⟩,e0.hok.fresh (h9 _),λ y c h=>?_,λ p hp=>absurd (show p∈([]:List (l7 × Obj)) from hp) (by simp),e0.hok.kept hk,?_⟩
 ·exact name_of_addr x.apart (ub4 h1) (ub4 h2)
 ·have hy:scope.names.lookup y=some .cell\/scope.names.lookup y=some .free:=hy
  rcases hy with hy | hy
  ·exact oM hy
  ·exact absurd rfl (S.nofree _ (ub4 hy))
 ·exact ufe (x.above y c (ub4 h))
 ·have hi:i<vs.length:=by
   unfold start at h2
   by_cases hi:i<vs.length
   ·exact hi
   ·rw[v8 (by simpa using hi)] at h2
    rw[udl] at h2
    split at h2 <;> cases h2
  have ha:vs[i]?=some v:=by
   unfold start at h2
   rw[z0 (by simpa using hi),i8] at h2
   cases e:vs[i]? with
   | none=>rw[e] at h2;cases h2
   | some a=>rw[e] at h2;cases h2;rfl
  obtain⟨u,hu,rv⟩:=r.get ha
  have hp:ps[i]?=some y:=by
   rw[← S.pre,ueo (by left)];exact h1
  have ndP:ps.Nodup:=by rw[← S.pre];exact S.nd.sublist (uf0 _ _)
  refine⟨u,rv,?_⟩
  rcases S.par y (p6 hp) with k | k
  ·exact .inl ⟨k,mP ndP hp hu k⟩
  ·obtain⟨c,e⟩:=oM (n:=s.heap.objs.size+1) k
   refine .inr ⟨.inl k,c,e,?_⟩
   have q:=x.cell y c e
   rw[mR ndP hp hu (by show scope.names.lookup y≠_;rw[k];decide)] at q
   exact q
 ·exact e0.hok.fresh (ufe (x.above y c (ub4 h)))
 ·unfold start
  show _=N.length
  rw[i6,c8,uaa]
  left
theorem zei {CX:CXT}{P:l9}{w:uak}{K:b8}{mg:Str->Option c9}{base:Heap}{k:Nat}{f:l7}{name qual:Str}{params:Arguments}{body:List udi}{scope:Scope}{dV kV doc pm cdv ct oc:c9}{an od:Option l7}
  {osl:Array (Option c9)} {N ps:List Str} {sp:Sp} (lk:K.lookup f=some ⟨oc,od,.func (ub9 name qual params body scope dV kV doc pm an cdv ct),osl⟩) (hcd:ud8 K cdv qual=true) (S:FnScope N ps scope)
  (len:∀ vs H Q E,sp vs H Q E->vs.length=ps.length)
  (hbody:∀ (A:uae)(outer:List Env)(s:d7)(H:Hp)(vs:List V)(Q:VK)(E:XK),Room k (A.deeper (envOfC qual scope s.heap.objs.size f cdv))->sp vs H Q E ->
   ∃ t,PSs (cxOf CX P w K mg base N qual scope f cdv A outer s H E) body t/\t { nx:=λ _ H'=>Q .non H',rt:=Q } (start N vs) H) :
  FnOk P w K mg base CX (k+1) f (ub9 name qual params body scope dV kV doc pm an cdv ct) ps sp:=by
 refine⟨len,λ A outer s H args us vs Q E hr e0 hb r hsp=>?_⟩
 have hl:=len _ _ _ _ hsp
 have KX:K.In s.heap:=e0.mod.kin.keeps λ b o e=>(e0.bs b o e).1
 have lim:s.heap.NoLimit:=e0.mod.nolimit.keeps λ b o e=>(e0.bs b o e).1
 have hkind:∀ y∈ps.zip us,scope.names.lookup y.1=some .local\/(scope.names.lookup y.1=some .cell/\((cellsFrom (s.heap.objs.size+1) scope.names []).lookup y.1).isSome=true):=λ ⟨n,v⟩ hy=>by
  rcases S.par n (ugg hy).1 with q | q
  ·exact .inl q
  ·exact .inr ⟨q,ugu _ _ _ (.inl q)⟩
 refine codeAny_call_function hr.depth (KX _ _ lk) rfl S.co S.gen rfl (PySem.W.codeRec_of KX hcd) (hb _ _ _ _ ?_)
 refine wpAny_newFunctionEnv_cells S.kind hkind λ env he s1 x=>?_
 subst he
 refine⟨lim.keeps x.toInCall.keep,codeAny_func ?_⟩
 obtain⟨t,ht,hq⟩:=hbody A outer s H vs Q E (hr.deeper _) hsp
 have I:Inv (cxOf CX P w K mg base N qual scope f cdv A outer s H E) [] (start N vs) H s1:=yZ S hr.hd e0 hl r x
 refine ub1 (ht [] s1 (start N vs) H _ I hq) (λ fl s' hs=>?_) λ e s' hs=>hs
 have fin:∀ {σ':St}{H':Hp}{v:V}{u:c9},Inv (cxOf CX P w K mg base N qual scope f cdv A outer s H E) [] σ' H' s'->RelV v u->Q v H'->CE outer P w H s Q u s' :=
  λ {σ' H' v u} J rv q=>⟨v,H',J.os,J.bare,J.base,J.hok,rv,q⟩
 cases fl with
 | ret u =>
  obtain⟨v,σ',H',J,rv,q⟩:=hs
  exact fin J rv q
 | next =>
  obtain⟨σ',H',J,q⟩:=hs
  exact fin (v:=V.non) (u:=Value.none) J rfl q
 | brk =>
  obtain⟨_,_,_,q⟩:=hs
  exact False.elim q
 | cont =>
  obtain⟨_,_,_,q⟩:=hs
  exact False.elim q
end L2
namespace L2
open PySem PySem.Spec PyProof.Rows
section
variable {X:Cx}{x:Str}{p pos:Pos}{e:uct}{es:List uct}{t:TA}{id T:String}{r:List V->Hp->VK->Prop}
def tCB (r:List V->Hp->VK->Prop)(t:TA):TE:=λ σ H Q=>t σ H λ vs H1=>r vs H1 Q
theorem aQ (hc:CallR X (.builtin id) r)(hg:Gl X x)(hm:X.mg x=none)(hv:bootBuiltins x=some (.builtin id))(ha:PA X (e::es) t)(hn:x≠"__name__":=by decide)(hdb:(x==("__debug__":Str))=false:=by decide)
  (he:ubc (e::es) X.env=(false,eval e X.env)::ubc es X.env:=by rfl) (hpl:(backTo pos (ubc es X.env)).any (·.1)=false:=by rfl):PE X (.Call (.Name x p) (e::es) [] pos) (tCB r t):=by
 intro pins s σ H Q I h
 refine uf9 (dN I hg hm hv ?_ hn hdb)
 exact PyProof.Rows.callWith_builtin1 (thn (ha pos pins s σ H _ I h) λ us s1 ⟨vs,H1,I1,r1,q1⟩=>hc pins s1 σ H1 vs us Q I1 r1 q1) he hpl
theorem bJ (hc:CallR X (.type T) r)(hg:Gl X x)(hm:X.mg x=none)(hv:bootBuiltins x=some (.type T))(ha:PA X (e::es) t)(hn:x≠"__name__":=by decide)(hdb:(x==("__debug__":Str))=false:=by decide)
  (he:ubc (e::es) X.env=(false,eval e X.env)::ubc es X.env:=by rfl) (hpl:(backTo pos (ubc es X.env)).any (·.1)=false:=by rfl):PE X (.Call (.Name x p) (e::es) [] pos) (tCB r t):=by
 intro pins s σ H Q I h
 refine uf9 (dN I hg hm hv ?_ hn hdb)
 exact ubj (thn (ha pos pins s σ H _ I h) λ us s1 ⟨vs,H1,I1,r1,q1⟩=>hc pins s1 σ H1 vs us Q I1 r1 q1) he hpl
end
end L2
namespace HT
open PySem PyProof.Rows
def lexLt:List Int->List Int->Bool
 | [],[]=>false
 | [],_::_=>true
 | _::_,[]=>false
 | x::xs,y::ys=>if x=y then lexLt xs ys else decide (x<y)
theorem xB (x y:Int)(xs ys:List Int):lexLt (x::xs) (y::ys)=if x=y then lexLt xs ys else decide (x<y):=rfl
theorem uE:lexLt [] []=false:=rfl
theorem tH (y:Int)(ys:List Int):lexLt [] (y::ys)=true:=rfl
theorem tJ (x:Int)(xs:List Int):lexLt (x::xs) []=false:=rfl
theorem za5 (A:uae)(s:d7)(a:Int)(t:Tok)(c:Int)(u:Tok):∃ e,SeqAt.EqAt A s (.int a t) (.int c u) e/\(e=true↔a=c) :=
 ⟨(a==c),SeqAt.EqAt.int_int a t c u,by simp⟩
theorem zak (A:uae)(s:d7)(a:Int)(t:Tok)(c:Int)(u:Tok)(prog:l9)(w:uak)(E:c9->d7->Prop)(Q:c9->d7->Prop)(h:Q (.bool (decide (a<c))) s) :
  j9 (o9 prog w) A (richCompare .Lt (.int a t) (.int c u)) Q E s :=
 (PyProof.Rows.lt_int h:j9 (o9 prog w) A (compareOp .Lt (.int a t) (.int c u)) Q E s)
section
open PySem.SeqAt
open PySem.AutoSeq1 (wpAny_loadPart')
open PySem.MeetsSeq PySem.MeetsSeq2 PySem.MeetsSeq3
theorem tU (l b:l7)(items items2:Array c9)(n n2:Nat)(dd dd2:Option l7)(sl sl2:Array (Option c9))(ns ms:List Int)(hi:IntsAre items.toList ns)(hj:IntsAre items2.toList ms) :
  Meets (Builtin.«tuple.__lt__» ⟨[.ref l,.ref b],[]⟩)
   (λ _ R s=>s.heap.get? l=some { cls:=.type "tuple",dict:=dd,data:=.seq items n,slots:=sl }/\s.heap.get? b=some { cls:=.type "tuple",dict:=dd2,data:=.seq items2 n2,slots:=sl2 } /\
    R (.ok (.ret (.bool (lexLt ns ms)))) s) :=
 .of_wp λ prog w A R s h=>by
  obtain⟨hp,g,d,tk,os⟩:=s;obtain⟨hl,hb,h⟩:=h
  have f2:=AutoSeq1.sub_tuple_tuple
  have z1:items.size=ns.length:=by rw[← hi.length];simp
  have z2:items2.size=ms.length:=by rw[← hj.length];simp
  wp_walk using uek hl,uek hb,wpAny_forIn_list _ (λ rest b s'=>b.1=none/\s'=⟨hp,g,d,tk,os⟩/\∃ (vs ws:List c9)(ns' ms':List Int),rest=vs.zip ws /\
   IntsAre vs ns'/\IntsAre ws ms'/\ns'.length+items2.size=ms'.length+items.size/\R (.ok (.ret (.bool (lexLt ns' ms')))) ⟨hp,g,d,tk,os⟩) _
  case turn =>
   rintro ⟨y,x⟩ rest b s' ⟨hb',rfl,vs,ws,ns',ms',hz,hvi,hwi,hlen,hR⟩
   cases hvi with
   | nil=>rw[List.zip_nil_left] at hz;cases hz
   | cons a t hvi' =>
    cases hwi with
    | nil=>rw[List.zip_nil_right] at hz;cases hz
    | cons c u hwi' =>
     rw[ueb] at hz
     injection hz with hyx hrest
     injection hyx with hy hx
     subst hy hx
     rw[xB] at hR
     simp only [l6] at hlen
     obtain⟨e,he,hiff⟩:=za5 A.in1 ⟨hp,g,d,tk,os⟩ a t c u
     refine a9 (he prog w _ _ ?_)
     cases e with
     | true =>
      rw[uhd (hiff.mp rfl)] at hR
      wp_walk
      exact⟨rfl,rfl,_,_,_,_,hrest,hvi',hwi',by left,hR⟩
     | false =>
      rw[uhe (λ q=>absurd (hiff.mpr q) j6)] at hR
      have hri:=zak A.in1 ⟨hp,g,d,tk,os⟩ a t c u prog w
      wp_walk using hri
      exact⟨_,rfl,by simpa using hR⟩
  case fin =>
   rintro ⟨b1,b2⟩ s' ⟨hb',rfl,vs,ws,ns',ms',hz,hvi,hwi,hlen,hR⟩
   simp only at hb'
   subst hb'
   have hv:lexLt ns' ms'=decide (items.size<items2.size):=by
    cases hvi with
    | nil =>
     cases hwi with
     | nil =>
      simp only [ud6] at hlen
      rw[uE]
      exact (uhc (by left)).symm
     | cons c u hw =>
      simp only [ud6,l6] at hlen
      rw[tH]
      exact (uha (by left)).symm
    | cons a t hv =>
     cases hwi with
     | nil =>
      simp only [ud6,l6] at hlen
      rw[tJ]
      exact (uhc (by left)).symm
     | cons c u hw =>
      rw[ueb] at hz
      cases hz
   rw[hv] at hR
   wp_walk
   exact⟨_,rfl,by simpa [Builtin.Tuple.tupleCompareSizes] using hR⟩
  case h =>
   exact⟨rfl,rfl,items.toList,items2.toList,ns,ms,rfl,hi,hj,by left,h⟩
end
section
variable {prog:l9}{w:uak}{A:uae}{E:c9->d7->Prop}{s:d7}
theorem xA {l b:l7}{items items2:Array c9}{ns ms:List Int}{Q:c9->d7->Prop}(hl:IsTup s.heap l items)(hb:IsTup s.heap b items2)(hi:IntsAre items.toList ns)(hj:IntsAre items2.toList ms)
  (hu:A.units<cLine) (h:Q (.bool (lexLt ns ms)) s):j9 (o9 prog w) A (compareOp .Lt (.ref l) (.ref b)) Q E s:=by
 obtain⟨⟨cls,dd,data,sl⟩,ho,hc,n,hd⟩:=id hl
 obtain⟨⟨cls2,dd2,data2,sl2⟩,ho2,hc2,n2,hd2⟩:=id hb
 simp only at hc hd hc2 hd2
 subst hc hd hc2 hd2
 exact richCompare_meets_room (op:=.Lt) ⟨_,ho,rfl⟩ ⟨_,ho2,rfl⟩ PySem.F.slot_tuple_lt PySem.F.entry_tuple_lt (PySem.F.args_tuple_lt_2 _ _) (tU l b items items2 n n2 dd dd2 sl sl2 ns ms hi hj)
  ⟨ho,ho2,show Value.bool (lexLt ns ms)≠Value.notImplemented/\Q (.bool (lexLt ns ms)) s from ⟨(λ x=>nomatch x),h⟩⟩ hu
def sIx (n d:Nat):Option Int->Nat
 | none=>d
 | some v=>if v<0 then (v+(n:Int)).toNat else min v.toNat n
theorem zai (n d:Nat):sIx n d none=d:=rfl
theorem zb7 (n d k:Nat):sIx n d (some (k:Int))=min k n:=by
 show (if (k:Int)<0 then ((k:Int)+(n:Int)).toNat else min (k:Int).toNat n)=min k n
 rw[uhe (by left),v5]
theorem zdi (n d:Nat)(hd:d<=n)(o:Option Int):sIx n d o<=n:=by
 cases o with
 | none=>exact hd
 | some v =>
  show (if v<0 then (v+(n:Int)).toNat else min v.toNat n)<=n
  by_cases hv:v<0
  ·rw[uhd hv];left
  ·rw[uhe hv];exact Nat.min_le_right _ _
theorem qD (v:Int)(n d:Nat):(if v<0 then max (v+(n:Int)) 0 else min v (n:Int))=((sIx n d (some v):Nat):Int):=by
 show (if v<0 then max (v+(n:Int)) 0 else min v (n:Int))=(((if v<0 then (v+(n:Int)).toNat else min v.toNat n):Nat):Int)
 by_cases hv:v<0
 ·simp only [uhd hv];left
 ·simp only [uhe hv];left
theorem xQ (lo hi:Option Int)(n:Nat):Builtin.Slice.sliceAdjust lo hi 1 (n:Int)=(((sIx n 0 lo:Nat):Int),((sIx n n hi:Nat):Int)):=by
 have h1:¬ ((1:Int)<0):=by left
 unfold Builtin.Slice.sliceAdjust
 simp only [h1,if_false]
 refine Prod.ext ?_ ?_
 ·cases lo with
  | none=>rfl
  | some v=>exact qD v n 0
 ·cases hi with
  | none=>rfl
  | some v=>exact qD v n n
theorem wU (i j:Nat):Builtin.Slice.slicePlaces (i:Int) (j:Int) 1=j-i:=by
 unfold Builtin.Slice.slicePlaces
 have h1:(1:Int)>0:=by left
 simp only [h1,if_true,Int.ediv_one]
 split <;> left
theorem lL {v:c9}{o:Option Int}{Q:Option Int->d7->Prop}(p:IsPart v o)(h:Q o s):j9 (o9 prog w) A (Builtin.Slice.slicePartIndex v) Q E s:=by
 cases p with
 | none=>exact slicePart_none h
 | int i t=>exact slicePart_int h
theorem kX {sl:l7}{vl vu:c9}{lo hi:Option Int}{n:Nat}{Q:Int × Int × Nat->d7->Prop}(hs:s.heap.IsSliceOf sl vl vu .none)(pl:IsPart vl lo)(pu:IsPart vu hi)
  (h:Q (((sIx n 0 lo:Nat):Int),1,sIx n n hi-sIx n 0 lo) s):j9 (o9 prog w) A (Builtin.Slice.sliceApplied (.ref sl) (pure (n:Int))) Q E s:=by
 obtain⟨os,hos,hcs,hds⟩:=id hs
 unfold Builtin.Slice.sliceApplied Builtin.Slice.sliceFields
 refine a9 (a9 (uah hos hds (x:=vl) rfl (a9 (uah hos hds (x:=vu) rfl (a9 (uah hos hds (x:=.none) rfl (f9 ?_)))))))
 refine a9 (slicePart_none ?_)
 show j9 _ _ (if ((1:Int)==0)=true then _ else _) _ _ s
 rw[uhe (by decide)]
 refine a9 (lL pl (a9 (lL pu (a9 (f9 ?_)))))
 show j9 _ _ (match Builtin.Slice.sliceAdjust lo hi 1 (n:Int) with | (lo,hi)=>pure (lo,(1:Int),Builtin.Slice.slicePlaces lo hi 1)) _ _ s
 rw[xQ lo hi n]
 show j9 _ _ (pure (((sIx n 0 lo:Nat):Int),(1:Int),Builtin.Slice.slicePlaces ((sIx n 0 lo:Nat):Int) ((sIx n n hi:Nat):Int) 1)) _ _ s
 rw[wU]
 exact f9 h
theorem zam (xs:Array c9)(i k:Nat):((d8 k).filterMap λ (m:Nat)=>xs[((i:Int)+(m:Int)*1).toNat]?).toArray=((xs.toList.drop i).take k).toArray:=by
 have e:(λ (m:Nat)=>xs[((i:Int)+(m:Int)*1).toNat]?)=λ m=>xs[i+m]?:=by
  funext m
  have:((i:Int)+(m:Int)*1).toNat=i+m:=by left
  rw[this]
 rw[e]
 have:=pick_run xs i k
 rw[ufs] at this
 have e2:((λ x=>xs[x]?) ∘ λ x=>i+x)=λ m=>xs[i+m]?:=rfl
 rw[e2] at this
 rw[this]
theorem sC {t sl:l7}{items:Array c9}{vl vu:c9}{lo hi:Option Int}{Q:c9->d7->Prop}(ht:IsTup s.heap t items)(hs:s.heap.IsSliceOf sl vl vu .none)(pl:IsPart vl lo)(pu:IsPart vu hi)
  (hw:¬ (sIx items.size 0 lo=0/\sIx items.size items.size hi=items.size))
  (h:Q (.ref s.heap.objs.size) { s with heap:=s.heap.push { cls:=.type "tuple",data:=.seq ((items.toList.drop (sIx items.size 0 lo)).take (sIx items.size items.size hi-sIx items.size 0 lo)).toArray } })
  (hsz:items.size<=r9):j9 (o9 prog w) A (getItem (.ref t) (.ref sl)) Q E s:=by
 have htake:sizeOk (.seq ((items.toList.drop (sIx items.size 0 lo)).take (sIx items.size items.size hi-sIx items.size 0 lo)).toArray):=by
  show ((items.toList.drop (sIx items.size 0 lo)).take (sIx items.size items.size hi-sIx items.size 0 lo)).toArray.size<=r9
  rw[j5,u5,ua2,u6]
  left
 have hj:sIx items.size items.size hi<=items.size:=zdi _ _ (h9 _) hi
 obtain⟨os,hos,hcs,hds⟩:=id hs
 have hTs:s.TypeIs (.ref sl) "slice":=⟨os,hos,hcs⟩
 unfold getItem
 try with_reducible refine ua0 ?_
 first | refine a9 (f9 ?_) | skip
 refine a9 (wpAny_sequenceKey ht.typeIs (by decide) ?_)
 refine a9 (v7 (name:=v9 "__getitem__") ht.typeIs uba
  (uab uba ht.typeIs entry_tuple_getitem ?_ (args_tuple_getitem _ _)))
 show j9 _ _ (Builtin.Tuple.tupleItemsOf (.ref t) >>= _) _ _ s
 refine a9 (tupleItemsOf_ ht ?_)
 refine a9 (uet hTs ?_)
 rw[uhd (by decide)]
 refine a9 (kX hs pl pu ?_)
 have hno:¬ ((((sIx items.size 0 lo:Nat):Int)==0&&(1:Int)==1&&(sIx items.size items.size hi-sIx items.size 0 lo)==items.size)=true):=by
  intro q
  rw[o7,o7] at q
  have q1:((sIx items.size 0 lo:Nat):Int)=0:=eq_of_beq q.1.1
  have q2:sIx items.size items.size hi-sIx items.size 0 lo=items.size:=eq_of_beq q.2
  exact hw ⟨by left,by left⟩
 show j9 _ _ (if (((sIx items.size 0 lo:Nat):Int)==0&&(1:Int)==1&&(sIx items.size items.size hi-sIx items.size 0 lo)==items.size)=true then _ else _) _ _ s
 rw[uhe hno,zam]
 first
  | exact a9 (m:=Builtin.Tuple.tupleExact _) (ua4 (f9 ⟨_,rfl,f9 h⟩) htake)
  | exact a9 (m:=Builtin.Tuple.tupleExact _) (ua4 (a9 (f9 (f9 ⟨_,rfl,f9 h⟩))) htake)
  | exact a9 (a9 (m:=Builtin.Tuple.tupleExact _) (ua4 (f9 (f9 ⟨_,rfl,f9 h⟩)) htake))
  | exact a9 (a9 (m:=Builtin.Tuple.tupleExact _) (ua4 (f9 ⟨_,rfl,f9 h⟩) htake))
end
end HT
namespace L2
open PySem PySem.Spec PyProof.Rows
abbrev TO:=St->Hp->(Option Int->Hp->Prop)->Prop
def PO (X:Cx)(e:Option uct)(t:TO):Prop :=
 ∀ (pins:List (l7 × Obj))(s:d7)(σ:St)(H:Hp)(Q:Option Int->Hp->Prop),Inv X pins σ H s->t σ H Q ->
  j9 (o9 X.prog X.w) X.A (evalPart e X.env) (λ u s'=>∃ o H',Inv X pins σ H' s'/\IsPart u o/\Q o H') X.xe s
def tNoPart:TO:=λ _ H Q=>Q none H
def tPart (t:TE):TO:=λ σ H Q=>t σ H λ x H1=>EInt x λ i=>Q (some i) H1
theorem dC {ns:List Int}:∀ {us:List c9},Vals (ns.map V.int) us->IntsAre us ns:=by
 induction ns with
 | nil=>intro us r;rw[List.map_nil] at r;cases r;exact .nil
 | cons n ns ih =>
  intro us r
  rw[ua1] at r
  cases r with
  | cons r1 r2 =>
   obtain⟨t,e⟩:=r1
   subst e
   exact .cons n t (ih r2)
section
variable {X:Cx}{e:uct}{te:TE}{lo hi:Option uct}{tl th:TO}{pos p2:Pos}
theorem cV:PO X none tNoPart:=by
 intro pins s σ H Q I h
 rw[evalPart_none]
 exact f9 ⟨none,H,I,.none,h⟩
theorem cU (h:PE X e te):PO X (some e) (tPart te):=by
 intro pins s σ H Q I hw
 rw[evalPart_some]
 refine thn (h pins s σ H _ I hw) λ u s1 ⟨x,H1,I1,r1,q1⟩=>?_
 obtain⟨i,rfl,q⟩:=q1
 obtain⟨t,rfl⟩:=r1
 exact⟨some i,H1,I1,.int i t,q⟩
def SlR (X:Cx)(r:V->Option Int->Option Int->Hp->VK->Prop):Prop :=
 ∀ (pins:List (l7 × Obj))(s:d7)(σ:St)(H:Hp)(x:V)(v vl vu:c9)(lo hi:Option Int)(sl:l7)(Q:VK),Inv X pins σ H s->RelV x v->s.heap.IsSliceOf sl vl vu .none->IsPart vl lo->IsPart vu hi->r x lo hi H Q ->
  ∃ T id,typeLookup (.type T) "__getitem__"=pure (some (.builtin id))/\s.TypeIs v T/\j9 (o9 X.prog X.w) X.A (getItem v (.ref sl)) (EP X pins σ Q) X.xe s
def tSl (r:V->Option Int->Option Int->Hp->VK->Prop)(te:TE)(tl th:TO):TE:=λ σ H Q=>te σ H λ x H1=>tl σ H1 λ l H2=>th σ H2 λ u H3=>r x l u H3 Q
theorem cT {r:V->Option Int->Option Int->Hp->VK->Prop}(hr:SlR X r)(he:PE X e te)(hl:PO X lo tl)(hu:PO X hi th):PE X (.Subscript e (.Slice lo hi none p2) pos) (tSl r te tl th):=by
 intro pins s σ H Q I h
 refine Subscript_ (thn (he pins s σ H _ I h) λ v s1 ⟨x,H1,I1,r1,q1⟩=>?_)
 refine wpAny_Slice (thn (hl pins s1 σ H1 _ I1 q1) λ vl s2 ⟨l,H2,I2,pl,q2⟩=>thn (hu pins s2 σ H2 _ I2 q2) λ vu s3 ⟨u,H3,I3,pu,q3⟩=>?_)
 rw[evalPart_none]
 refine f9 ?_
 have I4:Inv X pins σ H3 { s3 with heap:=s3.heap.push { cls:=.type "slice",data:=.fields #[vl,vu,.none] } }:=I3.kept (t':=s3.toks) λ b ob q=>c6 _ q
 obtain⟨T,id,hT,ht,hg⟩:=hr pins { s3 with heap:=s3.heap.push { cls:=.type "slice",data:=.fields #[vl,vu,.none] } } σ H3 x v vl vu l u s3.heap.objs.size Q I4 r1 (Heap.IsSliceOf.new ..) pl pu q3
 show j9 (o9 X.prog X.w) X.A (subscriptTail e (.Slice lo hi none p2) v (.ref s3.heap.objs.size)) (EP X pins σ Q) X.xe { s3 with heap:=s3.heap.push { cls:=.type "slice",data:=.fields #[vl,vu,.none] } }
 exact tail_any (ops:=[.ref s3.heap.objs.size,v]) ht hT hg (by with_unfolding_all rfl)
def cutV (xs:List V)(lo hi:Option Int):List V:=(xs.drop (HT.sIx xs.length 0 lo)).take (HT.sIx xs.length xs.length hi-HT.sIx xs.length 0 lo)
theorem lK (xs:List V)(lo hi:Option Int):(cutV xs lo hi).length<=xs.length:=by
 unfold cutV
 rw[u5,ua2]
 left
inductive rSlT_i (K:b8)(x:V)(lo:Option Int)(hi:Option Int)(H:Hp)(Q:VK):Prop
 | mk:∀ a xs,(x=.ref a)->(SqT K H a xs)->(¬ (HT.sIx xs.length 0 lo=0/\HT.sIx xs.length xs.length hi=xs.length))->(∀ p,H p=none->Q (.ref p) (upd H p (.tup (cutV xs lo hi))))->rSlT_i K x lo hi H Q
def rSlT (K:b8):V->Option Int->Option Int->Hp->VK->Prop:=λ x lo hi H Q=>rSlT_i K x lo hi H Q
theorem zdh:SlR X (rSlT X.K):=by
 intro pins s σ H x v vl vu lo hi sl Q I rx hs pl pu h
 obtain⟨a,xs,rfl,hx,hw,q⟩:=h
 cases rx
 obtain⟨its,r,ht,hz⟩:=I.tuple hx
 have hlen:its.toArray.size=xs.length:=by rw[j5];exact r.length.symm
 refine⟨"tuple",_,uba.lookup,ht.typeIs,?_⟩
 refine HT.sC ht hs pl pu (by rw[hlen];exact hw) ?_ (by rw[hlen];exact hz)
 rw[hlen]
 refine⟨.ref s.heap.objs.size,_,I.laid (t':=s.toks) (o:=.tup (cutV xs lo hi)) (λ b ob q=>c6 _ q) (h9 _) ?_,rfl,q _ (I.hok.fresh (h9 _))⟩
 exact⟨uao (lK xs lo hi) hz,_,(r.drop (HT.sIx xs.length 0 lo)).take (HT.sIx xs.length xs.length hi-HT.sIx xs.length 0 lo),TupN.new _ _⟩
inductive rLtT_i (K:b8)(x:V)(y:V)(H:Hp)(Q:VK):Prop
 | mk:∀ a b ns ms,(x=.ref a)->(y=.ref b)->(SqT K H a (ns.map V.int))->(SqT K H b (ms.map V.int))->(Q (.bl (HT.lexLt ns ms)) H)->rLtT_i K x y H Q
def rLtT (K:b8):R2:=λ x y H Q=>rLtT_i K x y H Q
theorem zdq (hu:X.A.units<cLine):OpR X (compareOp .Lt) (rLtT X.K):=by
 intro pins s σ H x y v u Q I rx ry h
 obtain⟨a,b,ns,ms,rfl,rfl,ha,hb,q⟩:=h
 cases rx
 cases ry
 obtain⟨its,r1,p1,_⟩:=I.tuple ha
 obtain⟨its2,r2,p2,_⟩:=I.tuple hb
 have i1:IntsAre its.toArray.toList ns:=dC r1
 have i2:IntsAre its2.toArray.toList ms:=dC r2
 exact HT.xA p1 p2 i1 i2 hu ⟨.bl (HT.lexLt ns ms),H,I,rfl,q⟩
end
end L2
namespace L2
open PySem PySem.Spec PyProof.Rows
def ixN (n:Nat)(i:Int):Option Nat:=if 0<=i then (if i<n then some i.toNat else none) else if -(n:Int)<=i then some (i+n).toNat else none
def atI {α:Type}(xs:List α)(i:Int):Option α:=(ixN xs.length i).bind λ j=>xs[j]?
theorem kA {n:Nat}{i:Int}{j:Nat}(h:ixN n i=some j):seqIndex? i n=some j/\j<n/\-(n:Int)<=i/\i<n:=by
 unfold ixN at h
 by_cases h0:0<=i
 ·rw[uhd h0] at h
  by_cases h1:i<n
  ·rw[uhd h1] at h
   have e:i.toNat=j:=uav h
   exact⟨by rw[seqIndex_of h0 h1,e],by left,by left,h1⟩
  ·rw[uhe h1] at h;cases h
 ·rw[uhe h0] at h
  by_cases h1:-(n:Int)<=i
  ·rw[uhd h1] at h
   have e:(i+n).toNat=j:=uav h
   exact⟨by rw[seqIndex_neg (by left) h1,e],by left,h1,by left⟩
  ·rw[uhe h1] at h;cases h
theorem qH {α:Type}{xs:List α}{i:Int}{v:α}(h:atI xs i=some v):∃ j,seqIndex? i xs.length=some j/\xs[j]?=some v/\j<xs.length/\-(xs.length:Int)<=i/\i<xs.length:=by
 unfold atI at h
 cases e:ixN xs.length i with
 | none=>rw[e] at h;cases h
 | some j =>
  rw[e] at h
  obtain⟨h1,h2,h3,h4⟩:=kA e
  exact⟨j,h1,h,h2,h3,h4⟩
theorem qG {α:Type}{xs:List α}{j:Nat}{v:α}(h:xs[j]?=some v):atI xs (j:Int)=some v:=by
 have hj:j<xs.length:=(j7.mp h).1
 have e:ixN xs.length (j:Int)=some j:=by
  unfold ixN
  rw[uhd (by left),uhd (by left)];simp
 unfold atI;rw[e];exact h
theorem oP {α:Type}(xs:List α)(v:α):atI (xs++[v]) (-1)=some v:=by
 have hl:(xs++[v]).length=xs.length+1:=by simp
 have e:ixN (xs++[v]).length (-1)=some xs.length:=by
  unfold ixN
  rw[hl,uhe (by decide),uhd (by left)]
  congr 1
  left
 unfold atI
 rw[e]
 show (xs++[v])[xs.length]?=some v
 simp
def PlainIx (b:uct):Prop:=∀ o i,subscripted b false o i=operate [o,i] (getItem o i)
def IxR (X:Cx)(r:R2):Prop :=
 ∀ (value slice:uct)(pins:List (l7 × Obj))(s:d7)(σ:St)(H:Hp)(x y:V)(v u:c9)(Q:VK),Inv X pins σ H s->RelV x v->RelV y u->r x y H Q ->
  subscripted slice false v u=operate [v,u] (getItem v u)->j9 (o9 X.prog X.w) X.A (subscriptTail value slice v u) (EP X pins σ Q) X.xe s
def MtR (X:Cx)(id:String)(r:V->List V->Hp->VK->Prop):Prop :=
 ∀ (pins:List (l7 × Obj))(s:d7)(σ:St)(H:Hp)(x:V)(xs:List V)(v:c9)(us:List c9)(Q:VK),Inv X pins σ H s->RelV x v->Vals xs us->r x xs H Q ->
  j9 (o9 X.prog X.w) X.A (call (.builtin id) (v::us)) (EP X pins σ Q) X.xe s
section
variable {X:Cx}{a b:uct}{ta tb:TE}{pos:Pos}
theorem aJ {r:R2}(hr:IxR X r)(ha:PE X a ta)(hb:PE X b tb)(hs:PlainIx b):PE X (.Subscript a b pos) (tOp r ta tb):=by
 intro pins s σ H Q I h
 exact Subscript_ (binT ha hb I h λ v u s2 x y H2 I2 rx ry q=>hr a b pins s2 σ H2 x y v u Q I2 rx ry q (hs _ _))
inductive rIxL_i (K:b8)(x:V)(y:V)(H:Hp)(Q:VK):Prop
 | mk:∀ p xs i v,(x=.ref p)->(y=.int i)->(SqL K H p xs)->(atI xs i=some v)->(Q v H)->rIxL_i K x y H Q
def rIxL (K:b8):R2:=λ x y H Q=>rIxL_i K x y H Q
inductive rIxT_i (K:b8)(x:V)(y:V)(H:Hp)(Q:VK):Prop
 | mk:∀ p xs i v,(x=.ref p)->(y=.int i)->(SqT K H p xs)->(atI xs i=some v)->(Q v H)->rIxT_i K x y H Q
def rIxT (K:b8):R2:=λ x y H Q=>rIxT_i K x y H Q
theorem aZ:IxR X (rIxL X.K):=by
 intro value slice pins s σ H x y v u Q I rx ry h hs
 obtain⟨p,xs,i,z,rfl,rfl,hq,he,q⟩:=h
 cases rx
 obtain⟨t,rfl⟩:=ry
 obtain⟨its,r,pl,hz⟩:=I.list hq
 obtain⟨j,h1,h2,h3,h4,h5⟩:=qH he
 obtain⟨w,ew,rw'⟩:=r.get h2
 have hl:=r.length
 have hn:=line63
 have fin:EP X pins σ Q w s:=⟨z,H,I,rw',q⟩
 by_cases h0:0<=i
 ·have hj:i.toNat=j:=by
   rw[seqIndex_of h0 h5] at h1
   exact uav h1
  exact item_listR pl.isList h0 (by left) (by rw[hj];simpa using ew) fin hs
 ·have hj:(i+(its.toArray.size:Int)).toNat=j:=by
   rw[seqIndex_neg (by left) h4] at h1
   rw[j5,← hl]
   exact uav h1
  exact subscriptTail_builtinR (x:=w) pl.isList.typeIs slot_list_getitem.lookup
   (wpAny_getItem_list_neg (Q:=λ r s'=>r=w/\EP X pins σ Q r s') pl.isList (by left) (by rw[j5] <;> left) (by left) (by rw[hj];simpa using ew) ⟨rfl,fin⟩) hs
theorem aY:IxR X (rIxT X.K):=by
 intro value slice pins s σ H x y v u Q I rx ry h hs
 obtain⟨p,xs,i,z,rfl,rfl,hq,he,q⟩:=h
 cases rx
 obtain⟨t,rfl⟩:=ry
 obtain⟨its,r,pl,hz⟩:=I.tuple hq
 obtain⟨j,h1,h2,h3,h4,h5⟩:=qH he
 obtain⟨w,ew,rw'⟩:=r.get h2
 have hl:=r.length
 have hn:=line63
 have fin:EP X pins σ Q w s:=⟨z,H,I,rw',q⟩
 exact subscriptTail_builtinR (x:=w) pl.typeIs slot_tuple_getitem.lookup
  (getItem_tuple (j:=j) (Q:=λ r s'=>r=w/\EP X pins σ Q r s') pl (by left) (by left) (by rw[j5,← hl];exact h1) (by simpa using ew) ⟨rfl,fin⟩) hs
theorem wZ (its:List c9)(n j:Nat)(u:c9):Obj.mapSeq (·.setIfInBounds j u) { cls:=.type "list",data:=.seq its.toArray n }={ cls:=.type "list",data:=.seq (its.set j u).toArray n }:=by
 simp [Obj.mapSeq]
theorem Inv.lst {pins:List (l7 × Obj)}{σ:St}{H:Hp}{s:d7}{p:l7}{xs:List V}(I:Inv X pins σ H s)(h:H p=some (.lst xs)) :
  ∃ (its:List c9)(n:Nat),Vals xs its/\s.heap.get? p=some { cls:=.type "list",data:=.seq its.toArray n }/\xs.length<=r9:=by
 obtain⟨z,its,n,r,e⟩:=I.hok p _ h
 exact⟨its,n,r,e,z⟩
theorem Inv.lstUpd {pins:List (l7 × Obj)}{σ:St}{H:Hp}{s:d7}{p:l7}{xs ys:List V}{its its':List c9}{n n':Nat}{f:Obj->Obj}(I:Inv X pins σ H s)(h:H p=some (.lst xs))
  (ho:s.heap.get? p=some { cls:=.type "list",data:=.seq its.toArray n }) (hf:f { cls:=.type "list",data:=.seq its.toArray n }={ cls:=.type "list",data:=.seq its'.toArray n' }) (r:Vals ys its') (hz:ys.length<=r9) (t:Nat) :
  Inv X pins σ (upd H p (.lst ys)) { s with heap:=s.heap.update p f,toks:=t }:=by
 have e:(s.heap.update p f).get? p=some { cls:=.type "list",data:=.seq its'.toArray n' }:=by
  rw[ub0 f ho (by rw[hf] <;> rfl),hf]
 refine I.write (x:=p) (e:=p) (by rw[h];trivial) (.inl rfl) (λ b u hb q=>(uac _ _ (Ne.symm hb)).trans q) ⟨_,e⟩ ?_
 exact⟨hz,its',n',r,e⟩
inductive rSetL_i  (o:V) (i:V) (v:V) (H:Hp) (Q:Hp->Prop):Prop
 | mk:∀ p xs k j,(o=.ref p)->(i=.int k)->(H p=some (.lst xs))->(ixN xs.length k=some j)->(Q (upd H p (.lst (xs.set j v))))->rSetL_i o i v H Q
def rSetL :V->V->V->Hp->(Hp->Prop)->Prop:=λ o i v H Q=>rSetL_i o i v H Q
theorem dR:PSet X rSetL:=by
 intro pins s σ H o i v ov iv u Q I ro ri rv h
 obtain⟨p,xs,k,j,rfl,rfl,hp,hj,q⟩:=h
 cases ro
 obtain⟨t,rfl⟩:=ri
 obtain⟨its,n,r,ho,hz⟩:=I.lst hp
 obtain⟨h1,h2,h3,h4⟩:=kA hj
 have hl:=r.length
 have hn:=line63
 have I':Inv X pins σ (upd H p (.lst (xs.set j v))) { s with heap:=s.heap.update p (Obj.mapSeq (·.setIfInBounds j u)) } :=
  I.lstUpd hp ho (wZ its n j u) (r.set rv j) (by rw[ubt];exact hz) s.toks
 by_cases h0:0<=k
 ·have hk:k.toNat=j:=by
   rw[seqIndex_of h0 h4] at h1
   exact uav h1
  exact PySem.W.ki_setAt ho h0 (by left) (by rw[j5,← hl];exact h4) (by rw[hk];exact⟨_,I',q⟩)
 ·have hk:(k+(its.toArray.size:Int)).toNat=j:=by
   rw[seqIndex_neg (by left) h3] at h1
   rw[j5,← hl]
   exact uav h1
  exact PySem.W.ki_setBack ho (by left) (by rw[j5,← hl];exact h3) (by left) (by rw[hk];exact⟨_,I',q⟩)
theorem uQ (lo hi:Option Int)(n:Nat):(sliceBounds lo hi none n).1=((HT.sIx n 0 lo:Nat):Int)/\(sliceBounds lo hi none n).2.1=((HT.sIx n n hi:Nat):Int)/\(sliceBounds lo hi none n).2.2=1:=by
 refine⟨?_,?_,rfl⟩
 ·cases lo with
  | none=>simp [sliceBounds,HT.sIx]
  | some i =>
   simp only [sliceBounds,HT.sIx,Option.getD_none,show (1:Int)>0 by decide,if_true]
   by_cases h:i<0
   ·simp only [h,if_true] <;> left
   ·simp only [h,if_false] <;> left
 ·cases hi with
  | none=>simp [sliceBounds,HT.sIx]
  | some i =>
   simp only [sliceBounds,HT.sIx,Option.getD_none,show (1:Int)>0 by decide,if_true]
   by_cases h:i<0
   ·simp only [h,if_true] <;> left
   ·simp only [h,if_false] <;> left
theorem tV (its:List c9)(lo hi:Option Int):slicePick its.toArray lo hi none=((its.drop (HT.sIx its.length 0 lo)).take (HT.sIx its.length its.length hi-HT.sIx its.length 0 lo)).toArray:=by
 obtain⟨h1,h2,h3⟩:=uQ lo hi its.toArray.size
 unfold slicePick
 rw[h1,h2,h3]
 simp only [sliceRange_one,pick_run,j5] <;> rfl
inductive rSlL_i (K:b8)(x:V)(lo:Option Int)(hi:Option Int)(H:Hp)(Q:VK):Prop
 | mk:∀ a xs,(x=.ref a)->(SqL K H a xs)->(∀ p,H p=none->Q (.ref p) (upd H p (.lst (cutV xs lo hi))))->rSlL_i K x lo hi H Q
def rSlL (K:b8):V->Option Int->Option Int->Hp->VK->Prop:=λ x lo hi H Q=>rSlL_i K x lo hi H Q
theorem zb2:SlR X (rSlL X.K):=by
 intro pins s σ H x v vl vu lo hi sl Q I rx hs pl pu h
 obtain⟨a,xs,rfl,hx,q⟩:=h
 cases rx
 obtain⟨its,r,ht,hz⟩:=I.list hx
 have hlen:=r.length
 refine⟨"list",_,slot_list_getitem.lookup,ht.isList.typeIs,?_⟩
 refine wpAny_getItem_list_slice ht.isList hs pl pu .none (by simp) ?_ (by rw[j5] <;> left)
 rw[tV,← hlen]
 refine⟨.ref s.heap.objs.size,_,I.laid (t':=s.toks) (o:=.lst (cutV xs lo hi)) (λ b ob q=>c6 _ q) (h9 _) ?_,rfl,q _ (I.hok.fresh (h9 _))⟩
 exact⟨uao (lK xs lo hi) hz,_,0,(r.drop (HT.sIx xs.length 0 lo)).take (HT.sIx xs.length xs.length hi-HT.sIx xs.length 0 lo),i7 _ rfl⟩
def flatV:V->Bool
 | .non=>true
 | .bl _=>true
 | .int _=>true
 | .str _=>true
 | _=>false
def eqV:V->V->Bool
 | .non,.non=>true
 | .bl a,.bl b=>a==b
 | .bl a,.int b=>(if a then 1 else 0)==b
 | .int a,.bl b=>a==(if b then 1 else 0)
 | .int a,.int b=>a==b
 | .str a,.str b=>a==b
 | _,_=>false
theorem zd3 {A:uae}{s:d7}{y x:V}{u v:c9}(ry:RelV y u)(rx:RelV x v)(fy:flatV y=true)(fx:flatV x=true):SeqAt.EqAt A s u v (eqV y x):=by
 cases y with
 | non =>
  cases ry
  cases x with
  | non=>cases rx;exact SeqAt.EqAt.same _
  | bl b=>cases rx;exact SeqAt.EqAt.none_bool b
  | int b=>obtain⟨t,rfl⟩:=rx;exact SeqAt.EqAt.none_int b t
  | str b=>obtain⟨t,rfl⟩:=rx;exact SeqAt.EqAt.none_str b t
  | _=>exact absurd (show false=true from fx) j6
 | bl a =>
  cases ry
  cases x with
  | non=>cases rx;exact SeqAt.EqAt.bool_none a
  | bl b=>cases rx;exact SeqAt.EqAt.bool_bool a b
  | int b=>obtain⟨t,rfl⟩:=rx;exact SeqAt.EqAt.bool_int a b t
  | str b=>obtain⟨t,rfl⟩:=rx;exact SeqAt.EqAt.bool_str a b t
  | _=>exact absurd (show false=true from fx) j6
 | int a =>
  obtain⟨t',rfl⟩:=ry
  cases x with
  | non=>cases rx;exact SeqAt.EqAt.int_none a t'
  | bl b=>cases rx;exact SeqAt.EqAt.int_bool a t' b
  | int b=>obtain⟨t,rfl⟩:=rx;exact SeqAt.EqAt.int_int a t' b t
  | str b=>obtain⟨t,rfl⟩:=rx;exact SeqAt.EqAt.int_str a t' b t
  | _=>exact absurd (show false=true from fx) j6
 | str a =>
  obtain⟨t',rfl⟩:=ry
  cases x with
  | non=>cases rx;exact SeqAt.EqAt.str_none a t'
  | bl b=>cases rx;exact SeqAt.EqAt.str_bool a t' b
  | int b=>obtain⟨t,rfl⟩:=rx;exact SeqAt.EqAt.str_int a t' b t
  | str b=>obtain⟨t,rfl⟩:=rx;exact SeqAt.EqAt.str_str a t' b t
  | _=>exact absurd (show false=true from fx) j6
 | _=>exact absurd (show false=true from fy) j6
def eqU (x:V)(u:c9):Bool:=match u with
 | .none=>eqV .non x
 | .bool b=>eqV (.bl b) x
 | .int i _=>eqV (.int i) x
 | .str z _=>eqV (.str z) x
 | _=>false
theorem rD {x y:V}{u:c9}(r:RelV y u)(f:flatV y=true):eqU x u=eqV y x:=by
 cases y with
 | non=>cases r;rfl
 | bl b=>cases r;rfl
 | int i=>obtain⟨t,rfl⟩:=r;rfl
 | str z=>obtain⟨t,rfl⟩:=r;rfl
 | _=>exact absurd (show false=true from f) j6
theorem kG {x:V}:∀ {xs:List V}{us:List c9},Vals xs us->xs.all flatV=true->us.any (eqU x)=xs.any λ y=>eqV y x
 | _,_,.nil,_=>rfl
 | y::xs,u::us,.cons r t,f=>by
  rw[List.all_cons,o7] at f
  rw[uft,uft,rD r f.1,kG t f.2]
theorem jP {A:uae}{s:d7}{x:V}{v:c9}(rx:RelV x v)(fx:flatV x=true):∀ {xs:List V}{us:List c9},Vals xs us->xs.all flatV=true->∀ u∈us,SeqAt.EqAt A s u v (eqU x u)
 | _,_,.nil,_=>λ u hu=>by cases hu
 | y::xs,u::us,.cons r t,f=>λ u' hu=>by
  rw[List.all_cons,o7] at f
  rcases j4.mp hu with rfl | hu
  ·rw[rD r f.1];exact zd3 r rx f.1 fx
  ·exact jP rx fx t f.2 u' hu
def inV (x:V)(xs:List V):Bool:=xs.any λ y=>eqV y x
inductive rIn_i (K:b8)(neg:Bool)(x:V)(y:V)(H:Hp)(Q:VK):Prop
 | mk:∀ p xs,(y=.ref p)->((SqL K H p xs\/SqT K H p xs))->(flatV x=true)->(xs.all flatV=true)->(Q (.bl (if neg then !inV x xs else inV x xs)) H)->rIn_i K neg x y H Q
def rIn (K:b8)(neg:Bool):R2:=λ x y H Q=>rIn_i K neg x y H Q
theorem yL:OpR X (compareOp .In) (rIn X.K false):=by
 intro pins s σ H x y v u Q I rx ry h
 obtain⟨p,xs,rfl,hq,fx,fs,q⟩:=h
 cases ry
 rcases hq with hq | hq
 ·obtain⟨its,r,pl,hz⟩:=I.list hq
  refine SeqAt.in_listAt (eqU x) pl.isList (λ w hw=>jP rx fx r fs w (by simpa using hw)) ⟨.bl _,H,I,rfl,?_⟩
  rw[show its.toArray.any (eqU x)=its.any (eqU x) by simp,kG r fs]
  exact q
 ·obtain⟨its,r,pl,hz⟩:=I.tuple hq
  refine SeqAt.in_tupleAt (eqU x) pl (λ w hw=>jP rx fx r fs w (by simpa using hw)) ⟨.bl _,H,I,rfl,?_⟩
  rw[show its.toArray.any (eqU x)=its.any (eqU x) by simp,kG r fs]
  exact q
inductive call_len_seq_i (K:b8)(xs:List V)(H:Hp)(Q:VK):Prop
 | mk:∀ p ys,(xs=[.ref p])->((SqL K H p ys\/SqT K H p ys))->(Q (.int ys.length) H)->call_len_seq_i K xs H Q
theorem bG:CallR X (.builtin "len") (call_len_seq_i X.K):=by
 intro pins s σ H xs us Q I r h
 obtain⟨p,ys,rfl,hq,q⟩:=h
 obtain⟨u,rfl,rx⟩:=vals1 r
 cases rx
 have hn:=line63
 rcases hq with hq | hq
 ·obtain⟨its,r',pl,hz⟩:=I.list hq
  have hlen:=r'.length
  exact Calls.call_len_list pl.isList (by simp only [j5] <;> left) ⟨.int ys.length,H,I.tok _,⟨s.toks+1,by rw[j5,hlen]⟩,q⟩
 ·obtain⟨its,r',pl,hz⟩:=I.tuple hq
  have hlen:=r'.length
  exact len_tuple pl (by simp only [j5] <;> left) ⟨.int ys.length,H,I.tok _,⟨s.toks+1,by rw[j5,hlen]⟩,q⟩
inductive call_tuple_of_i (K:b8)(xs:List V)(H:Hp)(Q:VK):Prop
 | mk:∀ p ys,(xs=[.ref p])->(((SqL K H p ys/\∀ l,H l=none->Q (.ref l) (upd H l (.tup ys)))\/(SqT K H p ys/\Q (.ref p) H)))->call_tuple_of_i K xs H Q
theorem lB:CallR X (.type "tuple") (call_tuple_of_i X.K):=by
 intro pins s σ H xs us Q I r h
 obtain⟨p,ys,rfl,h⟩:=h
 obtain⟨u,rfl,rx⟩:=vals1 r
 cases rx
 rcases h with ⟨hq,q⟩ | ⟨hq,q⟩
 ·obtain⟨its,r',pl,hz⟩:=I.list hq
  have hlen:=r'.length
  refine call_tuple_list pl.isList (λ h' kp=>?_) (by simp only [j5] <;> left)
  have I1:Inv X pins σ H { s with heap:=h' }:=I.kept (t':=s.toks) kp
  have I2:Inv X pins σ (upd H h'.objs.size (.tup ys)) { s with heap:=h'.push { cls:=.type "tuple",data:=.seq its.toArray } } :=
   I1.laid (t':=s.toks) (λ b o e=>c6 _ e) (h9 _) (show ObjOk X.prog X.w _ _ _ (.tup ys) from ⟨hz,its,r',TupN.new _ _⟩)
  exact⟨.ref h'.objs.size,_,I2,rfl,q _ (I1.hok.fresh (h9 _))⟩
 ·obtain⟨its,r',pl,hz⟩:=I.tuple hq
  exact call_tuple_same pl ⟨.ref p,H,I,rfl,q⟩
def tyV (K:b8)(T:String)(x:V)(H:Hp):Prop:=match x with
 | .str _=>T="str"
 | .int _=>T="int"
 | .ref p => (T = "list" /\ ∃ xs, SqL K H p xs) \/ (T = "tuple" /\ ∃ o, K.lookup p = some o /\ o.cls = .type "tuple" /\ o.dict = none) \/
     (T="dict"/\((∃ kvs,H p=some (.dK kvs))\/∃ kvs,H p=some (.dT kvs)))\/(T="set"/\∃ S n,H p=some (.set S n))
 | _=>False
theorem zdc {pins:List (l7 × Obj)}{σ:St}{H:Hp}{s:d7}{T:String}{x:V}{v:c9}(I:Inv X pins σ H s)(r:RelV x v)(ty:tyV X.K T x H) :
  s.TypeIs v T/\∀ a,v=.ref a->∃ ob,s.heap.get? a=some ob/\ob.dict=none:=by
 cases x with
 | str z =>
  obtain⟨t,rfl⟩:=r
  cases (show T="str" from ty)
  exact⟨typeIs_str s z t,λ _ e=>nomatch e⟩
 | int i =>
  obtain⟨t,rfl⟩:=r
  cases (show T="int" from ty)
  exact⟨typeIs_int s i t,λ _ e=>nomatch e⟩
 | ref p =>
  cases r
  rcases ty with ⟨rfl,xs,hq⟩ | ⟨rfl,o,hk,hc,hd⟩ | ⟨rfl,hk⟩ | ⟨rfl,S,n,hk⟩
  ·obtain⟨its,_,pl,_⟩:=I.list hq
   refine⟨pl.isList.typeIs,λ a e=>?_⟩
   cases e
   obtain⟨o,n,e,c,hd,_⟩:=pl
   exact⟨o,e,hd⟩
  ·refine⟨⟨o,I.kIn p o hk,hc⟩,λ a e=>?_⟩
   cases e
   exact⟨o,I.kIn _ o hk,hd⟩
  ·have z:∃ o,s.heap.get? p=some o/\o.ExactDict:=by
    rcases hk with ⟨kvs,hk⟩ | ⟨kvs,hk⟩
    ·obtain⟨_,_,_,_,o,_,_,e,ex,_⟩:=I.hok p _ hk
     exact⟨o,e,ex⟩
    ·obtain⟨_,_,_,_,o,_,_,e,ex,_⟩:=I.hok p _ hk
     exact⟨o,e,ex⟩
   obtain⟨o,e,ex⟩:=z
   refine⟨⟨o,e,ex.1⟩,λ a e2=>?_⟩
   cases e2
   exact⟨o,e,ex.2.1⟩
  ·obtain⟨o,_,_,_,e,ex,_⟩:=I.hok p _ hk
   refine⟨⟨o,e,ex.1⟩,λ a e2=>?_⟩
   cases e2
   exact⟨o,e,ex.2.1⟩
 | _=>exact False.elim ty
def tBM (K:b8)(T:String)(r:V->List V->Hp->VK->Prop)(to:TE)(t:TA):TE:=λ σ H Q=>to σ H λ x H1=>tyV K T x H1/\t σ H1 λ xs H2=>r x xs H2 Q
variable {o e:uct}{es:List uct}{to:TE}{t:TA}{name:Str}{apos cpos:Pos}{T id:String}{r:V->List V->Hp->VK->Prop}
theorem dP (pa:PlainAttrs T)(slot:Slot T name id)(hty:typeOf (.builtin id)=pure (.type "method_descriptor"))(hm:MtR X id r)(ho:PE X o to)(ha:PA X (e::es) t)
  (hbase:attributeBase o name X.env (eval o X.env)=eval o X.env:=by rfl)
  (hfew:((backTo cpos (ubc (e::es) X.env)).all (λ x=>!x.1)&&(backToKw cpos (keywordEach [] X.env)).all (λ x=>x.1.isSome)
  &&decide ((e::es).length+([]:List Keyword).length+(if ([]:List Keyword).isEmpty then 0 else 1)<30))=true:=by rfl)
  (hline:(apos.endLine==cpos.line)=true:=by rfl) (hs:ubc (e::es) X.env=(false,eval e X.env)::ubc es X.env:=by rfl) (hplain:(backTo cpos (ubc es X.env)).any (·.1)=false:=by rfl) :
  PE X (.Call (.Attribute o name apos) (e::es) [] cpos) (tBM X.K T r to t):=by
 intro pins s σ H Q I h
 refine wpAny_Call_method_late hbase hfew hline rfl (thn (ho pins s σ H _ I h) λ v s1 ⟨x,H1,I1,r1,ty,q1⟩=>?_)
 obtain⟨h1,h2⟩:=zdc I1 r1 ty
 refine⟨T,id,pa,slot,hty,h1,h2,?_⟩
 have hA:=ha cpos pins s1 σ H1 _ I1 q1
 rw[hs] at hA ⊢
 refine Calls.callWith_builtin (by show (false||(backTo cpos (ubc es X.env)).any (·.1))=false;rw[hplain] <;> rfl) (Calls.evalArgs_plain ?_)
 exact thn hA λ us s2 ⟨vs,H2,I2,r2,q2⟩=>hm pins s2 σ H2 x vs v us Q I2 r1 r2 q2
end
end L2
namespace L2
open PySem PySem.Spec PyProof.Rows
def MtM (X:Cx)(id:String)(r:V->List V->Hp->VK->Prop):Prop :=
 ∀ (pins:List (l7 × Obj))(s:d7)(σ:St)(H:Hp)(x:V)(xs:List V)(v:c9)(us:List c9)(Q:VK),Inv X pins σ H s->RelV x v->Vals xs us->r x xs H Q ->
  j9 (o9 X.prog X.w) X.A (call (.builtin id) (v::us)) (EP X pins σ Q) X.xe s
theorem Vals.one:∀ {x:V}{us:List c9},Vals [x] us->∃ u,us=[u]/\RelV x u
 | _,_,.cons r .nil=>⟨_,rfl,r⟩
theorem Vals.two:∀ {x y:V}{us:List c9},Vals [x,y] us->∃ u v,us=[u,v]/\RelV x u/\RelV y v
 | _,_,_,.cons r (.cons q .nil)=>⟨_,_,rfl,r,q⟩
theorem Vals.eraseIdx:∀ {xs:List V}{us:List c9}(i:Nat),Vals xs us->Vals (xs.eraseIdx i) (us.eraseIdx i)
 | _,_,_,.nil=>.nil
 | _,_,0,.cons _ t=>t
 | _,_,i+1,.cons r t=>.cons r (Vals.eraseIdx i t)
theorem Vals.reverse {xs:List V}{us:List c9}(h:Vals xs us):Vals xs.reverse us.reverse:=by
 induction h with
 | nil=>exact .nil
 | cons r t ih=>rw[uci,uci];exact Vals.append ih (.cons r .nil)
theorem Vals.rep {xs:List V}{us:List c9}(h:Vals xs us):∀ k:Nat,Vals (l8 k xs).flatten (l8 k us).flatten
 | 0=>.nil
 | k+1=>by
  rw[ucn,ucn,udv,udv]
  exact Vals.append h (Vals.rep h k)
theorem mI {α:Type}:∀ (l:List α)(i:Nat),(l.eraseIdx i).length<=l.length
 | [],_=>h9 _
 | _::_,0=>ub8 _
 | _::r,i+1=>ugd (mI r i)
theorem mN (its:List c9):∀ (k:Nat)(acc:List c9),
  uff (λ x1 x2=>x1++x2) acc.toArray (l8 k its.toArray)=(acc++(l8 k its).flatten).toArray
 | 0,acc=>by simp
 | k+1,acc=>by
  have e:acc.toArray++its.toArray=(acc++its).toArray:=by simp
  have e2:(acc++its)++(l8 k its).flatten=acc++(l8 (k+1) its).flatten:=by
   rw[ucn,udv,uax]
  rw[← e2,← mN its k (acc++its),← e,ucn,List.foldl_cons]
section
variable {X:Cx}{pins:List (l7 × Obj)}{σ:St}{H:Hp}{s:d7}{l b:l7}{xs ys zs:List V}
theorem Inv.lset {its its':List c9}{n:Nat}{f:Array c9->Array c9}{t':Nat}(I:Inv X pins σ H s)(hH:H l=some (.lst xs))
  (e:s.heap.get? l=some { cls:=.type "list",data:=.seq its.toArray n }) (hf:f its.toArray=its'.toArray) (hv:Vals ys its') (hz:ys.length<=r9) :
  Inv X pins σ (upd H l (.lst ys)) { s with heap:=s.heap.update l (Obj.mapSeq f),toks:=t' }:=by
 have q:=PySem.IsL.update e f
 rw[hf] at q
 refine I.write (x:=l) (e:=l) (by rw[hH];exact trivial) (.inl rfl) (λ b' u hb hu=>(uac s.heap (Obj.mapSeq f) (Ne.symm hb)).trans hu) ⟨_,q⟩ ?_
 exact⟨hz,its',_,hv,q⟩
theorem Inv.lnew {its:List c9}{t':Nat}(I:Inv X pins σ H s)(hv:Vals ys its)(hz:ys.length<=r9) :
  Inv X pins σ (upd H s.heap.objs.size (.lst ys)) { s with heap:=s.heap.push { cls:=.type "list",data:=.seq its.toArray },toks:=t' } :=
 I.laid (λ _ _ q=>c6 _ q) (h9 _) ⟨hz,its,0,hv,i7 _ rfl⟩
theorem Inv.fresh (I:Inv X pins σ H s):H s.heap.objs.size=none:=I.hok.fresh (h9 _)
theorem Inv.lstM (I:Inv X pins σ H s)(hH:H l=some (.lst xs)):xs.length<=r9/\∃ (its:List c9)(n:Nat),Vals xs its/\xs.length=its.length/\s.heap.get? l=some { cls:=.type "list",data:=.seq its.toArray n }:=by
 obtain⟨z,its,n,r,e⟩:=I.hok l _ hH
 exact⟨z,its,n,r,r.length,e⟩
theorem notLongL {n:Nat}(h:n<=r9):Builtin.List.listTooLong n=false:=by
 unfold Builtin.List.listTooLong
 exact uhc (by left)
end
section
variable {X:Cx}
inductive rAppend_i  (x:V) (vs:List V) (H:Hp) (Q:VK):Prop
 | mk:∀ l xs y,(x=.ref l)->(vs=[y])->(H l=some (.lst xs))->(xs.length<r9)->(Q .non (upd H l (.lst (xs++[y]))))->rAppend_i x vs H Q
def rAppend :V->List V->Hp->VK->Prop:=λ x vs H Q=>rAppend_i x vs H Q
theorem gL:MtM X "list.append" rAppend:=by
 intro pins s σ H x vs v us Q I rx rv h
 obtain⟨l,xs,y,rfl,rfl,hH,hz,q⟩:=h
 cases rx
 obtain⟨u,rfl,ru⟩:=rv.one
 obtain⟨z,its,n,r,hl,e⟩:=I.lstM hH
 refine ugl F.slot_list_append ⟨_,e,rfl⟩ F.entry_list_append (F.args_list_append_2 _ _) (PySem.list_append l its.toArray n u (by rw[j5];left)) ⟨e,?_⟩
 refine⟨.non,_,I.lset (its':=its++[u]) hH e (by simp) (r.append (.cons ru .nil)) ?_,rfl,q⟩
 rw[i6,t6]
 left
inductive rExtend_i  (x:V) (vs:List V) (H:Hp) (Q:VK):Prop
 | mk:∀ l b xs zs,(x=.ref l)->(vs=[.ref b])->(H l=some (.lst xs))->(H b=some (.lst zs))->(xs.length+zs.length<=r9)->(Q .non (upd H l (.lst (xs++zs))))->rExtend_i x vs H Q
def rExtend :V->List V->Hp->VK->Prop:=λ x vs H Q=>rExtend_i x vs H Q
theorem mE:MtM X "list.extend" rExtend:=by
 intro pins s σ H x vs v us Q I rx rv h
 obtain⟨l,b,xs,zs,rfl,rfl,hH,hB,hz,q⟩:=h
 cases rx
 obtain⟨u,rfl,ru⟩:=rv.one
 cases ru
 obtain⟨z,its,n,r,hl,e⟩:=I.lstM hH
 obtain⟨z2,its2,n2,r2,hl2,e2⟩:=I.lstM hB
 have hsz:its.toArray.size+its2.toArray.size<=r9:=by rw[j5,j5];left
 have hlong:¬ (!its.toArray.isEmpty&&Builtin.List.listTooLong (its.toArray.size+its2.toArray.size))=true:=by
  rw[notLongL hsz,Bool.and_false]
  exact j6
 refine ugl F.slot_list_extend ⟨_,e,rfl⟩ F.entry_list_extend (F.args_list_extend_2 _ _)
  (AutoSeq1.list_extend_list_list_0 l its.toArray n b its2.toArray n2 hlong (by rw[j5];left) (by left)) ⟨e,e2,?_⟩
 refine⟨.non,_,I.lset (its':=its++its2) hH e (by simp) (r.append r2) ?_,rfl,q⟩
 rw[i6]
 left
inductive rPopAt_i  (x:V) (vs:List V) (H:Hp) (Q:VK):Prop
 | mk:∀ l xs i k y,(x=.ref l)->(vs=[.int i])->(H l=some (.lst xs))->(-(2^63)<=i)->(i<2^63)->(seqIndex? i xs.length=some k)->(xs[k]?=some y)->(Q y (upd H l (.lst (xs.eraseIdx k))))->rPopAt_i x vs H Q
def rPopAt :V->List V->Hp->VK->Prop:=λ x vs H Q=>rPopAt_i x vs H Q
theorem zat:MtM X "list.pop" rPopAt:=by
 intro pins s σ H x vs v us Q I rx rv h
 obtain⟨l,xs,i,k,y,rfl,rfl,hH,h1,h2,hk,hy,q⟩:=h
 cases rx
 obtain⟨u,rfl,ru⟩:=rv.one
 obtain⟨t,rfl⟩:=ru
 obtain⟨z,its,n,r,hl,e⟩:=I.lstM hH
 obtain⟨w,hw,rw'⟩:=r.get hy
 refine ugl F.slot_list_pop ⟨_,e,rfl⟩ F.entry_list_pop (F.args_list_pop_2 _ _)
  (MeetsSeq.list_pop_at l its.toArray n i t k w (fitsIndex_both h1 h2) (by rw[j5,← hl];exact hk) (by rw[← ua5];exact hw) (by rw[j5];left)) ⟨e,?_⟩
 refine⟨y,_,I.lset (its':=its.eraseIdx k) hH e ?_ (r.eraseIdx k) ?_,rw',q⟩
 ·show its.toArray.eraseIdxIfInBounds k=(its.eraseIdx k).toArray
  rw[List.eraseIdxIfInBounds_toArray]
 ·have:=mI xs k
  left
inductive rRep_i  (x:V) (y:V) (H:Hp) (Q:VK):Prop
 | mk:∀ l k xs,(x=.ref l)->(y=.int k)->(H l=some (.lst xs))->(-(2^63)<=k)->(k<2^63)->(xs.length*k.toNat<=r9)->(∀ p,H p=none->Q (.ref p) (upd H p (.lst (l8 k.toNat xs).flatten)))->rRep_i x y H Q
def rRep :R2:=λ x y H Q=>rRep_i x y H Q
theorem zcp {α:Type}(xs:List α)(k:Nat):(l8 k xs).flatten.length=k*xs.length:=by
 induction k with
 | zero=>simp
 | succ k ih=>rw[ucn,udv,i6,ih,Nat.succ_mul,uej]
theorem zdo:OpR X (binaryOp .Mult) rRep:=by
 intro pins s σ H x y v u Q I rx ry h
 obtain⟨l,k,xs,rfl,rfl,hH,h1,h2,hz,q⟩:=h
 cases rx
 obtain⟨t,rfl⟩:=ry
 obtain⟨z,its,n,r,hl,e⟩:=I.lstM hH
 have hlen:its.toArray.size*k.toNat<=r9:=by rw[j5,← hl];exact hz
 have hcap:¬ its.toArray.size*k.toNat>(2^63-1) / 8:=by
  have:(r9:Nat)<=(2^63-1) / 8:=by decide
  left
 have hfit:¬ (!Builtin.List.listFitsIndex k)=true:=by
  rw[fitsIndex_both h1 h2]
  exact j6
 have hlong:¬ Builtin.List.listTooLong (its.toArray.size*k.toNat)=true:=by
  rw[notLongL hlen]
  exact j6
 have hnew:uff (λ x1 x2=>x1++x2) #[] (l8 (if its.toArray.isEmpty=true then 0 else k.toNat) its.toArray)=(l8 k.toNat its).flatten.toArray:=by
  have f0:∀ m:Nat,uff (λ x1 x2=>x1++x2) #[] (l8 m its.toArray)=(l8 m its).flatten.toArray:=λ m=>by
   have:=mN its m []
   rw[List.nil_append] at this
   exact this
  rw[f0]
  cases its with
  | nil=>simp
  | cons a r'=>rw[uhe (by simp)]
 refine wpAny_binaryOp_repeat_ref (T:="list") (U:="int") (by decide) ⟨_,e,rfl⟩ (λ s'=>typeIs_int s' k t) noFill_list_mul F.fills_int_mul F.slot_int_rmul repeat_list F.slot_int_index.lookup
  (ugl F.slot_int_rmul (typeIs_int s k t) F.entry_int_rmul (F.args_int_rmul_2 _ _) (int___rmul___int_list k t l its.toArray n)
   ⟨e,rfl,⟨_,e,rfl⟩,ugl F.slot_list_mul ⟨_,e,rfl⟩ F.entry_list_mul (F.args_list_mul_2 _ _) (AutoListH.list___mul___list_int_3 l its.toArray n k t hfit hcap hlong) ⟨e,?_⟩⟩)
 rw[hnew]
 exact⟨.ref _,_,I.lnew (t':=s.toks) (r.rep k.toNat) (by rw[zcp,Nat.mul_comm];exact hz),rfl,q _ I.fresh⟩
end
section
variable {prog:l9}{w:uak}{A:uae}{E:c9->d7->Prop}{s:d7}
end
section
variable {X:Cx}
end
end L2
namespace Att
open PySem PySem.W PySem.Calls PyProof.Rows
theorem sP {P:Params}{h:Heap}:∀ (ns:List Int)(vs:List c9),WellAll P h vs (ns.map WData.int)->IntsAre vs ns:=by
 intro ns
 induction ns with
 | nil =>
  intro vs w
  rw[List.map_nil] at w
  cases w
  exact .nil
 | cons n ns ih =>
  intro vs w
  rw[ua1] at w
  cases w with
  | cons a b =>
   cases a
   exact .cons _ _ (ih _ b)
theorem yA {l:OpenLaw}{n:Nat}(hn:l.most=some n){P:Params}{h:Heap}{args:List WData}{vals:List c9}
  (hpre:l.row.toRowW.claim.pre args=true) (hwl:WellAll P h vals args) :
  ∃ a vs ns,vals=[Value.ref a]/\args=[WData.list (ns.map WData.int)]/\h.get? a=some { cls:=.type "list",data:=.seq vs.toArray }/\IntsAre vs ns/\ns.length<=n:=by
 have hsh:WShape.hasAll [] args [.list .int]=true:=(pre_splitW hpre).1
 have hc:l.pre.holds [] { args:=args }=true:=(pre_splitW hpre).2
 obtain⟨d,r,rfl,h1,h2⟩:=hasAllW_cons hsh
 obtain rfl:=hasAllW_nil h2
 obtain⟨xs,rfl,h3⟩:=hasW_list h1
 obtain⟨ns,rfl⟩:=items_int h3
 have hlen:ns.length<=n:=by
  unfold OpenLaw.pre at hc
  have h4:(WTm.not (.lt (.lit (.int (n:Int))) (.len (.arg 0)))).holds [] { args:=[.list (ns.map .int)] }=true:=by
   have h4:=(holds_andW hc).1
   rw[hn] at h4
   exact h4
  have h5:=condW_of h4 (w_not (w_lt w_lit (w_len_list (w_arg rfl))))
  rw[c8] at h5
  refine Nat.le_of_not_lt λ q=>?_
  have q':(n:Int)<((ns.length:Nat):Int):=by left
  first
   | (rw[uha q'] at h5;exact absurd h5 (by decide))
   | (simp at h5;left)
 cases hwl with
 | cons w1 w2 =>
  cases w2
  cases w1 with
  | list ho hall=>exact⟨_,_,ns,rfl,rfl,ho,sP ns _ hall,hlen⟩
theorem yG (l:OpenLaw)(args:List WData):l.row.toRowW.claim.post args (.bool true) args=true :=
 postW_of (r:=l.row.toRowW) (X:=(true==true))
  (show WShape.has [] (.bool true) .bool=true by first | rfl | decide | simp [WShape.has,WShape.arms,WShape.armsAll])
  (show (WTm.eq .res (.lit (.bool true))).value [] { args:=args,res:=some (.bool true),after:=args }=some (.bool (true==true)) from w_eq_bool (w_res rfl) w_lit) rfl
theorem attach_call {l:OpenLaw}{n:Nat}{q:l9}{loose:List Str}{XP:(Str->Option c9)->Heap->Prop}{YP:uak->Heap->Prop}{d:DefRec}
  (hn:l.most=some n) (hdf:d.params.defaults=[])
  (call:∀ (w:uak)(s₀ s₁:d7)(mg mb:Str->Option c9)(fa:l7)(o:Obj)(pm cd doc:c9)(a:l7)(vs:List c9)(ns:List Int),
   Ground q loose [] XP w s₀ mg mb s₁.heap->YP w s₁.heap ->
   s₁.heap.get? fa=some o->o.data=.func (docDef d.name d.params d.body d.scope pm cd doc)->s₁.heap.CodeRec cd d.name->mg d.name=some (.ref fa) ->
   s₁.heap.get? a=some { cls:=.type "list",data:=.seq vs.toArray }->IntsAre vs ns->ns.length<=n->s₁.gens=#[] ->
   codeAny (o9 l.prog w) callerA (.call (.ref fa) ⟨[.ref a],[]⟩) (λ r s'=>r=.ok (.ret (.bool true))/\OldK s₁.heap s'.heap/\s'.os=s₁.os/\AllBare s'.gens) s₁) :
  WalkO q loose XP YP l.row.toRowW d [] (λ f vs=>PySem.call f vs):=by
 intro w s₀ s₁ mg mb G Y fa o pm cd doc dV kV ho hd hcd hD hmg hg args vals as hpre hlay hrd hwl hlo
 obtain rfl:dV=.none:=Dflts.none hD hdf
 obtain rfl:kV=.none:=Dflts.noKw hD
 obtain⟨a,vs,ns,rfl,rfl,hobj,hints,hlen⟩:=yA hn hpre hwl
 refine enter_call (udr (call w s₀ s₁ mg mb fa o pm cd doc a vs ns G Y ho (fd_plain hd) hcd hmg hobj hints hlen hg) λ r s' hq=>?_)
 obtain⟨rfl,h2,h3,h4⟩:=hq
 exact⟨.inl ⟨.bool true,.bool true,[],rfl,λ _=>rfl,.bool true,yG l _,λ _=>⟨ugr,λ _ hm=>(nomatch hm)⟩⟩,h2,h3,h4⟩
section
variable {prog:l9}{w:uak}{A:uae}{E:c9->d7->Prop}{s:d7}{K:Frag}
end
end Att
namespace L2
open PySem PySem.Spec PyProof.Rows
theorem lT:∀ {vs:List c9}{ns:List Int},IntsAre vs ns->Vals (ns.map V.int) vs
 | _,_,.nil=>.nil
 | _,_,.cons n t h=>.cons ⟨t,rfl⟩ (lT h)
def Only (H:Hp):Prop:=∀ b,H b=none\/∃ o xs,H b=some (.frz o (.lst xs))
theorem zau {P:l9}{w:uak}{K:b8}{mg mb:Str->Option c9}{CX:CXT}{k:Nat}{fa a:l7}{fd:FuncData}{x:Str}{sp:Sp}{s₁:d7}{vs:List c9}{ns:List Int}
  (KX:K.In s₁.heap) (hns:s₁.heap.Ns p9 mg) (hb:s₁.heap.Ns builtinsNs mb) (hbb:∀ x:Str,x≠"__name__"->mb x=bootBuiltins x) (hlim:s₁.heap.NoLimit) (hg:s₁.gens=#[])
  (ha:s₁.heap.get? a=some { cls:=.type "list",data:=.seq vs.toArray }) (hi:IntsAre vs ns) (hl:ns.length<=r9) (hr:Room k callerA)
  (F:∀ base:Heap,K.In base->base.Ns p9 mg->FnOk P w K mg base CX k fa fd [x] sp) (hbind:∀ (s:d7)(u:c9),BindsTo s fd ⟨[u],[]⟩ [(x,u)])
  (hsp:∀ H:Hp,Only H->SqL K H a (ns.map V.int)->sp [.ref a] H (λ v _=>v=.bl true) λ _ _ _=>False)
  (hCX:∀ H e s',CX [] H s₁ (λ _ _ _=>False) e s'->False) :
  codeAny (o9 P w) callerA (.call (.ref fa) ⟨[.ref a],[]⟩) (λ r s'=>r=.ok (.ret (.bool true))/\OldK s₁.heap s'.heap/\s'.os=s₁.os/\AllBare s'.gens) s₁:=by
 have rv:=lT hi
 have lenV:=hi.length
  -- from an abstract heap in which nothing but the script may be tracked
 have core : ∀ H : Hp, Only H → SqL K H a (ns.map V.int) → HOk P w H s₁.heap → (∀ b, H b ≠ none → b = a) → (H a ≠ none → K.lookup a = none) →
     codeAny (o9 P w) callerA (.call (.ref fa) ⟨[.ref a],[]⟩) (λ r s'=>r=.ok (.ret (.bool true))/\OldK s₁.heap s'.heap/\s'.os=s₁.os/\AllBare s'.gens) s₁:=by
  intro H hO hS hok hA hK
  have base_of:∀ {b:l7}{o:Obj},s₁.heap.get? b=some o->H b=none->(hidT s₁.heap H).get? b=some o:=λ e n=>za0 e n
  have noA:∀ {b:l7}{o:Obj}{es:Array DictEntry}{ep:Nat},s₁.heap.get? b=some o->o.data=.dict es ep->H b=none:=λ {b o es ep} e d=>by
   cases q:H b with
   | none=>rfl
   | some u =>
    have e':b=a:=hA b (by rw[q];simp)
    subst e'
    rw[ha] at e;cases e
    have d':Data.seq vs.toArray _=Data.dict es ep:=d
    cases d'
  have nsK:∀ {b:l7}{m:Str->Option c9},s₁.heap.Ns b m->(hidT s₁.heap H).Ns b m:=λ {b m} ⟨o,es,ep,e,d,r⟩=>⟨o,es,ep,base_of e (noA e d),d,r⟩
  have hKb:K.In (hidT s₁.heap H):=λ b o e=>base_of (KX b o e) (by
   cases q:H b with
   | none=>rfl
   | some u =>
    have e':b=a:=hA b (by rw[q];simp)
    subst e'
    rw[hK (by rw[q];simp)] at e;cases e)
  have hM:Mod K mg (hidT s₁.heap H):=⟨hKb,nsK hns,⟨mb,nsK hb,hbb⟩,let ⟨mc,h1,h2⟩:=hlim;⟨mc,nsK h1,h2⟩⟩
  have e0:Env0 P w K mg (hidT s₁.heap H) callerA [] s₁ H:=⟨rfl,hM,λ b o e=>zcj e,udx (zB _ _),trivial,λ b hb=>absurd (show b∈([]:List l7) from hb) (by simp),hok,.of_eq hg⟩
  refine udr ((F _ hKb (nsK hns)).run callerA [] s₁ H ⟨[.ref a],[]⟩ [.ref a] [.ref a] _ _ hr e0 (hbind s₁ (.ref a)) (.cons rfl .nil) (hsp H hO hS)) λ r s' h=>?_
  cases r with
  | error e=>exact (hCX H e s' h).elim
  | ok fl =>
   cases fl with
   | next=>exact False.elim h
   | brk=>exact False.elim h
   | cont=>exact False.elim h
   | ret u =>
    obtain⟨v,H',os,bare,un,hok',r',q⟩:=h
    have q':v=.bl true:=q
    subst q'
    obtain rfl:u=Value.bool true:=r'
    refine⟨rfl,OldK.of_keep λ b o e=>?_,os,bare⟩
    cases q:H b with
    | none=>exact un.keep b o e q (by intro z;exact absurd (show b∈([]:List l7) from z) (by simp)) (by simp)
    | some u =>
     rcases hO b with z | ⟨ob,xs,z⟩
     ·rw[q] at z;cases z
     ·have z2:=un.frzs b ob _ z
      obtain⟨e1,_⟩:=hok b _ z
      obtain⟨e2,_⟩:=hok' b _ z2
      rw[e] at e1;cases e1
      exact e2
 cases hk:K.lookup a with
 | some o =>
    -- the script is one of the module's own objects
  have e:=KX a o hk
  rw[ha] at e
  cases e
  refine core (λ _=>none) (λ _=>.inl rfl) (.inr ⟨_,vs.toArray,_,hk,rfl,rfl,rfl,by rw[j5,lenV];exact hl,by simpa using rv⟩) (λ b u z=>by have z':(none:Option HO)=some u:=z;cases z') (λ b z=>absurd rfl z) λ z=>absurd rfl z
 | none =>
  refine core (λ b=>if b=a then some (.frz { cls:=.type "list",data:=.seq vs.toArray } (.lst (ns.map V.int))) else none) (λ b=>?_) (.inl (.inr ⟨{ cls:=.type "list",data:=.seq vs.toArray },uhd rfl⟩)) (λ b u z=>?_) (λ b z=>?_) λ _=>hk
  ·by_cases hb:b=a
   ·exact .inr ⟨_,_,uhd hb⟩
   ·exact .inl (uhe hb)
  ·by_cases hb:b=a
   ·have z':=(uhd hb).symm.trans z
    cases z'
    subst hb
    exact⟨ha,by rw[c8];exact hl,vs,_,rv,ha⟩
   ·have z':=(uhe hb).symm.trans z
    cases z'
  ·by_cases hb:b=a
   ·exact hb
   ·exact absurd (uhe hb) z
end L2
namespace L2
open PySem PySem.Spec PyProof.Rows
theorem zbs {l:PySem.W.OpenLaw}{n k:Nat}{q:l9}{loose:List Str}{XP:(Str->Option c9)->Heap->Prop}{YP:uak->Heap->Prop}{d:DefRec}{K:Params->b8}{CX:uak->CXT}{sp:uak->Sp}{x:Str}
  (hn:l.most=some n) (hn2:n<=r9) (hdf:d.params.defaults=[]) (hr:Room k callerA)
  (hY:∀ (w:uak)(h:Heap),YP w h->(K w.params).In h)
  (F:∀ (w:uak)(mg:Str->Option c9)(fa:l7)(h:Heap),(K w.params).In h->h.Ns p9 mg->mg d.name=some (.ref fa) ->
   ∃ fd:FuncData,(∀ (s:d7)(u:c9),BindsTo s fd ⟨[u],[]⟩ [(x,u)]) /\
    ∀ base:Heap,(K w.params).In base->base.Ns p9 mg->FnOk l.prog w (K w.params) mg base (CX w) k fa fd [x] (sp w))
  (hsp:∀ (w:uak)(H:Hp)(a:l7)(ns:List Int),ns.length<=n->Only H->SqL (K w.params) H a (ns.map V.int)->sp w [.ref a] H (λ v _=>v=.bl true) λ _ _ _=>False)
  (hCX:∀ (w:uak)(H:Hp)(s:d7)(e:c9)(s':d7),CX w [] H s (λ _ _ _=>False) e s'->False) :
  PySem.W.WalkO q loose XP YP l.row.toRowW d [] (λ f vs=>PySem.call f vs):=by
 refine Att.attach_call hn hdf λ w s₀ s₁ mg mb fa o pm cd doc a vs ns G Y ho hd hcd hmg hobj hints hlen hg=>?_
 have KX:=hY w _ Y
 obtain⟨fd,hb,hF⟩:=F w mg fa _ KX G.T.g hmg
 exact zau KX G.T.g G.T.b G.T.builtins G.T.nolimit hg hobj hints (uao hlen hn2) hr hF hb (λ H hO hS=>hsp w H a ns hlen hO hS) λ H e s'=>hCX w H s₁ e s'
end L2
namespace L2
open PySem PySem.Spec PyProof.Rows
def defArgs (s:udi):Arguments:=match s with
 | .FunctionDef _ a _ _ _ _ _ _ _ _=>a
 | _=>{ posonlyargs:=[],args:=[],vararg:=none,kwonlyargs:=[],kw_defaults:=[],kwarg:=none,defaults:=[] }
def defBody (s:udi):List udi:=match s with
 | .FunctionDef _ _ b _ _ _ _ _ _ _=>b
 | _=>[]
def defScope (s:udi):Scope:=match s with
 | .FunctionDef _ _ _ _ _ _ sc _ _ _=>sc
 | _=>{ kind:=.function,names:=[],isGenerator:=false,isCoroutine:=false }
abbrev CX0:CXT:=λ _ _ _ _ _ _=>False
abbrev E0:XK:=λ _ _ _=>False
theorem pass0 {X:Cx}:Passes CX0 X E0:=λ _ _ _ _ _ _ _ h=>h.elim
structure Fun (K:b8)(x qual:Str)(st:udi)(f:l7)(fd:FuncData):Prop where
 ex:∃ (oc:c9)(od:Option l7)(kV doc pm:c9)(an:Option l7)(cdv ct:c9)(osl:Array (Option c9)),
  fd=ub9 x qual (defArgs st) (defBody st) (defScope st) .none kV doc pm an cdv ct/\K.lookup f=some ⟨oc,od,.func fd,osl⟩/\ud8 K cdv qual=true
 kp:uds K (.ref f)=true
section
variable {P:l9}{w:uak}{K:b8}{mg:Str->Option c9}{base:Heap}
theorem Fun.ok {x qual:Str}{st:udi}{f:l7}{fd:FuncData}{N ps:List Str}{k:Nat}{sp:Sp}(F:Fun K x qual st f fd)(S:FnScope N ps (defScope st))(len:∀ vs H Q E,sp vs H Q E->vs.length=ps.length)
  (hbody:∀ (cdv:c9)(A:uae)(outer:List Env)(s:d7)(H:Hp)(vs:List V)(Q:VK)(E:XK),Room k (A.deeper (envOfC qual (defScope st) s.heap.objs.size f cdv))->sp vs H Q E ->
   ∃ t,PSs (cxOf CX0 P w K mg base N qual (defScope st) f cdv A outer s H E).nox (defBody st) t/\t { nx:=λ _ H'=>Q .non H',rt:=Q } (start N vs) H):FnOk P w K mg base CX0 (k+1) f fd ps sp:=by
 obtain⟨oc,od,kV,doc,pm,an,cdv,ct,osl,rfl,lk,hcd⟩:=F.ex
 refine zei lk hcd S len λ A outer s H vs Q E hr hsp=>?_
 obtain⟨t,h,q⟩:=hbody cdv A outer s H vs Q E hr hsp
 exact⟨t,h.nox,q⟩
theorem Fun.binds {x qual:Str}{st:udi}{f:l7}{fd:FuncData}{ps:List Str}(F:Fun K x qual st f fd)
  (h:∀ (kV doc pm:c9)(an:Option l7)(cdv ct:c9)(us:List c9),us.length=ps.length->bindArgs (ub9 x qual (defArgs st) (defBody st) (defScope st) .none kV doc pm an cdv ct) ⟨us,[]⟩=pure (ps.zip us)):Binds K fd ps []:=by
 obtain⟨oc,od,kV,doc,pm,an,cdv,ct,osl,rfl,lk,hcd⟩:=F.ex
 exact .all (h kV doc pm an cdv ct)
theorem rC {x qual:Str}{st:udi}{f:l7}{oc:c9}{od an:Option l7}{osl:Array (Option c9)}{kV doc pm cdv ct:c9}(l:K.lookup f=some ⟨oc,od,.func (ub9 x qual (defArgs st) (defBody st) (defScope st) .none kV doc pm an cdv ct),osl⟩)
  (c:ud8 K cdv qual=true) (k:uds K (.ref f)=true):Fun K x qual st f (ub9 x qual (defArgs st) (defBody st) (defScope st) .none kV doc pm an cdv ct):=⟨⟨oc,od,kV,doc,pm,an,cdv,ct,osl,rfl,l,c⟩,k⟩
end
section
variable {X:Cx}
theorem pv (i:Nat){x:Str}{pos:Pos}(hN:X.N[i]?=some x:=by rfl)(hv:Vis X.env.scope x:=by first | exact m9 rfl | exact Or.inr (m9 rfl) | exact Or.inr (Or.inr rfl))(hd:(x==("__debug__":Str))=false:=by decide)
  (hcd:(x==("__classdict__":Str))=false:=by decide):PE X (.Name x pos) (tVar i):=zdm hN hv hd hcd
end
theorem iteF {A B:Prop}(h:B):if false=true then A else B:=by
 rw[uhe j6]
 exact h
theorem iteT {A B:Prop}(h:A):if true=true then A else B:=by
 rw[uhd rfl]
 exact h
theorem ite2 {c A B:Prop}[Decidable c](h1:c->A)(h2:¬ c->B):if c then A else B:=by
 by_cases h:c
 ·rw[uhd h]
  exact h1 h
 ·rw[uhe h]
  exact h2 h
theorem iteNS {c A B:Prop}[Decidable c](hc:c)(h:B):if (!decide c)=true then A else B:=by
 rw[uha hc]
 exact iteF h
def Same (H H':Hp):Prop:=∀ b o,H b=some o->H' b=some o
theorem Same.refl (H:Hp):Same H H:=λ _ _ h=>h
theorem Same.trans {H H1 H2:Hp}(a:Same H H1)(b:Same H1 H2):Same H H2:=λ c o h=>b c o (a c o h)
theorem Same.free {H H':Hp}(e:Same H H'){l:l7}(h:H' l=Option.none):H l=Option.none:=by
 cases q:H l with
 | none=>rfl
 | some o =>
  rw[e l o q] at h
  cases h
theorem Same.seq {K:b8}{H H':Hp}{a:l7}{xs:List V}(e:Same H H')(h:SqL K H a xs):SqL K H' a xs:=by
 rcases h with (h | ⟨o,h⟩) | h
 ·exact .inl (.inl (e _ _ h))
 ·exact .inl (.inr ⟨o,e _ _ h⟩)
 ·exact .inr h
end L2
namespace L2
open PySem PySem.Spec PyProof.Rows
section
variable {κ:Type}[DecidableEq κ]
def valV (kvs:List (κ × V))(k:κ):Option V:=(kvs.find? λ kv=>decide (kv.1=k)).map (·.2)
def putK (kvs:List (κ × V))(k:κ)(v:V):List (κ × V) :=
 if (kvs.any λ kv=>decide (kv.1=k))=true then kvs.map (λ kv=>if kv.1=k then (kv.1,v) else kv) else kvs++[(k,v)]
def dropK (kvs:List (κ × V))(k:κ):List (κ × V):=kvs.filter λ kv=>decide (kv.1≠k)
theorem RelO.getD {o:Option V}{u:Option c9}{d:V}{d':c9}(r:RelO o u)(rd:RelV d d'):RelV (o.getD d) (u.getD d'):=by
 cases o with
 | none=>cases u with
  | none=>exact rd
  | some _=>exact (show False from r).elim
 | some _=>cases u with
  | none=>exact (show False from r).elim
  | some _=>exact r
theorem KV.length {kvs:List (κ × V)}{vs:List (κ × c9)}(r:KV kvs vs):kvs.length=vs.length:=Paired.length r
end
abbrev KT (H:Hp):List (List Key × V)->List (List Key × l7 × c9)->Prop:=Paired λ p q=>p.1=q.1/\H q.2.1=some (.tup (p.1.map kV))/\RelV p.2 q.2.2
section
variable {P:l9}{w:uak}{H:Hp}{h:Heap}{a:l7}
end
def DGet (H:Hp)(a:l7)(y:V)(r:Option V):Prop :=
 (∃ kvs k,Rd H a (.dK kvs)/\y=kV k/\r=valV kvs k)\/∃ kvs k b,Rd H a (.dT kvs)/\y=.ref b/\H b=some (.tup (k.map kV))/\r=valV kvs k
def DPut (H:Hp)(a:l7)(y v:V)(H':Hp):Prop :=
 (∃ kvs k,H a=some (.dK kvs)/\y=kV k/\kvs.length<r9/\H'=upd H a (.dK (putK kvs k v))) \/
 ∃ kvs k b,H a=some (.dT kvs)/\y=.ref b/\H b=some (.tup (k.map kV))/\kvs.length<r9/\H'=upd H a (.dT (putK kvs k v))
section
variable {X:Cx}{pins:List (l7 × Obj)}{σ:St}{H:Hp}{s:d7}{a:l7}{y v:V}{u r:c9}{o:Option V}{A:uae}{E:c9->d7->Prop}
end
section
variable {X:Cx}{pins:List (l7 × Obj)}{σ:St}{H:Hp}{s:d7}{a:l7}{kvs:List (Key × V)}{k:Key}{u:c9}{A:uae}{E:c9->d7->Prop}
end
section
variable {X:Cx}{o i e value:uct}{pos pos' tpos:Pos}{td ty tv:TE}
end
section
variable {X:Cx}{pos:Pos}
end
end L2
set_option maxHeartbeats 4000000
namespace Srt
open PySem PySem.W PyProof.Rows
section
variable {N:Nat}{r:Nat->Int}{cmp:Nat->Nat->(Bool->d7->Prop)->d7->Prop}{s:d7}
def ky (r:Nat->Int)(p:Array Nat)(m:Nat):Int:=r (p.getD m 0)
def Up (r:Nat->Int)(p:Array Nat)(n:Nat):Prop:=∀ i j,i<=j->j<n->ky r p i<=ky r p j
def Dn (r:Nat->Int)(p:Array Nat)(n:Nat):Prop:=∀ i j,i<=j->j<n->ky r p j<=ky r p i
def Ask (N:Nat)(r:Nat->Int)(cmp:Nat->Nat->(Bool->d7->Prop)->d7->Prop)(s:d7):Prop :=
 ∀ i j C,i<N->j<N->C (decide (r i<r j)) s->cmp i j C s
def Gd (N:Nat)(p:Array Nat):Prop:=p.Perm (uec (d8 N))
theorem Gd.sz {p:Array Nat}(g:Gd N p):p.size=N:=by
 have:=g.size_eq
 simpa using this
theorem Gd.lt {p:Array Nat}(g:Gd N p)(h:0<N)(m:Nat):p.getD m 0<N:=by
 by_cases hm:m<p.size
 ·have e:p.getD m 0=p[m]:=by simp [ud4,hm]
  rw[e]
  have h1:p[m]∈p:=Array.getElem_mem hm
  have h2:p[m]∈uec (d8 N):=g.mem_iff.mp h1
  simpa using h2
 ·have e:p.getD m 0=0:=by simp [ud4,hm]
  left
theorem gC {p q:Array Nat}{i j:Nat}(h:p[i]?=q[j]?):ky r p i=ky r q j:=by
 have e:∀ (a:Array Nat)(k:Nat),a.getD k 0=(a[k]?).getD 0:=λ a k=>by
  by_cases hk:k<a.size <;> simp [ud4,hk]
 unfold ky
 rw[e,e,h]
theorem fY {p:Array Nat}{i j:Nat}(hj:j<=p.size)(k:Nat):ky r (kas_rev p i j) k=if i<=k/\k<j then ky r p (i+j-1-k) else ky r p k:=by
 have e:=getElem?_mirror_all (i:=i) hj k
 by_cases h:i<=k/\k<j
 ·rw[uhd h] at e ⊢
  exact gC e
 ·rw[uhe h] at e ⊢
  exact gC e
theorem qW {p:Array Nat}{k d:Nat}(hs:k<p.size)(hd:d<=k)(m:Nat) :
  ky r (bubble p k d) m=if m=k-d then ky r p k else if k-d<m/\m<=k then ky r p (m-1) else ky r p m:=by
 have e:=getElem?_bubble hs d hd m
 by_cases h1:m=k-d
 ·rw[uhd h1] at e ⊢
  exact gC e
 ·rw[uhe h1] at e ⊢
  by_cases h2:k-d<m/\m<=k
  ·rw[uhd h2] at e ⊢
   exact gC e
  ·rw[uhe h2] at e ⊢
   exact gC e
theorem Gd.rev {p:Array Nat}(g:Gd N p)(i j:Nat):Gd N (kas_rev p i j):=(mirror_perm p i j _).trans g
theorem Gd.bub {p:Array Nat}(g:Gd N p)(i j:Nat):Gd N (bubble p i j):=(bubble_perm p i j).trans g
theorem kM (h:Ask N r cmp s)(hN:0<N){p:Array Nat}(g:Gd N p){Q:Nat->d7->Prop}:∀ f n,1<=n->Up r p n ->
  (∀ m,n<=m->m<=n+f->Up r p m->(m<n+f->ky r p m<ky r p (m-1))->Q m s)->(kas_asc p f n).kasWp cmp Q s
 | 0,n,_,hu,q=>q n (h9 _) (h9 _) hu (λ z=>absurd z (ubu _))
 | f+1,n,h1,hu,q=>by
  refine h _ _ _ (g.lt hN _) (g.lt hN _) ?_
  by_cases c:r (p.getD n 0)<r (p.getD (n-1) 0)
  ·rw[uha c]
   exact q n (h9 _) (by left) hu (λ _=>c)
  ·rw[uhc c]
   refine kM h hN g f (n+1) (by left) (λ i j hij hj=>?_) (λ m a b u d=>q m (by left) (by left) u (λ z=>d (by left)))
   have c':ky r p (n-1)<=ky r p n:=by unfold ky;left
   by_cases e:j=n
   ·subst e
    by_cases e2:i=j
    ·subst e2;exact v6 _
    ·exact uar (hu i (j-1) (by left) (by left)) c'
   ·exact hu i j hij (by left)
theorem eI {p:Array Nat}{i j:Nat}(hj:j<=p.size)(v:Int)(he:∀ k,i<=k->k<j->ky r p k=v)(k:Nat):ky r (kas_rev p i j) k=ky r p k:=by
 rw[fY hj]
 split
 ·rename_i c
  rw[he _ (by left) (by left),he k c.1 c.2]
 ·rfl
theorem iF (h:Ask N r cmp s)(hN:0<N){Q:Array Nat × Nat × Nat->d7->Prop}:∀ f p n q,Gd N p->1<=n->n+f<=N->Dn r p n->q+1<=n->(∀ i,n-(q+1)<=i->i<n->ky r p i=ky r p (n-1)) ->
  (∀ p' n' q',Gd N p'->n<=n'->n'<=n+f->Dn r p' n'->q'+1<=n'->(∀ i,n'-(q'+1)<=i->i<n'->ky r p' i=ky r p' (n'-1))->Q (p',n',q') s)->(kas_desc f p n q).kasWp cmp Q s
 | 0,p,n,q,g,_,_,hd,hq,he,z=>z p n q g (h9 _) (h9 _) hd hq he
 | f+1,p,n,q,g,h1,hf,hd,hq,he,z=>by
  refine h _ _ _ (g.lt hN _) (g.lt hN _) ?_
  by_cases c:r (p.getD n 0)<r (p.getD (n-1) 0)
  ·rw[uha c]
   have c':ky r p n<ky r p (n-1):=c
   have dn:∀ {p':Array Nat},(∀ k,ky r p' k=ky r p k)->Dn r p' (n+1):=λ e i j hij hj=>by
    rw[e,e]
    by_cases ej:j=n
    ·subst ej
     by_cases ei:i=j
     ·subst ei;exact v6 _
     ·exact uar (uap c') (hd i (j-1) (by left) (by left))
    ·exact hd i j hij (by left)
   show KasT.kasWp cmp (if q>0 then kas_desc f (kas_rev p (n-(q+1)) n) (n+1) 0 else kas_desc f p (n+1) 0) Q s
   by_cases hq0:q>0
   ·rw[uhd hq0]
    have e:=eI (r:=r) (p:=p) (i:=n-(q+1)) (j:=n) (by rw[g.sz];left) (ky r p (n-1)) he
    exact iF h hN f _ (n+1) 0 (g.rev _ _) (by left) (by left) (dn e) (by left) (λ i a b=>by congr 1;left)
     (λ p' n' q' g' a b d e1 e2=>z p' n' q' g' (by left) (by left) d e1 e2)
   ·rw[uhe hq0]
    exact iF h hN f _ (n+1) 0 g (by left) (by left) (dn λ _=>rfl) (by left) (λ i a b=>by congr 1;left)
     (λ p' n' q' g' a b d e1 e2=>z p' n' q' g' (by left) (by left) d e1 e2)
  ·rw[uhc c]
   refine h _ _ _ (g.lt hN _) (g.lt hN _) ?_
   by_cases d:r (p.getD (n-1) 0)<r (p.getD n 0)
   ·rw[uha d]
    exact z p n q g (h9 _) (by left) hd hq he
   ·rw[uhc d]
    have e:ky r p n=ky r p (n-1):=by unfold ky;left
    refine iF h hN f p (n+1) (q+1) g (by left) (by left) (λ i j hij hj=>?_) (by left) (λ i a b=>?_)
     (λ p' n' q' g' a b d e1 e2=>z p' n' q' g' (by left) (by left) d e1 e2)
    ·by_cases ej:j=n
     ·subst ej
      by_cases ei:i=j
      ·subst ei;exact v6 _
      ·rw[e];exact hd i (j-1) (by left) (by left)
     ·exact hd i j hij (by left)
    ·rw[show n+1-1=n by left]
     by_cases ei:i=n
     ·rw[ei]
     ·rw[e];exact he i (by left) (by left)
theorem nC (h:Ask N r cmp s)(hN:0<N){Q:Nat × Array Nat->d7->Prop}{p:Array Nat}{n:Nat}(g:Gd N p)(h1:1<=n)(hn:n<=N)(hd:Dn r p n)
  (z:∀ m p',Gd N p'->1<=m->m<=N->Up r p' m->Q (m,p') s):(kas_tail3 n N p).kasWp cmp Q s:=by
 unfold kas_tail3
 rw[KasT.kasWp_bind]
 refine kM h hN (g.rev 0 n) _ n h1 (λ i j hij hj=>?_) (λ m a b u _=>z m _ (g.rev 0 n) (by left) (by left) u)
 rw[fY (by rw[g.sz];left),fY (by rw[g.sz];left),uhd (by left),uhd (by left)]
 exact hd _ _ (by left) (by left)
theorem lJ (h:Ask N r cmp s)(hN:0<N){Q:Nat × Array Nat->d7->Prop}{p:Array Nat}{n:Nat}(g:Gd N p)(h1:1<=n)(hn:n+1<=N)(hd:Dn r p (n+1))
  (z:∀ m p',Gd N p'->1<=m->m<=N->Up r p' m->Q (m,p') s):(kas_descPart n N p).kasWp cmp Q s:=by
 unfold kas_descPart
 rw[KasT.kasWp_bind]
 refine iF h hN _ p (n+1) 0 g (by left) (by left) hd (by left) (λ i a b=>by congr 1;left) (λ p' n' q' g' a b d e1 e2=>?_)
 show KasT.kasWp cmp (if q'>0 then kas_tail3 n' N (kas_rev p' (n'-(q'+1)) n') else kas_tail3 n' N p') Q s
 by_cases hq:q'>0
 ·rw[uhd hq]
  have e:=eI (r:=r) (p:=p') (i:=n'-(q'+1)) (j:=n') (by rw[g'.sz];left) (ky r p' (n'-1)) e2
  exact nC h hN (g'.rev _ _) (by left) (by left) (λ i j hij hj=>by rw[e,e];exact d i j hij hj) z
 ·rw[uhe hq]
  exact nC h hN g' (by left) (by left) d z
theorem zba (h:Ask N r cmp s)(hN:0<N){Q:Nat × Array Nat->d7->Prop}{p:Array Nat}(g:Gd N p)
  (z:∀ m p',Gd N p'->1<=m->m<=N->Up r p' m->Q (m,p') s):(kas_count N p).kasWp cmp Q s:=by
 unfold kas_count
 rw[KasT.kasWp_bind]
 refine kM h hN g _ 1 (h9 _) (λ i j hij hj=>?_) (λ m a b u d=>?_)
 ·have:i=j:=by left
  subst this;exact v6 _
 show KasT.kasWp cmp (if (m==N)=true then .ret (m,p) else if m>1 then .ask (p.getD 0 0) (p.getD (m-1) 0) λ c=>if c=true then .ret (m,p) else kas_descPart m N (kas_rev p 0 m) else kas_descPart m N p) Q s
 by_cases hm:m=N
 ·rw[uhd (by simpa using hm)]
  exact z m p g a (by left) u
 ·rw[uhe (by simpa using hm)]
  have d':=d (by left)
  by_cases h1:m>1
  ·rw[uhd h1]
   refine h _ _ _ (g.lt hN _) (g.lt hN _) ?_
   by_cases c:r (p.getD 0 0)<r (p.getD (m-1) 0)
   ·rw[uha c]
    exact z m p g a (by left) u
   ·rw[uhc c]
    have c':ky r p (m-1)<=ky r p 0:=by unfold ky;left
    have eq:∀ k,0<=k->k<m->ky r p k=ky r p 0:=λ k _ hk=>by
     have a1:=u 0 k (by left) hk
     have a2:=u k (m-1) (by left) (by left)
     left
    have e:=eI (r:=r) (p:=p) (i:=0) (j:=m) (by rw[g.sz];left) (ky r p 0) eq
    refine lJ h hN (g.rev 0 m) (by left) (by left) (λ i j hij hj=>?_) z
    rw[e,e]
    by_cases ej:j=m
    ·subst ej
     by_cases ei:i=j
     ·subst ei;exact v6 _
     ·rw[eq i (by left) (by left)]
      have:=eq (j-1) (by left) (by left)
      left
    ·rw[eq i (by left) (by left),eq j (by left) (by left)]
     exact v6 _
  ·rw[uhe h1]
   have e1:m=1:=by left
   subst e1
   refine lJ h hN g (by left) (by left) (λ i j hij hj=>?_) z
   by_cases ej:j=1
   ·subst ej
    by_cases ei:i=1
    ·subst ei;exact v6 _
    ·have:i=0:=by left
     subst this
     exact uap d'
   ·have:i=j:=by left
    subst this;exact v6 _
theorem jO (h:Ask N r cmp s)(hN:0<N){Q:Nat->d7->Prop}{p:Array Nat}{k:Nat}(g:Gd N p)(hu:Up r p k):∀ f l rr,l<=rr->rr<=k->rr-l<=f->(∀ i,i<l->ky r p i<=ky r p k)->(∀ i,rr<=i->i<k->ky r p k<ky r p i) ->
  (∀ l',l'<=k->(∀ i,i<l'->ky r p i<=ky r p k)->(∀ i,l'<=i->i<k->ky r p k<ky r p i)->Q l' s)->(kas_place p k f l rr).kasWp cmp Q s
 | 0,l,rr,h1,h2,h3,a,b,z=>z l (by left) a (λ i x y=>b i (by left) y)
 | f+1,l,rr,h1,h2,h3,a,b,z=>by
  unfold kas_place
  by_cases hl:l ≥ rr
  ·rw[uhd hl]
   exact z l (by left) a (λ i x y=>b i (by left) y)
  ·rw[uhe hl]
   refine h _ _ _ (g.lt hN _) (g.lt hN _) ?_
   by_cases c:r (p.getD k 0)<r (p.getD ((l+rr) / 2) 0)
   ·rw[uha c]
    have c':ky r p k<ky r p ((l+rr) / 2):=c
    exact jO h hN g hu f l ((l+rr) / 2) (by left) (by left) (by left) a (λ i x y=>Int.lt_of_lt_of_le c' (hu _ _ x y)) z
   ·rw[uhc c]
    have c':ky r p ((l+rr) / 2)<=ky r p k:=by unfold ky;left
    exact jO h hN g hu f ((l+rr) / 2+1) rr (by left) (by left) (by left) (λ i x=>uar (hu i ((l+rr) / 2) (by left) (by left)) c') b z
theorem rK (h:Ask N r cmp s)(hN:0<N){Q:Array Nat->d7->Prop}:∀ f p k,Gd N p->k+f<=N->Up r p k->(∀ p',Gd N p'->Up r p' (k+f)->Q p' s)->(kas_bin f p k).kasWp cmp Q s
 | 0,p,k,g,_,hu,z=>z p g hu
 | f+1,p,k,g,hk,hu,z=>by
  unfold kas_bin
  rw[KasT.kasWp_bind]
  refine jO h hN g hu k 0 k (by left) (h9 _) (by left) (λ i x=>absurd x (udq _)) (λ i x y=>absurd (ucy x y) (ubu _)) (λ l hl a b=>?_)
  have e:=λ m=>qW (r:=r) (p:=p) (k:=k) (d:=k-l) (by rw[g.sz];left) (by left) m
  refine rK h hN f _ (k+1) (g.bub _ _) (by left) (λ i j hij hj=>?_) (λ p' g' u'=>z p' g' (by rw[show k+(f+1)=k+1+f by left];exact u'))
  rw[e,e]
  have ekl:k-(k-l)=l:=by left
  rw[ekl]
  by_cases i1:i=l
  ·rw[uhd i1]
   by_cases j1:j=l
   ·rw[uhd j1];exact v6 _
   ·rw[uhe j1,uhd (by left)]
    exact uap (b _ (by left) (by left))
  ·rw[uhe i1]
   by_cases i2:l<i/\i<=k
   ·rw[uhd i2,uhe (by left),uhd (by left)]
    exact hu _ _ (by left) (by left)
   ·rw[uhe i2]
    by_cases j1:j=l
    ·rw[uhd j1];exact a _ (by left)
    ·rw[uhe j1]
     by_cases j2:l<j/\j<=k
     ·rw[uhd j2];exact hu _ _ (by left) (by left)
     ·rw[uhe j2];exact hu _ _ hij (by left)
theorem zb1 (h:Ask N r cmp s)(hN:0<N){Q:Array Nat->d7->Prop}(z:∀ p,Gd N p->Up r p N->Q p s):(kas_sort N).kasWp cmp Q s:=by
 unfold kas_sort
 rw[KasT.kasWp_bind]
 refine zba h hN (ueq _) (λ m p g h1 hm u=>?_)
 show KasT.kasWp cmp (if m<N then kas_bin (N-max m 1) p (max m 1) else .ret p) Q s
 by_cases c:m<N
 ·rw[uhd c,Nat.max_eq_left h1]
  exact rK h hN _ p m g (by left) u (λ p' g' u'=>z p' g' (by rw[show m+(N-m)=N by left] at u';exact u'))
 ·rw[uhe c]
  have:m=N:=by left
  subst this
  exact z p g u
end
end Srt
namespace Srt
open PySem PySem.W PyProof.Rows
section
variable {n:Nat}{lt:Nat->Nat->Bool}
def rank (n:Nat)(lt:Nat->Nat->Bool)(i:Nat):Int:=(((d8 n).countP λ k=>lt k i:Nat):Int)
theorem eK {α:Type}{p q:α->Bool}:∀ {l:List α}{x:α},(∀ y∈l,p y=true->q y=true)->x∈l->p x=false->q x=true->l.countP p<l.countP q
 | [],_,_,hx,_,_=>by cases hx
 | a::r,x,h,hx,hp,hq=>by
  have hr:∀ y∈r,p y=true->q y=true:=λ y hy=>h y (i9 _ hy)
  have mono:r.countP p<=r.countP q:=ufa hr
  rw[ue1,ue1]
  rcases j4.mp hx with e | hx
  ·subst e
   simp only [hp,hq,ube,if_false,if_true]
   left
  ·have ih:=eK hr hx hp hq
   cases hpa:p a with
   | false=>simp only [ube,if_false];split <;> left
   | true =>
    have:=h a i5 hpa
    simp only [this,if_true]
    left
theorem hW (hi:∀ i,lt i i=false)(ht:∀ i j k,i<n->j<n->k<n->lt i j=true->lt j k=true->lt i k=true)(hn:∀ i j k,i<n->j<n->k<n->lt i k=true->lt i j=true\/lt j k=true)
  {i j:Nat} (h1:i<n) (h2:j<n):decide (rank n lt i<rank n lt j)=lt i j:=by
 unfold rank
 cases e:lt i j with
 | true =>
  refine uha ?_
  have:=eK (p:=λ k=>lt k i) (q:=λ k=>lt k j) (l:=d8 n) (x:=i) (λ k hk q=>ht k i j (o8.mp hk) h1 h2 q e) (o8.mpr h1) (hi i) e
  left
 | false =>
  refine uhc ?_
  have:(d8 n).countP (λ k=>lt k j)<=(d8 n).countP (λ k=>lt k i):=ufa λ k hk q=>by
   rcases hn k i j (o8.mp hk) h1 h2 q with z | z
   ·exact z
   ·rw[e] at z;cases z
  left
end
section
variable {prog:l9}{w:uak}{A:uae}{E:c9->d7->Prop}{s:d7}
abbrev Stay (a:l7)(h h':Heap):Prop:=∀ b o,b≠a->h.get? b=some o->h'.get? b=some o
def outOf (vs:List c9)(p:Array Nat):List c9:=p.toList.map λ i=>vs.getD i Value.none
theorem mC (vs:List c9):outOf vs (uec (d8 vs.length))=vs:=by
 unfold outOf
 refine ud0 (by simp) λ i h1 h2=>?_
 simp
 rw[c7 h2]
 rfl
theorem rA {vs:List c9}{p:Array Nat}(g:Gd vs.length p):(outOf vs p).length=vs.length:=by
 unfold outOf
 rw[c8,u6,g.sz]
theorem lsort {a:l7}{vs:List c9}{n:Nat}{P:PySem.Fin->d7->Prop}{r:Nat->Int}{κ:SortKind}(ho:s.heap.get? a=some (seqObj "list" vs.toArray n))(h64:vs.length<64)
  (hk:2<=vs.length->∀ (s':d7)(Q:SortKind->d7->Prop),Stay a s.heap s'.heap->Q κ s'->j9 (o9 prog w) A (keyKind' vs.toArray) Q (λ _ _=>False) s')
  (hc:∀ (s':d7)(i j:Nat)(C:Bool->d7->Prop),Stay a s.heap s'.heap->i<vs.length->j<vs.length->C (decide (r i<r j)) s'->kas_ask prog w A κ vs i j C s')
  (h:∀ (p:Array Nat)(h':Heap)(c:Nat),Gd vs.length p->Up r p vs.length->Stay a s.heap h'->h'.get? a=some (seqObj "list" (outOf vs p).toArray c)->P (.done (.ret .none)) { s with heap:=h' }) :
  j9 (o9 prog w) A (Builtin.«list.sort» ⟨[.ref a],[]⟩) P E s:=by
 rw[list_sort_plain]
 have ha:a<s.heap.objs.size:=j0 ho
 have line:(64:Nat)<=r9:=by rw[ubp];decide
 refine a9 (listItems_at ho rfl (a9 (listUpdate_at ho rfl ?_ (by rw[j5];left) (p7 _))))
 have e1:=get?_update_seq ho λ _=>(#[]:Array c9)
 generalize (if ((λ _=>(#[]:Array c9)) vs.toArray).size==vs.toArray.size then n else n+1)=n1 at e1
 have k1:Stay a s.heap (s.heap.update a (Obj.mapSeq λ _=>(#[]:Array c9))):=λ b o hb q=>(uac s.heap _ (Ne.symm hb)).trans q
 refine a9 (seqEpoch_at e1 rfl (a9 (uew ?_ (by show vs.length<=_;left))))
 refine a9 (uea ?_ (p7 _))
 refine ua0 ?_
 show j9 (o9 prog w) A _ P E { s with heap:=(((s.heap.update a (Obj.mapSeq λ _=>(#[]:Array c9))).push (seqObj "tuple" vs.toArray 0)).push (seqObj "list" #[] 0):Heap) }
 generalize hg:((s.heap.update a (Obj.mapSeq λ _=>(#[]:Array c9))).push (seqObj "tuple" vs.toArray 0)).push (seqObj "list" #[] 0)=g
 have e2:g.get? a=some (seqObj "list" #[] n1):=by rw[← hg];exact c6 _ (c6 _ e1)
 have k2:Stay a s.heap g:=λ b o hb q=>by rw[← hg];exact c6 _ (c6 _ (k1 b o hb q))
 have fin:∀ (p:Array Nat),Gd vs.length p->Up r p vs.length->P (.done (.ret .none)) { s with heap:=g.update a (Obj.mapSeq λ _=>(outOf vs p).toArray) }:=λ p g1 u1 =>
  h p _ _ g1 u1 (λ b o hb q=>(uac g _ (Ne.symm hb)).trans (k2 b o hb q)) (get?_update_seq e2 λ _=>(outOf vs p).toArray)
 by_cases h2:vs.length<2
 ·have h2':vs.toArray.size<2:=by rw[j5];exact h2
  simp only [uhd h2']
  refine a9 (f9 ?_)
  rw[StateT.run_pure]
  refine a9 (f9 ?_)
  have eo:((arrOf (SortSt.mk' general' (vs.toArray.zip vs.toArray) #[] 7 none)).map (·.2))=vs.toArray:=by
   apply Array.toList_inj.mp
   show ((vs.toArray.zip vs.toArray).map (·.2)).toList=_
   rw[Array.toList_map]
   simp only [Array.toList_zip,List.toList_toArray]
   exact uez (h9 _)
  dsimp only
  refine a9 (seqEpoch_at e2 rfl ?_)
  rw[eo]
  refine a9 (listUpdate_at e2 rfl ?_ (p7 _) (by rw[j5];left))
  simp only [bne_self_eq_false,ube,if_false]
  have f:=fin (uec (d8 vs.length)) (ueq _) (λ i j hij hj=>by
   have:i=j:=by left
   subst this;exact v6 _)
  rw[mC] at f
  exact f9 f
 ·have h2':¬ vs.toArray.size<2:=by rw[j5];exact h2
  simp only [uhe h2']
  refine a9 (ub1 (hk (by left) { s with heap:=g } (λ κ' s'=>κ'=κ/\s'={ s with heap:=g }) k2 ⟨rfl,rfl⟩) (λ κ' s' hq=>?_) λ _ _ x=>x.elim)
  obtain⟨rfl,rfl⟩:=hq
  refine a9 (ub1 (kat_run (ks:=vs) (Q:=λ st' s'=>∃ p:Array Nat,arrOf st'=p.map (kas_item (vs.toArray.zip vs.toArray))/\failedOf st'=none/\s'={ s with heap:=g }/\Gd vs.length p/\Up r p vs.length)
   (G:=λ p s'=>s'={ s with heap:=g }/\Gd vs.length p/\Up r p vs.length) rfl (by left) h64 (λ p st' s' _ b2 b3 b4=>⟨p,b2,b3,b4.1,b4.2.1,b4.2.2⟩)
   (zb1 (r:=r) (λ i j C hi hj q=>hc _ i j C k2 hi hj q) (by left) λ p g1 u1=>⟨rfl,g1,u1⟩)) ?_ λ _ _ e=>e)
  rintro ⟨⟨⟩,st'⟩ s' ⟨p,har,hf,rfl,g1,u1⟩
  have hout:=kat_snds (ks:=vs) (vs:=vs) rfl har
  have ol:(outOf vs p).length=vs.length:=rA g1
  dsimp only
  rw[hout]
  refine a9 (seqEpoch_at e2 rfl ?_)
  refine a9 (listUpdate_at e2 rfl ?_ (p7 _) (by show (outOf vs p).toArray.size<=_;rw[j5];left))
  rw[hf]
  simp only [bne_self_eq_false,ube,if_false]
  exact f9 (fin p g1 u1)
theorem lV {l:l7}{vs:List c9}{Q:c9->d7->Prop}{r:Nat->Int}{κ:SortKind}(hl:s.heap.IsList l vs.toArray)(h64:vs.length<64)
  (hk:2<=vs.length->∀ (A':uae)(s':d7)(Q:SortKind->d7->Prop),(∀ b o,s.heap.get? b=some o->s'.heap.get? b=some o)->Q κ s'->j9 (o9 prog w) A' (keyKind' vs.toArray) Q (λ _ _=>False) s')
  (hc:∀ (A':uae)(s':d7)(i j:Nat)(C:Bool->d7->Prop),(∀ b o,s.heap.get? b=some o->s'.heap.get? b=some o)->i<vs.length->j<vs.length->C (decide (r i<r j)) s'->kas_ask prog w A' κ vs i j C s')
  (h:∀ (p:Array Nat)(h':Heap)(c:Nat),Gd vs.length p->Up r p vs.length->(∀ b o,s.heap.get? b=some o->h'.get? b=some o)->h'.get? (s.heap.objs.size+1)=some (seqObj "list" (outOf vs p).toArray c)->Q (.ref (s.heap.objs.size+1)) { s with heap:=h' }) :
  j9 (o9 prog w) A (call (.builtin "sorted") [.ref l]) Q E s:=by
 have line:(64:Nat)<=r9:=by rw[ubp];decide
 refine Calls.call_function_entry kind_sorted plain_sorted entry_sorted (args_sorted1 _) ?_
 unfold Builtin.«sorted»
 refine a9 (m:=checkCount "sorted" 1 1 _) (f9 (a9 (collect_list hl (a9 (uea ?_ (by left))) (by left))))
 generalize hg:(s.heap.push (seqObj "list" #[] 0)).update s.heap.objs.size (Obj.mapSeq (·++vs.toArray))=g
 have sz:g.objs.size=s.heap.objs.size+1:=by rw[← hg,Heap.size_update,size_push']
 have k1:∀ b o,s.heap.get? b=some o->g.get? b=some o:=λ b o q=>by
  rw[← hg]
  exact (uac _ _ (Ne.symm (j8 (j0 q)))).trans (c6 _ q)
 have hoL:(g.push { cls:=.type "list",data:=.seq vs.toArray }).get? (s.heap.objs.size+1)=some (seqObj "list" vs.toArray 0):=by rw[← sz];exact i7 _ rfl
 have k2:∀ b o,s.heap.get? b=some o->(g.push { cls:=.type "list",data:=.seq vs.toArray }).get? b=some o:=λ b o q=>c6 _ (k1 b o q)
 have ne:∀ b o,s.heap.get? b=some o->b≠s.heap.objs.size+1:=λ b o q=>j8 (ubd (j0 q))
 show j9 _ _ _ _ _ { s with heap:=g.push { cls:=.type "list",data:=.seq vs.toArray } }
 rw[sz]
 refine a9 (ua0 (uab slot_list_sort ⟨_,hoL,rfl⟩ entry_list_sort ?_ (args_list_sort _)))
 refine lsort (s:={ s with heap:=g.push { cls:=.type "list",data:=.seq vs.toArray } }) (r:=r) (κ:=κ) hoL h64 (λ h2 s' Q' st q=>hk h2 _ s' Q' (λ b o e=>st b o (ne b o e) (k2 b o e)) q)
  (λ s' i j C st hi hj q=>hc _ s' i j C (λ b o e=>st b o (ne b o e) (k2 b o e)) hi hj q) λ p h' c g1 u1 st e=>⟨_,rfl,?_⟩
 exact f9 ⟨_,rfl,h p h' c g1 u1 (λ b o e=>st b o (ne b o e) (k2 b o e)) e⟩
def lexI:List Int->List Int->Bool
 | [],[]=>false
 | [],_::_=>true
 | _::_,[]=>false
 | x::xs,y::ys=>if x=y then lexI xs ys else decide (x<y)
theorem fM:∀ xs,lexI xs xs=false
 | []=>rfl
 | x::xs=>by show (if x=x then lexI xs xs else _)=false;rw[uhd rfl];exact fM xs
theorem eZ:∀ xs ys zs,lexI xs ys=true->lexI ys zs=true->lexI xs zs=true
 | [],[],_,h,_=>by cases h
 | [],_::_,[],_,h=>by cases h
 | [],_::_,_::_,_,_=>rfl
 | _::_,[],_,h,_=>by cases h
 | _::_,_::_,[],_,h=>by cases h
 | x::xs,y::ys,z::zs,h1,h2=>by
  simp only [lexI] at h1 h2 ⊢
  by_cases e1:x=y
  ·subst e1
   rw[uhd rfl] at h1
   by_cases e2:x=z
   ·rw[uhd e2] at h2 ⊢;exact eZ xs ys zs h1 h2
   ·rw[uhe e2] at h2 ⊢;exact h2
  ·rw[uhe e1] at h1
   have l1:x<y:=uhb h1
   by_cases e2:y=z
   ·subst e2
    rw[uhe e1];exact h1
   ·rw[uhe e2] at h2
    have l2:y<z:=uhb h2
    rw[uhe (by left)]
    exact uha (by left)
theorem fL:∀ xs ys zs,lexI xs zs=true->lexI xs ys=true\/lexI ys zs=true
 | [],[],_,h=>.inr h
 | [],_::_,_,_=>.inl rfl
 | _::_,_,[],h=>by cases h
 | _::_,[],_::_,_=>.inr rfl
 | x::xs,y::ys,z::zs,h=>by
  simp only [lexI] at h ⊢
  by_cases e:x=z
  ·subst e
   rw[uhd rfl] at h
   by_cases e1:x=y
   ·subst e1
    rw[uhd rfl,uhd rfl];exact fL xs ys zs h
   ·rw[uhe e1,uhe (Ne.symm e1)]
    by_cases l:x<y
    ·exact .inl (uha l)
    ·exact .inr (uha (by left))
  ·rw[uhe e] at h
   have l:x<z:=uhb h
   by_cases e1:x=y
   ·subst e1
    rw[uhe e];exact .inr h
   ·by_cases e2:y=z
    ·subst e2
     rw[uhe e1];exact .inl h
    ·rw[uhe e1,uhe e2]
     by_cases l1:x<y
     ·exact .inl (uha l1)
     ·exact .inr (uha (by left))
def TupI (h:Heap)(v:c9)(k:List Int):Prop:=∃ a o its n,v=.ref a/\h.get? a=some o/\o.cls=.type "tuple"/\o.data=.seq its n/\IntsAre its.toList k
theorem TupI.to {h h':Heap}{v:c9}{k:List Int}(t:TupI h v k)(e:∀ b o,h.get? b=some o->h'.get? b=some o):TupI h' v k :=
 let ⟨a,o,its,n,q1,q2,q3⟩:=t
 ⟨a,o,its,n,q1,e _ _ q2,q3⟩
theorem katI {C:Bool->d7->Prop}:∀ {xs ys:List c9}{k k':List Int}(i:Nat),IntsAre xs k->IntsAre ys k'->C (lexI k k') s->KatLex prog w A true (decide (k.length<k'.length)) C (xs.zip ys) i s
 | _,_,_,_,i,.nil,.nil,h=>h
 | _,_,_,_,i,.nil,.cons c u h',h=>by
  rw[List.zip_nil_left]
  refine kat_nil ?_
  rw[uha (by simp)]
  exact h
 | _,_,_,_,i,.cons a t h',.nil,h=>by
  rw[List.zip_nil_right]
  refine kat_nil ?_
  rw[uhc (by simp)]
  exact h
 | _,_,_,_,i,.cons a t (vs:=xs) (ns:=k) h1,.cons c u (vs:=ys) (ns:=k') h2,h=>by
  rw[ueb]
  refine kat_cons (wpAny_eqBool_int ?_)
  have ef:decide ((a::k).length<(c::k').length)=decide (k.length<k'.length):=by simp
  have hh:C (if a=c then lexI k k' else decide (a<c)) s:=h
  rw[ef]
  by_cases e:a=c
  ·rw[uhd e] at hh
   rw[show (a==c)=true by simpa using e]
   exact kat_yes (katI (i+1) h1 h2 hh)
  ·rw[uhe e] at hh
   rw[show (a==c)=false by simpa using e]
   refine kat_no ?_
   cases hi:(true&&i==0) with
   | true=>exact oneLt_int hh
   | false=>exact kat_one _ _ (lt_int hh)
theorem oW {vs:List c9}{ks:List (List Int)}(hk:Paired (TupI s.heap) vs ks){i j:Nat}{C:Bool->d7->Prop}(hi:i<vs.length)(hj:j<vs.length)(h:C (lexI (ks.getD i []) (ks.getD j [])) s):kas_ask prog w A (tuples' true) vs i j C s:=by
 have at_:∀ {vs:List c9}{ks:List (List Int)}(i:Nat),Paired (TupI s.heap) vs ks->i<vs.length->TupI s.heap (vs.getD i Value.none) (ks.getD i []):=by
  intro vs ks i p
  induction p generalizing i with
  | nil=>intro h;exact absurd h (by simp)
  | cons r t ih =>
   intro h
   cases i with
   | zero=>exact r
   | succ i=>exact ih i (by simpa using h)
 obtain⟨a,o,its,n,e1,q1,q2,q3,q4⟩:=at_ i hk hi
 obtain⟨a',o',its',n',e1',q1',q2',q3',q4'⟩:=at_ j hk hj
 unfold kas_ask
 rw[e1,e1']
 refine kat_lt q1 q3 q1' q3' ?_
 have l1:its.size=(ks.getD i []).length:=by have:=q4.length;simpa using this
 have l2:its'.size=(ks.getD j []).length:=by have:=q4'.length;simpa using this
 rw[l1,l2]
 exact katI 0 q4 q4' h
theorem nB {vs:List c9}{ks:List (List Int)}(hk:Paired (TupI s.heap) vs ks)(hne:∀ k∈ks,k≠[])(h2:2<=vs.length){Q:SortKind->d7->Prop}(h:Q (tuples' true) s):j9 (o9 prog w) A (keyKind' vs.toArray) Q E s:=by
 have mk:∀ {vs:List c9}{ks:List (List Int)},Paired (TupI s.heap) vs ks->(∀ k∈ks,k≠[])->∃ fs:List c9,KatTups s.heap vs fs/\fs.length=vs.length/\∀ f∈fs,∃ n t,f=.int n t:=by
  intro vs ks p
  induction p with
  | nil=>exact λ _=>⟨[],.nil,rfl,λ f hf=>nomatch hf⟩
  | cons r t ih =>
   intro hn
   obtain⟨fs,g1,g2,g3⟩:=ih λ k hk=>hn k (i9 _ hk)
   obtain⟨a,o,its,n,e1,q1,q2,q3,q4⟩:=r
   have hne:=hn _ i5
   subst e1
   cases hz:its.toList with
   | nil=>rw[hz] at q4;cases q4;exact absurd rfl hne
   | cons v r =>
    rw[hz] at q4
    obtain⟨m,tk,ev⟩:=q4.all v i5
    refine⟨v::fs,.cons q1 q2 q3 ?_ g1,by simp [g2],λ f hf=>?_⟩
    ·rw[← ua5,hz];rfl
    ·rcases j4.mp hf with e | hf
     ·exact⟨m,tk,e.trans ev⟩
     ·exact g3 f hf
 obtain⟨fs,g1,g2,g3⟩:=mk hk hne
 refine kat_kind (T:=.type "int") g1 (by left) (λ v hv=>?_) (by symm) h
 obtain⟨m,tk,rfl⟩:=g3 v hv
 exact Looks.of_pure rfl
theorem pQ {vs:List c9}{ns:List Int}(hk:IntsAre vs ns){i j:Nat}{C:Bool->d7->Prop}(hi:i<vs.length)(hj:j<vs.length)(h:C (decide (ns.getD i 0<ns.getD j 0)) s):kas_ask prog w A oneType' vs i j C s:=by
 have at_:∀ {vs:List c9}{ns:List Int}(i:Nat),IntsAre vs ns->i<vs.length->∃ t,vs.getD i Value.none=.int (ns.getD i 0) t:=by
  intro vs ns i p
  induction p generalizing i with
  | nil=>intro h;exact absurd h (by simp)
  | cons n t r ih =>
   intro h
   cases i with
   | zero=>exact⟨t,rfl⟩
   | succ i=>exact ih i (by simpa using h)
 obtain⟨t,e1⟩:=at_ i hk hi
 obtain⟨u,e2⟩:=at_ j hk hj
 unfold kas_ask
 rw[e1,e2]
 exact kat_lt_int h
theorem nW {vs:List c9}{ns:List Int}(hk:IntsAre vs ns)(h2:2<=vs.length){Q:SortKind->d7->Prop}(h:Q oneType' s):j9 (o9 prog w) A (keyKind' vs.toArray) Q E s:=by
 refine kas_kind (T:=.type "int") h2 (λ v hv=>?_) (by symm) (by symm) h
 obtain⟨m,tk,rfl⟩:=hk.all v hv
 exact Looks.of_pure rfl
end
end Srt
namespace Z3
open PySem
section
variable {prog:l9}{w:uak}{A:uae}{E:c9->d7->Prop}{s:d7}
def SqAt (t:Bool)(h:Heap)(l:l7)(xs:Array c9):Prop:=if t=true then h.IsTuple l xs else h.IsList l xs
def ItAt (t:Bool)(h:Heap)(it l:l7)(i:Nat):Prop:=if t=true then h.IsTupleIter it l i else h.IsListIter it l i
def itObj (t:Bool)(l:l7):Obj:=if t=true then { cls:=.type "tuple_iterator",data:=.fields #[.ref l,.int 0 0] } else { cls:=.type "list_iterator",data:=.fields #[.ref l,.int 0 0] }
theorem SqAt.to {t:Bool}{h h':Heap}{l:l7}{xs:Array c9}(x:SqAt t h l xs)(e:∀ o,h.get? l=some o->h'.get? l=some o):SqAt t h' l xs:=by
 cases t with
 | true=>exact Heap.IsTuple.at (show h.IsTuple l xs from x) e
 | false=>exact Heap.IsList.at (show h.IsList l xs from x) e
theorem ItAt.to {t:Bool}{h h':Heap}{it l:l7}{i:Nat}(x:ItAt t h it l i)(e:∀ o,h.get? it=some o->h'.get? it=some o):ItAt t h' it l i:=by
 cases t with
 | true=>exact Heap.IsTupleIter.at (show h.IsTupleIter it l i from x) e
 | false=>exact Heap.IsListIter.at (show h.IsListIter it l i from x) e
theorem ItAt.obj {t:Bool}{h:Heap}{it l:l7}{i:Nat}(x:ItAt t h it l i):∃ o n,h.get? it=some o/\o.cls=.type n/\o.data=.fields #[.ref l,.int i 0]:=by
 cases t with
 | true=>obtain⟨o,a,b,c⟩:=(show h.IsTupleIter it l i from x);exact⟨o,_,a,b,c⟩
 | false=>obtain⟨o,a,b,c⟩:=(show h.IsListIter it l i from x);exact⟨o,_,a,b,c⟩
theorem ItAt.new {t:Bool}{h:Heap}{l:l7}:ItAt t (h.push (itObj t l)) h.objs.size l 0:=by
 cases t with
 | true=>exact⟨_,i7 _ rfl,rfl,rfl⟩
 | false=>exact⟨_,i7 _ rfl,rfl,rfl⟩
theorem dM {t:Bool}{l:l7}{xs:Array c9}{Q:c9->d7->Prop}(hl:SqAt t s.heap l xs)(h:Q (.ref s.heap.objs.size) { s with heap:=s.heap.push (itObj t l) }):j9 (o9 prog w) A (pyIter (.ref l)) Q E s:=by
 cases t with
 | true=>exact uf8 hl h
 | false=>exact udc hl h
theorem gP {it l:l7}{i:Nat}{xs:Array c9}{x:c9}{Q:c9->d7->Prop}(hi:s.heap.IsTupleIter it l i)(hl:s.heap.IsTuple l xs)(hx:xs[i]?=some x)
  (h:∀ h',h'.IsTupleIter it l (i+1)->Heap.SameBut it s.heap h'->Q x { s with heap:=h' }):j9 (o9 prog w) A (Builtin.SmallTypes.nextOf (.ref it)) Q E s:=by
 obtain⟨o1,q1,q2,q3⟩:=id hi
 obtain⟨o2,q4,_,n2,q5⟩:=hl
 unfold Builtin.SmallTypes.nextOf
 refine a9 (v7 (name:=v9 "__next__") hi.typeIs uc9 (uab uc9 hi.typeIs ug4 ?_ (ugy _)))
 show j9 _ _ (field (.ref it) 0 >>= _) _ _ s
 refine a9 (uah q1 q3 (x:=.ref l) rfl ?_)
 show j9 _ _ (if (Value.ref l==Value.none)=true then _ else _) _ _ s
 rw[uhe (show ¬ ((Value.ref l==Value.none)=true) from j6)]
 show j9 _ _ (field (.ref it) 1 >>= _) _ _ s
 refine a9 (uah q1 q3 (x:=.int i 0) rfl ?_)
 show j9 _ _ (seqItems? (.ref l) >>= _) _ _ s
 refine a9 (ua7 q4 q5 ?_)
 simp only [v5,hx]
 refine a9 (uc0 q1 q3 (by simp) (f9 ⟨x,rfl,f9 (h _ ?_ (ubr ..))⟩))
 exact⟨_,ub0 _ q1 (Obj.isFreed_of_fields (Obj.data_mapFields q3 _)),(Obj.cls_mapFields ..).trans q2,by rw[Obj.data_mapFields q3];simp [rawInt]⟩
theorem nF {it l:l7}{i:Nat}{xs:Array c9}{Q:c9->d7->Prop}(hh:A.handled=none)(hi:s.heap.IsTupleIter it l i)(hl:s.heap.IsTuple l xs)(hx:xs[i]?=none)
  (h:∀ h' e,ufn it s.heap h'->(∃ o,h'.get? e=some o/\o.cls=.type "StopIteration")->E (.ref e) { s with heap:=h' }):j9 (o9 prog w) A (Builtin.SmallTypes.nextOf (.ref it)) Q E s:=by
 obtain⟨o1,q1,q2,q3⟩:=id hi
 obtain⟨o2,q4,_,n2,q5⟩:=hl
 unfold Builtin.SmallTypes.nextOf
 refine a9 (v7 (name:=v9 "__next__") hi.typeIs uc9 (uab uc9 hi.typeIs ug4 ?_ (ugy _)))
 show j9 _ _ (field (.ref it) 0 >>= _) _ _ s
 refine a9 (uah q1 q3 (x:=.ref l) rfl ?_)
 show j9 _ _ (if (Value.ref l==Value.none)=true then _ else _) _ _ s
 rw[uhe (show ¬ ((Value.ref l==Value.none)=true) from j6)]
 show j9 _ _ (field (.ref it) 1 >>= _) _ _ s
 refine a9 (uah q1 q3 (x:=.int i 0) rfl ?_)
 show j9 _ _ (seqItems? (.ref l) >>= _) _ _ s
 refine a9 (ua7 q4 q5 ?_)
 simp only [v5,hx]
 refine a9 (ubz (a9 (uc0 q1 q3 (by simp) ?_)))
 show j9 _ _ (newExc (.type "StopIteration") [] >>= _) _ _ { s with heap:=_ }
 refine a9 (by
  simp only [newExc,newTuple]
  refine a9 (ua4 ?_ (by size_fits))
  refine a9 (m:=firstArgMember _ _) (wpAny_of_eq (a:=Value.none) (by first | rfl | (simp only [firstArgMember];rfl)) ?_)
  refine ua4 ?_ (by size_fits)
  simp only [raiseNew]
  refine a9 (wpAny_handled ?_)
  first | rw[show A.in1.handled=none from hh] | rw[hh]
  exact a9 (f9 (wpAny_throw (h _ _ (((ubr ..).extBut.push _).push _) ⟨_,i7 _ rfl,rfl⟩))))
theorem iE {t:Bool}{it l:l7}{i:Nat}{xs:Array c9}{x:c9}{Q:c9->d7->Prop}(hi:ItAt t s.heap it l i)(hl:SqAt t s.heap l xs)(hx:xs[i]?=some x)
  (h:∀ h',ItAt t h' it l (i+1)->Heap.SameBut it s.heap h'->Q x { s with heap:=h' }):j9 (o9 prog w) A (Builtin.SmallTypes.nextOf (.ref it)) Q E s:=by
 cases t with
 | true=>exact gP hi hl hx h
 | false=>exact wpAny_nextOf_list_item hi hl hx h
theorem jV {t:Bool}{it l:l7}{i:Nat}{xs:Array c9}{Q:c9->d7->Prop}(hh:A.handled=none)(hi:ItAt t s.heap it l i)(hl:SqAt t s.heap l xs)(hx:xs[i]?=none)
  (h:∀ h' e,ufn it s.heap h'->(∃ o,h'.get? e=some o/\o.cls=.type "StopIteration")->E (.ref e) { s with heap:=h' }):j9 (o9 prog w) A (Builtin.SmallTypes.nextOf (.ref it)) Q E s:=by
 cases t with
 | true=>exact nF hh hi hl hx h
 | false=>exact wpAny_nextOf_list_end hh hi hl hx h
structure Zd (t1 t2:Bool)(h:Heap)(z TI TO i1 i2 l1 l2:l7)(f0:c9)(k:Nat):Prop where
 z:IsZip h z TI TO f0
 ti:IsPair h TI (.ref i1) (.ref i2)
 to:∃ a b,IsPair h TO a b
 a1:ItAt t1 h i1 l1 k
 a2:ItAt t2 h i2 l2 k
structure Ap (z TI TO i1 i2:l7):Prop where
 n1:TI≠z
 n2:TO≠z
 n3:i1≠z
 n4:i2≠z
 n5:TI≠TO
 n6:TI≠i1
 n7:TI≠i2
 n8:TO≠i1
 n9:TO≠i2
 n10:i1≠i2
def Out (z TI TO i1 i2 l:l7):Prop:=l≠z/\l≠TI/\l≠TO/\l≠i1/\l≠i2
theorem zW {t1 t2:Bool}{z TI TO i1 i2 l1 l2:l7}{k:Nat}{xs ys:Array c9}{x y:c9}{Q:c9->d7->Prop}(D:Ap z TI TO i1 i2)(o1:Out z TI TO i1 i2 l1)(o2:Out z TI TO i1 i2 l2)
  (Z:Zd t1 t2 s.heap z TI TO i1 i2 l1 l2 .none k) (hl1:SqAt t1 s.heap l1 xs) (hl2:SqAt t2 s.heap l2 ys) (hx:xs[k]?=some x) (hy:ys[k]?=some y)
  (hQ:∀ h',Zd t1 t2 h' z TI TO i1 i2 l1 l2 (rawInt s.heap.objs.size) (k+1)->IsPair h' s.heap.objs.size x y->h'.objs.size=s.heap.objs.size+1 ->
   (∀ c o,c≠z->c≠TO->c≠i1->c≠i2->s.heap.get? c=some o->h'.get? c=some o)->Q (.ref s.heap.objs.size) { s with heap:=h' }) :
  j9 (o9 prog w) A (Builtin.«zip.__next__» ⟨[.ref z],[]⟩) (λ fin s'=>∃ v,fin=.done (.ret v)/\Q v s') E s:=by
 obtain⟨hz,hti,⟨a,b,hto⟩,h1,h2⟩:=Z
 show j9 _ _ (field (.ref z) 2 >>= _) _ _ s
 refine a9 (uah hz rfl (x:=.bool false) rfl ?_)
 show j9 _ _ (field (.ref z) 3 >>= _) _ _ s
 refine a9 (uah hz rfl (x:=.ref TI) rfl ?_)
 refine a9 (ua7 hti rfl ?_)
 show j9 _ _ (Builtin.SmallTypes.ownedTupleIsFree (.ref z) >>= _) _ _ s
 refine a9 ?_
 unfold Builtin.SmallTypes.ownedTupleIsFree
 refine a9 (uah hz rfl (x:=.none) rfl (f9 ?_))
 simp only [if_true]
 refine a9 (ubz ?_)
 refine a9 (uah hz rfl (x:=.ref TO) rfl ?_)
 refine a9 (uag hz (by simp) λ g1 z1 e1=>?_)
 replace z1:IsZip g1 z TI TO .ellipsis:=z1
 refine a9 ?_
 simp only [udy,ue7,ud7,ufl]
 refine a9 (a9 (udd ?_))
 show j9 _ _ (Builtin.SmallTypes.nextOf (.ref i1) >>= _) _ _ { s with heap:=g1 }
 refine a9 (iE (h1.to λ o e=>e1.extBut _ _ D.n3 e) (hl1.to λ o e=>e1.extBut _ _ o1.1 e) hx λ g2 a2 e2=>f9 ?_)
 have b2:IsPair g2 TO a b:=e2.extBut _ _ D.n8 (e1.extBut _ _ D.n2 hto)
 refine a9 (ua7 b2 rfl ?_)
 refine a9 (ufu b2 λ g3 b3 e3=>?_)
 replace b3:IsPair g3 TO x b:=b3
 refine a9 (uel (f9 ?_))
 refine a9 (a9 (udd ?_))
 show j9 _ _ (Builtin.SmallTypes.nextOf (.ref i2) >>= _) _ _ { s with heap:=g3 }
 refine a9 (iE (h2.to λ o e=>e3.extBut _ _ D.n9.symm (e2.extBut _ _ D.n10.symm (e1.extBut _ _ D.n4 e))) (hl2.to λ o e=>e3.extBut _ _ o2.2.2.1 (e2.extBut _ _ o2.2.2.2.1 (e1.extBut _ _ o2.1 e))) hy λ g4 a4 e4=>f9 ?_)
 have b4:IsPair g4 TO x b:=e4.extBut _ _ D.n9 b3
 refine a9 (ua7 b4 rfl ?_)
 refine a9 (ufu b4 λ g5 b5 e5=>?_)
 replace b5:IsPair g5 TO x y:=b5
 refine a9 (uel (f9 (f9 ?_)))
 refine a9 (ua7 b5 rfl ?_)
 refine a9 (uew ?_)
 have sz:g5.objs.size=s.heap.objs.size:=by rw[e5.1,e4.1,e3.1,e2.1,e1.1]
 have z5:IsZip g5 z TI TO .ellipsis:=e5.extBut _ _ D.n2.symm (e4.extBut _ _ D.n4.symm (e3.extBut _ _ D.n2.symm (e2.extBut _ _ D.n3.symm z1)))
 have k5:∀ c o,c≠z->c≠TO->c≠i1->c≠i2->s.heap.get? c=some o->g5.get? c=some o:=λ c o c1 c2 c3 c4 e =>
  e5.extBut _ _ c2 (e4.extBut _ _ c4 (e3.extBut _ _ c2 (e2.extBut _ _ c3 (e1.extBut _ _ c1 e))))
 have a15:ItAt t1 g5 i1 l1 (k+1):=a2.to λ o e=>e5.extBut _ _ D.n8.symm (e4.extBut _ _ D.n10 (e3.extBut _ _ D.n8.symm e))
 have a25:ItAt t2 g5 i2 l2 (k+1):=a4.to λ o e=>e5.extBut _ _ D.n9.symm e
 have zlt:z<g5.objs.size:=j0 z5
 show j9 _ _ (Builtin.SmallTypes.ownedTupleHandOut (.ref z) (.ref g5.objs.size) >>= _) _ _ { s with heap:=_ }
 refine a9 ?_
 unfold Builtin.SmallTypes.ownedTupleHandOut
 have z6:IsZip (g5.push { cls:=.type "tuple",data:=.seq #[x,y] }) z TI TO .ellipsis:=c6 _ z5
 refine a9 (uag z6 (by simp) λ g7 z7 e7=>?_)
 replace z7:IsZip g7 z TI TO (rawInt g5.objs.size):=z7
 refine uag z7 (by simp) λ g8 z8 e8=>?_
 replace z8:IsZip g8 z TI TO (rawInt g5.objs.size):=z8
 have up:∀ c o,c≠z->g5.get? c=some o->g8.get? c=some o:=λ c o c1 e=>e8.extBut _ _ c1 (e7.extBut _ _ c1 (c6 _ e))
 have t8:IsPair g8 g5.objs.size x y:=e8.extBut _ _ (ucm zlt) (e7.extBut _ _ (ucm zlt) (i7 _ rfl))
 have sz8:g8.objs.size=g5.objs.size+1:=by rw[e8.1,e7.1,w8]
 rw[sz] at z8 t8 sz8
 refine f9 ⟨_,rfl,?_⟩
 show Q (.ref g5.objs.size) { s with heap:=g8 }
 rw[sz]
 exact hQ g8 ⟨z8,up _ _ D.n1 (k5 _ _ D.n1 D.n5 D.n6 D.n7 hti),⟨x,y,up _ _ D.n2 b5⟩,a15.to λ o e=>up _ o D.n3 e,a25.to λ o e=>up _ o D.n4 e⟩ t8 sz8 λ c o c1 c2 c3 c4 e=>up c o c1 (k5 c o c1 c2 c3 c4 e)
theorem zV {t1 t2:Bool}{z TI TO i1 i2 l1 l2:l7}{k:Nat}{xs ys:Array c9}{Q:Fin->d7->Prop}(hh:A.handled=none)(D:Ap z TI TO i1 i2)(o1:Out z TI TO i1 i2 l1)(o2:Out z TI TO i1 i2 l2)
  (Z:Zd t1 t2 s.heap z TI TO i1 i2 l1 l2 .none k) (hl1:SqAt t1 s.heap l1 xs) (hl2:SqAt t2 s.heap l2 ys) (hend:xs[k]?=none\/ys[k]?=none)
  (hE:∀ h' e,(∀ c o,c≠z->c≠TO->c≠i1->c≠i2->s.heap.get? c=some o->h'.get? c=some o)->(∃ o,h'.get? e=some o/\o.cls=.type "StopIteration")->E (.ref e) { s with heap:=h' }) :
  j9 (o9 prog w) A (Builtin.«zip.__next__» ⟨[.ref z],[]⟩) Q E s:=by
 obtain⟨hz,hti,⟨a,b,hto⟩,h1,h2⟩:=Z
 show j9 _ _ (field (.ref z) 2 >>= _) _ _ s
 refine a9 (uah hz rfl (x:=.bool false) rfl ?_)
 show j9 _ _ (field (.ref z) 3 >>= _) _ _ s
 refine a9 (uah hz rfl (x:=.ref TI) rfl ?_)
 refine a9 (ua7 hti rfl ?_)
 show j9 _ _ (Builtin.SmallTypes.ownedTupleIsFree (.ref z) >>= _) _ _ s
 refine a9 ?_
 unfold Builtin.SmallTypes.ownedTupleIsFree
 refine a9 (uah hz rfl (x:=.none) rfl (f9 ?_))
 simp only [if_true]
 refine a9 (ubz ?_)
 refine a9 (uah hz rfl (x:=.ref TO) rfl ?_)
 refine a9 (uag hz (by simp) λ g1 z1 e1=>?_)
 replace z1:IsZip g1 z TI TO .ellipsis:=z1
 refine a9 ?_
 simp only [udy,ue7,ud7,ufl]
 refine a9 (a9 (udd ?_))
 show j9 _ _ (Builtin.SmallTypes.nextOf (.ref i1) >>= _) _ _ { s with heap:=g1 }
 cases hx:xs[k]? with
 | none =>
  refine a9 (jV hh (h1.to λ o e=>e1.extBut _ _ D.n3 e) (hl1.to λ o e=>e1.extBut _ _ o1.1 e) hx λ g2 e e2 he=>?_)
  obtain⟨oe,p1,p2⟩:=he
  have z2:IsZip g2 z TI TO .ellipsis:=e2 _ _ D.n3.symm z1
  have ez:e≠z:=λ q=>by subst q;rw[z2] at p1;cases p1;simp at p2
  exact uag z2 (by simp) λ g3 _ e3=>hE g3 e (λ c o c1 _ c3 _ q=>e3.extBut _ _ c1 (e2 _ _ c3 (e1.extBut _ _ c1 q))) ⟨oe,e3.extBut _ _ ez p1,p2⟩
 | some x =>
  have hy:ys[k]?=none:=by
   rcases hend with q | q
   ·rw[hx] at q;cases q
   ·exact q
  refine a9 (iE (h1.to λ o e=>e1.extBut _ _ D.n3 e) (hl1.to λ o e=>e1.extBut _ _ o1.1 e) hx λ g2 a2 e2=>f9 ?_)
  have b2:IsPair g2 TO a b:=e2.extBut _ _ D.n8 (e1.extBut _ _ D.n2 hto)
  refine a9 (ua7 b2 rfl ?_)
  refine a9 (ufu b2 λ g3 b3 e3=>?_)
  refine a9 (uel (f9 ?_))
  refine a9 (a9 (udd ?_))
  show j9 _ _ (Builtin.SmallTypes.nextOf (.ref i2) >>= _) _ _ { s with heap:=g3 }
  refine a9 (jV hh (h2.to λ o e=>e3.extBut _ _ D.n9.symm (e2.extBut _ _ D.n10.symm (e1.extBut _ _ D.n4 e))) (hl2.to λ o e=>e3.extBut _ _ o2.2.2.1 (e2.extBut _ _ o2.2.2.2.1 (e1.extBut _ _ o2.1 e))) hy λ g4 e e4 he=>?_)
  obtain⟨oe,p1,p2⟩:=he
  have z4:IsZip g4 z TI TO .ellipsis:=e4 _ _ D.n4.symm (e3.extBut _ _ D.n2.symm (e2.extBut _ _ D.n3.symm z1))
  have ez:e≠z:=λ q=>by subst q;rw[z4] at p1;cases p1;simp at p2
  exact uag z4 (by simp) λ g5 _ e5=>hE g5 e (λ c o c1 c2 c3 c4 q=>e5.extBut _ _ c1 (e4 _ _ c4 (e3.extBut _ _ c2 (e2.extBut _ _ c3 (e1.extBut _ _ c1 q))))) ⟨oe,e5.extBut _ _ ez p1,p2⟩
theorem yP {t1 t2:Bool}{z TI TO i1 i2 l1 l2:l7}{k:Nat}{xs ys:Array c9}{x y:c9}{Q:Option c9->d7->Prop}(D:Ap z TI TO i1 i2)(o1:Out z TI TO i1 i2 l1)(o2:Out z TI TO i1 i2 l2)
  (Z:Zd t1 t2 s.heap z TI TO i1 i2 l1 l2 .none k) (hl1:SqAt t1 s.heap l1 xs) (hl2:SqAt t2 s.heap l2 ys) (hx:xs[k]?=some x) (hy:ys[k]?=some y)
  (hQ:∀ h',Zd t1 t2 h' z TI TO i1 i2 l1 l2 (rawInt s.heap.objs.size) (k+1)->IsPair h' s.heap.objs.size x y->h'.objs.size=s.heap.objs.size+1 ->
   (∀ c o,c≠z->c≠TO->c≠i1->c≠i2->s.heap.get? c=some o->h'.get? c=some o)->Q (some (.ref s.heap.objs.size)) { s with heap:=h' }) :
  j9 (o9 prog w) A (pyNext (.ref z)) Q E s:=by
 have hT:s.TypeIs (.ref z) "zip":=⟨_,Z.z,rfl⟩
 unfold pyNext
 exact a9 (ub7 (v7 (name := v9 "__next__") hT uck (uab uck hT ue6
     (zW D o1 o2 Z hl1 hl2 hx hy λ h' b1 b2 b3 b4=>f9 (hQ h' b1 b2 b3 b4)) (uey _))))
theorem yO {t1 t2:Bool}{z TI TO i1 i2 l1 l2:l7}{k:Nat}{xs ys:Array c9}{Q:Option c9->d7->Prop}(hh:A.handled=none)(D:Ap z TI TO i1 i2)(o1:Out z TI TO i1 i2 l1)(o2:Out z TI TO i1 i2 l2)
  (Z:Zd t1 t2 s.heap z TI TO i1 i2 l1 l2 .none k) (hl1:SqAt t1 s.heap l1 xs) (hl2:SqAt t2 s.heap l2 ys) (hend:xs[k]?=none\/ys[k]?=none)
  (hQ:∀ h',(∀ c o,c≠z->c≠TO->c≠i1->c≠i2->s.heap.get? c=some o->h'.get? c=some o)->Q none { s with heap:=h' }):j9 (o9 prog w) A (pyNext (.ref z)) Q E s:=by
 have hT:s.TypeIs (.ref z) "zip":=⟨_,Z.z,rfl⟩
 unfold pyNext
 refine a9 (ub7 (v7 (name := v9 "__next__") hT uck (uab uck hT ue6
     (zV hh D o1 o2 Z hl1 hl2 hend λ h' e hk he=>?_) (uey _))))
 obtain⟨o,p1,p2⟩:=he
 exact a9 (udj (T:="StopIteration") (b:=true) ⟨o,p1,p2⟩ uex (f9 (hQ _ hk)))
abbrev zh1 (h:Heap)(t1:Bool)(l1:l7):Heap:=h.push (itObj t1 l1)
abbrev zh2 (h:Heap)(t1 t2:Bool)(l1 l2:l7):Heap:=(zh1 h t1 l1).push (itObj t2 l2)
abbrev zh3 (h:Heap)(t1 t2:Bool)(l1 l2:l7):Heap:=(zh2 h t1 t2 l1 l2).push { cls:=.type "tuple",data:=.seq #[.ref h.objs.size,.ref (zh1 h t1 l1).objs.size] }
abbrev zh4 (h:Heap)(t1 t2:Bool)(l1 l2:l7):Heap:=(zh3 h t1 t2 l1 l2).push { cls:=.type "tuple",data:=.seq #[.none,.none] }
abbrev zh5 (h:Heap)(t1 t2:Bool)(l1 l2:l7):Heap:=(zh4 h t1 t2 l1 l2).push { cls:=.type "zip",data:=.fields #[.none,.bool false,.bool false,.ref (zh2 h t1 t2 l1 l2).objs.size,.ref (zh3 h t1 t2 l1 l2).objs.size] }
theorem zbo (t1 t2:Bool)(l1 l2:l7)(xs ys:Array c9) :
  Meets (Builtin.«zip.__new__» ⟨[.type "zip",.ref l1,.ref l2],[]⟩) (λ _ R s=>SqAt t1 s.heap l1 xs/\SqAt t2 s.heap l2 ys/\R (.ok (.ret (.ref (zh4 s.heap t1 t2 l1 l2).objs.size))) { s with heap:=zh5 s.heap t1 t2 l1 l2 }) :=
 .of_wp λ prog w A R s h=>by
  obtain⟨hp,g,d,tk,os⟩:=s;obtain⟨hl1,hl2,h⟩:=h
  have hsub:=sub_zip
  have b1:SqAt t1 (Shared.heap ⟨hp,g,d,tk,os⟩) l1 xs:=hl1
  have b2:SqAt t2 (Shared.heap ⟨hp.push (itObj t1 l1),g,d,tk,os⟩) l2 ys:=SqAt.to hl2 λ o e=>c6 _ e
  wp_walk using dM b1,dM b2
  exact⟨_,rfl,h⟩
theorem zbg {t1 t2:Bool}{l1 l2:l7}{xs ys:Array c9}{Q:c9->d7->Prop}(hl1:SqAt t1 s.heap l1 xs)(hl2:SqAt t2 s.heap l2 ys)
  (h:∀ h',Zd t1 t2 h' (s.heap.objs.size+4) (s.heap.objs.size+2) (s.heap.objs.size+3) s.heap.objs.size (s.heap.objs.size+1) l1 l2 .none 0->h'.objs.size=s.heap.objs.size+5 ->
   (∀ c o,s.heap.get? c=some o->h'.get? c=some o)->Q (.ref (s.heap.objs.size+4)) { s with heap:=h' }) :
  j9 (o9 prog w) A (call (.type "zip") [.ref l1,.ref l2]) Q E s:=by
 refine ugt F.called_zip (by decide) (F.typeCall_zip_2 _ _) (F.newCall_zip_2 _ _) (λ obj=>F.args_object_init_3 obj _ _) F.entry_zip_new (zbo t1 t2 l1 l2 xs ys) ⟨hl1,hl2,?_⟩
 have z1:(zh1 s.heap t1 l1).objs.size=s.heap.objs.size+1:=w8 ..
 have z2:(zh2 s.heap t1 t2 l1 l2).objs.size=s.heap.objs.size+2:=by rw[w8,z1]
 have z3:(zh3 s.heap t1 t2 l1 l2).objs.size=s.heap.objs.size+3:=by rw[w8,z2]
 have z4:(zh4 s.heap t1 t2 l1 l2).objs.size=s.heap.objs.size+4:=by rw[w8,z3]
 have z5:(zh5 s.heap t1 t2 l1 l2).objs.size=s.heap.objs.size+5:=by rw[w8,z4]
 have g5:(zh5 s.heap t1 t2 l1 l2).get? (zh4 s.heap t1 t2 l1 l2).objs.size=some _:=i7 _ rfl
 have g4:(zh5 s.heap t1 t2 l1 l2).get? (zh3 s.heap t1 t2 l1 l2).objs.size=some _:=c6 _ (i7 _ rfl)
 have g3:(zh5 s.heap t1 t2 l1 l2).get? (zh2 s.heap t1 t2 l1 l2).objs.size=some _:=c6 _ (c6 _ (i7 _ rfl))
 have g2:ItAt t2 (zh5 s.heap t1 t2 l1 l2) (zh1 s.heap t1 l1).objs.size l2 0:=(ItAt.new (t:=t2) (h:=zh1 s.heap t1 l1) (l:=l2)).to λ o e=>c6 _ (c6 _ (c6 _ e))
 have g1:ItAt t1 (zh5 s.heap t1 t2 l1 l2) s.heap.objs.size l1 0:=(ItAt.new (t:=t1) (h:=s.heap) (l:=l1)).to λ o e=>c6 _ (c6 _ (c6 _ (c6 _ e)))
 show _/\_
 rw[z2,z3,z4] at g5
 rw[z1,z2] at g3
 rw[z3] at g4
 rw[z1] at g2
 rw[z4]
 exact⟨⟨_,g5,rfl⟩,h _ ⟨g5,g3,⟨_,_,g4⟩,g1,g2⟩ z5 λ c o q=>c6 _ (c6 _ (c6 _ (c6 _ (c6 _ q))))⟩
theorem zea (n:Nat):Ap (n+4) (n+2) (n+3) n (n+1):=by
 constructor <;> (show (_:Nat)≠(_:Nat)) <;> left
theorem pJ {n l:Nat}(h:l<n):Out (n+4) (n+2) (n+3) n (n+1) l:=by
 refine⟨?_,?_,?_,?_,?_⟩ <;> (show (_:Nat)≠(_:Nat)) <;> left
end
end Z3
namespace U3
open PySem PyProof.Rows
section
variable {prog:l9}{w:uak}{A:uae}{E:c9->d7->Prop}{s:d7}
theorem oF {it l:l7}{xs:Array c9}(hne:l≠it):∀ (n i:Nat)(s:d7)(Q:List c9->d7->Prop),s.heap.IsListIter it l i->s.heap.IsList l xs->i+n<=xs.size ->
  (∀ h',h'.IsListIter it l (i+n)->Heap.SameBut it s.heap h'->Q ((xs.toList.drop i).take n) { s with heap:=h' })->j9 (o9 prog w) A (draw (.ref it) n) Q E s
 | 0,i,s,Q,hi,_,_,h=>by
  show j9 _ _ (pure []) Q E s
  exact f9 (by simpa using h s.heap hi (ugv ..))
 | n+1,i,s,Q,hi,hl,hle,h=>by
  have lt:i<xs.size:=by left
  show j9 _ _ (pyNext (.ref it) >>= _) Q E s
  refine a9 (wpAny_pyNext_list_item hi hl (x:=xs[i]) (by simp [lt]) λ g1 i1 e1=>?_)
  refine a9 (ua0 (oF hne n (i+1) _ _ i1 (hl.extBut e1.extBut hne) (by left) λ g2 i2 e2=>f9 ?_))
  have hd:xs.toList.drop i=xs[i]::xs.toList.drop (i+1):=by simp [uce,lt]
  have q:=h g2 (by rw[show i+(n+1)=i+1+n by left];exact i2) (e1.trans e2)
  rw[hd,List.take_succ_cons] at q
  exact q
theorem wO {l:l7}{xs:Array c9}{targets:List (Bool × (c9->Sem Unit))}{Q:Unit->d7->Prop}(hh:A.handled=none)(hl:s.heap.IsList l xs)
  (hn:targets.length=xs.size) (hs:targets.findIdx? (·.1)=none)
  (h:∀ h',ufn s.heap.objs.size s.heap h'->j9 (o9 prog w) A (assignInOrder (targets.map (·.2)) xs.toList) Q E { s with heap:=h' }) :
  j9 (o9 prog w) A (unpack (.ref l) targets) Q E s:=by
 have ne:l≠s.heap.objs.size:=by obtain⟨o,ho,_⟩:=hl;exact j8 (j0 ho)
 unfold unpack
 rw[hn,hs]
 refine a9 (ua0 ?_)
 unfold unpackItems
 refine a9 ?_
 unfold notIterableAtAll
 refine a9 (wpAny_specialOf hl.typeIs slot_list_iter.lookup ?_)
 refine f9 ?_
 simp only [ube,if_false]
 refine a9 (ua0 (udc hl ?_))
 refine a9 (ua0 (oF ne xs.size 0 _ _ ⟨_,i7 _ rfl,rfl,rfl⟩ (hl.push _) (by left) λ g1 i1 e1=>?_))
 have all:List.take xs.size (List.drop 0 xs.toList)=xs.toList:=by
  rw[uda];exact uam (by simp)
 rw[all,uhe (by simp)]
 have l1:g1.IsList l xs:=(hl.push _).extBut e1.extBut ne
 refine a9 (ua0 (wpAny_pyNext_list_end hh i1 l1 (by simp) λ g2 e2=>?_))
 simp only [Option.isSome_none,ube,if_false]
 exact f9 (h g2 λ b o hb e=>e2 b o hb (e1.extBut b o hb (c6 _ e)))
theorem assign_tuple_lst {env:Env}{elts:List uct} {x1} {pos:Pos} {l:l7} {xs:Array c9} {Q:Unit->d7->Prop} (hh:A.handled=none) (hl:s.heap.IsList l xs)
  (hn:(assignEach elts env).length=xs.size) (hs:(assignEach elts env).findIdx? (·.1)=none)
  (h:∀ h',ufn s.heap.objs.size s.heap h'->j9 (o9 prog w) A (assignInOrder ((assignEach elts env).map (·.2)) xs.toList) Q E { s with heap:=h' }) :
  j9 (o9 prog w) A (assign (.Tuple elts x1 pos) env (.ref l)) Q E s:=by
 rw[assign_Tuple]
 exact a9 (wpAny_standAt (wO hh hl hn hs h))
end
end U3
namespace L3
open PySem PySem.Spec PyProof.Rows L2
abbrev Fls:c9->d7->Prop:=λ _ _=>False
abbrev testsOf (ifs:List uct)(env:Env):Sem Bool :=
 forIn ifs true λ c r=>if r=true then do let ok ← isTrue c env (eval c env);pure (ForInStep.yield ok) else pure (ForInStep.yield r)
section
variable {prog:l9}{w:uak}{A:uae}{R:Result->d7->Prop}{s:d7}
theorem xF {elt tg iter:uct}{ifs:List uct}{scope:Scope}{pos:Pos}{it acc:c9}{env:Env}(W:Nat->d7->Prop)
  (step:∀ n s,W n s->j9 (o9 prog w) A (pyNext it) (λ r s1=>(r=none/\R (.ok .next) s1)\/∃ v,r=some v /\
   j9 (o9 prog w) A (letOwnedTupleGo tg it v) (λ _ s2=>j9 (o9 prog w) A (assign tg env v) (λ _ s3 =>
    j9 (o9 prog w) A (testsOf ifs env) (λ ok s4=>if ok=true then j9 (o9 prog w) A (eval elt env) (λ x s5 =>
     j9 (o9 prog w) A (call (.builtin "list.append") [acc,x]) (λ _ s6=>∃ m,m<n/\W m s6) Fls s5) Fls s4 else ∃ m,m<n/\W m s4) Fls s3) Fls s2) Fls s1) Fls s)
  (n:Nat) (h:W n s):codeAny (o9 prog w) A (.compLoop (.ListComp elt [⟨tg,iter,ifs,0⟩] scope pos) 0 it acc env) R s:=by
 refine codeAny_loop rfl W (λ k s1 hk=>?_) n h
 show j9 _ A ((compTurn (.ListComp elt [⟨tg,iter,ifs,0⟩] scope pos) 0 it acc env).onRaise (λ x=>do noteFrame x env;theTreesLotGoes x)) _ _ s1
 refine wpAny_noted ?_
 rw[compTurn_list]
 refine a9 (wpAny_standAt (a9 (ub1 (step k s1 hk) (λ r s2 h2=>?_) λ _ _ z=>z.elim)))
 rcases h2 with ⟨rfl,h2⟩ | ⟨v,rfl,h2⟩
 ·exact f9 h2
 ·refine a9 (ub1 h2 (λ _ s3 h3=>?_) λ _ _ z=>z.elim)
  refine a9 (ub1 h3 (λ _ s4 h4=>?_) λ _ _ z=>z.elim)
  refine a9 (ub1 h4 (λ ok s5 h5=>?_) λ _ _ z=>z.elim)
  cases ok with
  | false=>exact f9 ⟨rfl,h5⟩
  | true =>
   refine a9 (a9 (ub1 h5 (λ x s6 h6=>?_) λ _ _ z=>z.elim))
   refine a9 (ub1 h6 (λ _ s7 h7=>?_) λ _ _ z=>z.elim)
   exact f9 (f9 ⟨rfl,h7⟩)
end
def clOf (cells:List (Str × l7)):List (Str × NameKind)->List (Str × l7)->List (Str × l7)
 | [],cs=>cs
 | (n,k)::r,cs=>clOf cells r (if k=.free then (n,(cells.lookup n).getD 0)::cs else cs)
theorem oJ {cells:List (Str × l7)}:∀ {names:List (Str × NameKind)}{cs:List (Str × l7)}{p:Str × l7},p∈clOf cells names cs->p∈cs\/((p.1,NameKind.free)∈names/\p.2=(cells.lookup p.1).getD 0)
 | [],_,_,h=>.inl h
 | (n,k)::r,cs,p,h=>by
  rcases oJ (names:=r) h with q | ⟨q1,q2⟩
  ·by_cases hk:k=.free
   ·rw[uhd hk] at q
    rcases j4.mp q with e | q
    ·subst e;subst hk;exact .inr ⟨i5,rfl⟩
    ·exact .inl q
   ·rw[uhe hk] at q;exact .inl q
  ·exact .inr ⟨i9 _ q1,q2⟩
theorem oK {cells:List (Str × l7)}:∀ {names:List (Str × NameKind)}{cs:List (Str × l7)}{x:Str},((x,NameKind.free)∈names\/∃ c,(x,c)∈cs)->∃ c,(x,c)∈clOf cells names cs
 | [],_,_,h=>h.elim (λ z=>nomatch z) id
 | (n,k)::r,cs,x,h=>by
  refine oK (names:=r) ?_
  rcases h with h | ⟨c,h⟩
  ·rcases j4.mp h with e | h
   ·cases e
    exact .inr ⟨_,by rw[uhd rfl];exact i5⟩
   ·exact .inl h
  ·refine .inr ⟨c,?_⟩
   split
   ·exact i9 _ h
   ·exact h
theorem iY {env:Env}:∀ (names:List (Str × NameKind))(cs:List (Str × l7)),(∀ y∈names,y.2=.free->∃ c,env.cells.lookup y.1=some c) ->
  (forIn names cs λ x r=>(match x with | (n,k)=>if (k==NameKind.free)=true then do let c ← cellOf env n;pure (ForInStep.yield ((n,c)::r)) else pure (ForInStep.yield r):Sem (ForInStep (List (Str × l7)))))=pure (clOf env.cells names cs)
 | [],cs,_=>rfl
 | (n,k)::r,cs,h=>by
  rw[ud7]
  by_cases hk:k=.free
  ·subst hk
   obtain⟨c,hc⟩:=h (n,.free) i5 rfl
   have e1:cellOf env n=pure c:=by unfold cellOf;rw[hc]
   have e2:clOf env.cells ((n,NameKind.free)::r) cs=clOf env.cells r ((n,c)::cs):=by
    show clOf env.cells r (if NameKind.free=NameKind.free then (n,(env.cells.lookup n).getD 0)::cs else cs)=_
    rw[uhd rfl,hc]
    rfl
   rw[e2,← iY r ((n,c)::cs) λ y hy=>h y (i9 _ hy)]
   simp only [beq_self_eq_true,if_true,e1,pure_bind]
  ·have e2:clOf env.cells ((n,k)::r) cs=clOf env.cells r cs:=by
    show clOf env.cells r (if k=NameKind.free then _ else cs)=_
    rw[uhe hk]
   have hb:(k==NameKind.free)=false:=by simpa using hk
   rw[e2,← iY r cs λ y hy=>h y (i9 _ hy)]
   simp only [hb,ube,if_false,pure_bind]
theorem xG {scope:Scope}{env:Env}(h:∀ y∈scope.names,y.2=.free->∃ c,env.cells.lookup y.1=some c):closureFor scope env=pure (clOf env.cells scope.names []):=by
 have q:=iY (env:=env) scope.names [] h
 unfold closureFor
 refine Eq.trans ?_ q
 first | rfl | simp
theorem kW {env:Env}:∀ {names:List (Str × NameKind)}{x:Str},names.lookup x=some .free ->
  (names.map λ (n,k)=>if (k==NameKind.free&&env.scope.kind==.function&&env.kindOf n==some .cell) then (n,NameKind.cell) else (n,k)).lookup x=some .cell \/
  (names.map λ (n,k)=>if (k==NameKind.free&&env.scope.kind==.function&&env.kindOf n==some .cell) then (n,NameKind.cell) else (n,k)).lookup x=some .free
 | [],_,h=>by simp at h
 | (n,k)::r,x,h=>by
  have ih:=@kW env r x
  rw[ua1]
  by_cases hx:(x==n)=true
  ·rw[ubx,hx] at h
   have h':k=.free:=by simpa using h
   subst h'
   dsimp only
   split
   ·apply m9;rw[ubx,hx]
   ·apply Or.inr;rw[ubx,hx]
  ·have hx':(x==n)=false:=by simpa using hx
   rw[ubx,hx'] at h
   dsimp only
   split
   ·rw[ubx,hx'];exact ih h
   ·rw[ubx,hx'];exact ih h
theorem lQ {env:Env}:∀ {names:List (Str × NameKind)}{x:Str},(∀ y∈names,y.2≠.cell) ->
  ((names.map λ (n,k)=>if (k==NameKind.free&&env.scope.kind==.function&&env.kindOf n==some .cell) then (n,NameKind.cell) else (n,k)).lookup x=some .cell \/
  (names.map λ (n,k)=>if (k==NameKind.free&&env.scope.kind==.function&&env.kindOf n==some .cell) then (n,NameKind.cell) else (n,k)).lookup x=some .free)->(x,NameKind.free)∈names
 | [],_,_,h=>by simp at h
 | (n,k)::r,x,hc,h=>by
  rw[ua1] at h
  by_cases hx:(x==n)=true
  ·have e:x=n:=by simpa using hx
   subst e
   dsimp only at h
   by_cases hk:(k==NameKind.free&&env.scope.kind==.function&&env.kindOf x==some .cell)=true
   ·rw[uhd hk] at h
    have:k=.free:=by
     simp only [o7] at hk
     simpa using hk.1.1
    subst this
    exact i5
   ·rw[uhe hk,ubx,hx] at h
    rcases h with h | h
    ·exact absurd (by simpa using h) (hc (x,k) i5)
    ·have:k=.free:=by simpa using h
     subst this
     exact i5
  ·have hx':(x==n)=false:=by simpa using hx
   refine i9 _ (lQ (env:=env) (λ y hy=>hc y (i9 _ hy)) ?_)
   dsimp only at h
   split at h
   ·rw[ubx,hx'] at h;exact h
   ·rw[ubx,hx'] at h;exact h
def compOk (N:List Str)(sc0 scope:Scope)(fr:List Str)(js:List Nat):Bool :=
 decide (scope.kind=.function)&&(scope.names.all λ y=>decide (y.2≠.cell)&&(decide (y.2≠.free)||decide (sc0.names.lookup y.1=some .cell)||decide (sc0.names.lookup y.1=some .free)) &&
  (decide (y.2≠.local)||decide (scope.names.lookup y.1=some .local)))&&decide (fr.length=js.length) &&
 ((fr.zip js).all λ p=>decide (N[p.2]?=some p.1)&&decide (scope.names.lookup p.1=some .free)&&(decide (sc0.names.lookup p.1=some .cell)||decide (sc0.names.lookup p.1=some .free)))
def cxComp (X:Cx)(own fr:List Str)(scope:Scope)(fp:List l7)(pins:List (l7 × Obj))(s3:d7)(H3:Hp):Cx :=
 { X with N:=own++fr,s₀:=s3,H₀:=H3,env:=compEnvC scope (clOf X.env.cells scope.names []) s3.heap.objs.size X.env,outer:=X.stack,stack:=X.stack,ex:=fp,fn:=λ _=>false,pn:=X.pn++pins,xe:=Fls }
def PTs (X:Cx)(ifs:List uct)(t:TT):Prop :=
 ∀ (pins:List (l7 × Obj))(s:d7)(σ:L2.St)(H:Hp)(Q:Bool->Hp->Prop),Inv X pins σ H s->t σ H Q->j9 (o9 X.prog X.w) X.A (testsOf ifs X.env) (TP X pins σ Q) X.xe s
def tTrue:TT:=λ _ H Q=>Q true H
theorem bU {X:Cx}:PTs X [] tTrue:=λ _ _ _ H _ I h=>wpAny_tests_nil ⟨H,I,h⟩
theorem jW {X:Cx}{c:uct}{t:TT}(h:PT X c t):PTs X [c] t:=λ pins s σ H Q I q=>wpAny_tests_one (h pins s σ H Q I q)
def start3 (own:List Str)(js:List Nat)(σ:L2.St):L2.St:=l8 own.length none++js.map λ j=>(σ[j]?).join
def CompGo (own:List Str)(js:List Nat)(g:TG)(tt:TT)(te:TE)(σ:L2.St)(Q:VK)(J:It)(H1:Hp):Prop:=∀ D,H1 D=none->∃ W:Nat->Nat->List V->L2.St->Hp->Prop,
 (∃ m,W 0 m [] (start3 own js σ) (upd H1 D (.lst [])))/\∀ i m ys σ' H',W i m ys σ' H'->H' D=some (.lst ys) ->
  (J.stop i H'/\Q (.ref D) H')\/(J.go i H'/\∀ x H2,J.yld i H' x H2->g x σ' H2 λ σ3 H3=>tt σ3 H3 λ b H4 =>
   if b=true then te σ3 H4 λ v H5=>H5 D=some (.lst ys)/\ys.length<r9/\∃ m',m'<m/\W (i+1) m' (ys++[v]) σ3 (upd H5 D (.lst (ys++[v])))
   else H4 D=some (.lst ys)/\∃ m',m'<m/\W (i+1) m' ys σ3 H4)
def tComp (own:List Str)(js:List Nat)(wi:TI)(g:TG)(tt:TT)(te:TE):TE:=λ σ H Q=>wi σ H λ J H1=>CompGo own js g tt te σ Q J H1
section
variable {X:Cx}{elt tg iter:uct}{ifs:List uct}{scope sc0:Scope}{pos:Pos}{own fr N:List Str}{js:List Nat}{wi:TI}{g:TG}{tt:TT}{te:TE}
theorem yW {σ:L2.St}{js:List Nat}{k:Nat}{v:V}(e:(js.map λ j=>(σ[j]?).join)[k]?=some (some v)):∃ j,js[k]?=some j/\σ[j]?=some (some v):=by
 rw[i8] at e
 cases hj:js[k]? with
 | none=>rw[hj] at e;cases e
 | some j =>
  rw[hj] at e
  refine⟨j,rfl,?_⟩
  have e':(σ[j]?).join=some v:=by simpa using e
  cases hs:σ[j]? with
  | none=>rw[hs] at e';cases e'
  | some o=>rw[hs] at e';exact congrArg some e'
theorem zay {pins:List (l7 × Obj)}{σ:L2.St}{H3:Hp}{s3:d7}{fp:List l7}{h4:Heap}{t4:Nat}{m4:Str->Option c9}
  (hN:X.N=N) (hsc:X.env.scope=sc0) (hok:compOk N sc0 scope fr js=true) (I:Inv X pins σ H3 s3) (hf:∀ b∈fp,FpOk X pins H3 b) (hlt:∀ b∈fp,b<s3.heap.objs.size)
  (k:∀ b o,s3.heap.get? b=some o->h4.get? b=some o) (hns:h4.Ns s3.heap.objs.size m4):Inv (cxComp X own fr scope fp pins s3 H3) [] (start3 own js σ) H3 { s3 with heap:=h4,toks:=t4 }:=by
 subst hN hsc
 unfold compOk at hok
 simp only [o7,decide_eq_true_eq,uas] at hok
 obtain⟨⟨⟨hk,hall⟩,hlen⟩,hfr⟩:=hok
 have hfree:∀ y∈scope.names,y.2=.free->∃ c,X.env.cells.lookup y.1=some c:=λ y hy e=>by
  have q:=(hall y hy).1.2
  simp only [ub6,decide_eq_true_eq] at q
  rcases q with (q | q) | q
  ·exact absurd e q
  ·exact I.ok.has y.1 (.inl q)
  ·exact I.ok.has y.1 (.inr q)
 have hcl:∀ x c,(clOf X.env.cells scope.names []).lookup x=some c->X.env.cells.lookup x=some c:=λ x c e=>by
  rcases oJ (ub4 e) with z | ⟨z1,z2⟩
  ·exact absurd z (by simp)
  ·obtain⟨c',hc'⟩:=hfree _ z1 rfl
   have hc'':X.env.cells.lookup x=some c':=hc'
   have z2':c=(X.env.cells.lookup x).getD 0:=z2
   rw[hc''] at z2' ⊢
   simp at z2'
   rw[z2']
 have hasC:∀ x,(x,NameKind.free)∈scope.names->∃ c,(clOf X.env.cells scope.names []).lookup x=some c:=λ x hx=>by
  obtain⟨c,hc⟩:=oK (cells:=X.env.cells) (cs:=[]) (.inl hx)
  cases q:(clOf X.env.cells scope.names []).lookup x with
  | some c'=>exact⟨c',rfl⟩
  | none =>
   have:∀ (l:List (Str × l7)),(x,c)∈l->l.lookup x≠none:=λ l=>by
    induction l with
    | nil=>intro z;cases z
    | cons p r ih =>
     intro z
     obtain⟨p1,p2⟩:=p
     rw[ubx]
     rcases j4.mp z with z | z
     ·cases z
      simp
     ·split
      ·simp
      ·exact ih z
   exact absurd q (this _ hc)
 have hcell:∀ y∈scope.names,y.2≠.cell:=λ y hy=>(hall y hy).1.1
 have sz:X.base.objs.size<=s3.heap.objs.size:=uao I.ok.bsz I.sz
 refine⟨⟨I.ok.mod,hk,I.ok.glob,I.ok.blt,h9 _,λ x y c e1 e2=>I.ok.inj x y c (hcl x c e1) (hcl y c e2),λ x hx=>hasC x (lQ hcell hx),λ x c z=>absurd z (by simp [cxComp]),
  I.ok.hd,I.ok.frames,.inl rfl,λ b hb=>⟨j8 (hlt b hb),λ x c e=>(hf b hb).2.2.2.2.1 x c (hcl x c e)⟩,I.bs,sz,λ b o e hb=>?_,λ b hb z=>?_,I.stack,I.stkFree⟩,
  rfl,I.bare,Un.kept k,⟨m4,hns,λ i x v e1 e2 e3=>?_⟩,λ x c e=>?_,I.hok.fresh (h9 _),λ x c e=>I.freeC x c (hcl x c e),λ p hp=>?_,I.hok.kept k,?_⟩
 ·obtain⟨_,_,_,f3,_⟩:=hf b hb
  rcases f3 with f3 | f3
  ·exact I.ok.noex b o e f3
  ·exact absurd (p8 (j0 e) (uao I.ok.bsz f3)) (ubu _)
 ·obtain⟨_,f1,f2,_⟩:=hf b hb
  rcases j4.mp (I.stkSub b z) with z | z
  ·exact f1 z
  ·exact f2 z
 ·have e2':(l8 own.length (none:Option V)++js.map λ j=>(σ[j]?).join)[i]?=some (some v):=e2
  have e1':(own++fr)[i]?=some x:=e1
  by_cases hi:i<own.length
  ·rw[z0 (by simpa using hi),udl,uhd hi] at e2'
   cases e2'
  ·rw[v8 (by simpa using hi),uaa] at e2'
   rw[v8 (by left)] at e1'
   obtain⟨j,hj,hv⟩:=yW e2'
   have hz:(fr.zip js)[i-own.length]?=some (x,j):=by
    rw[List.getElem?_zip_eq_some]
    exact⟨e1',hj⟩
   have q:=hfr _ (p6 hz)
   obtain⟨⟨q1,q2⟩,q3⟩:=q
   have q3'':X.env.scope.names.lookup x=some .cell\/X.env.scope.names.lookup x=some .free:=by simpa using q3
   have q3':X.env.kindOf x=some .cell\/X.env.kindOf x=some .free:=q3''
   obtain⟨m,hn,hl⟩:=I.loc
   obtain⟨u,r,l⟩:=hl j x v q1 hv (q3'.elim (λ z=>.inr (.inl z)) λ z=>.inr (.inr z))
   refine⟨u,r,.inr ⟨kW q2,?_⟩⟩
   rcases l with ⟨z,_⟩ | ⟨_,c,hc,hcellv⟩
   ·rcases q3' with w | w <;> (rw[z] at w;cases w)
   ·obtain⟨c',hc'⟩:=hasC x (ub4 q2)
    have e:=hcl x c' hc'
    rw[hc] at e
    cases e
    obtain⟨o,ho,hd⟩:=hcellv
    exact⟨c,hc',o,k c o ho,hd⟩
 ·obtain⟨v,o,ho,hd⟩:=I.cell x c (hcl x c e)
  exact⟨v,o,k c o ho,hd⟩
 ·have hp':p∈X.pn++pins:=by
   have:p∈(X.pn++pins)++([]:List (l7 × Obj)):=hp
   simpa using this
  obtain⟨a,b,c,d,f⟩:=I.pin p hp'
  refine⟨k _ _ a,b,j8 (j0 a),λ z=>?_,f⟩
  rcases j4.mp (I.stkSub p.1 z) with z | z
  ·exact c z
  ·exact d z
 ·show (l8 own.length (none:Option V)++js.map λ j=>(σ[j]?).join).length=(own++fr).length
  simp [hlen]
theorem zF {pins:List (l7 × Obj)}{s:d7}{σ:L2.St}{H:Hp}{Q:VK}{use:Option (c9->Sem Unit)}{Qo:c9->d7->Prop}{cpos:Pos}
  (hc:X.calm=true) (hi:PI X tg iter wi) (hg:∀ fp pins s3 H3,PG (cxComp X own fr scope fp pins s3 H3) tg g) (ht:∀ fp pins s3 H3,PTs (cxComp X own fr scope fp pins s3 H3) ifs tt)
  (he:∀ fp pins s3 H3,PE (cxComp X own fr scope fp pins s3 H3) elt te) (hok:compOk N sc0 scope fr js=true) (hN:X.N=N) (hsc:X.env.scope=sc0)
  (hs:∀ x,foldedSetIterable iter X.env x=pure x) (I:Inv X pins σ H s) (h:tComp own js wi g tt te σ H Q)
  (fin:∀ (C D:l7)(s6:d7)(H6:Hp)(m6:Str->Option c9),Inv X pins σ H6 s6->FpOk X pins H6 C->s6.heap.Ns C m6->Q (.ref D) H6->compPost (o9 X.prog X.w) X.A X.xe use Qo (.ref D) C (.ok .next) s6) :
  j9 (o9 X.prog X.w) X.A (comprehension (.ListComp elt [⟨tg,iter,ifs,0⟩] scope pos) scope X.env cpos (newList []) false (eval iter X.env) use) Qo X.xe s:=by
 have hok':=hok
 unfold compOk at hok'
 simp only [o7,decide_eq_true_eq,uas] at hok'
 obtain⟨⟨⟨hk,hall⟩,hlen⟩,hfr⟩:=hok'
 have hcell:∀ y∈scope.names,y.2≠.cell:=λ y hy=>(hall y hy).1.1
 have hloc:∀ y∈scope.names,y.2=.local->scope.names.lookup y.1=some .local:=λ y hy e=>by
  have q:=(hall y hy).2
  simp only [ub6,decide_eq_true_eq] at q
  rcases q with q | q
  ·exact absurd e q
  ·exact q
 have hfree:∀ y∈scope.names,y.2=.free->∃ c,X.env.cells.lookup y.1=some c:=λ y hy e=>by
  have q:=(hall y hy).1.2
  simp only [ub6,decide_eq_true_eq] at q
  rw[← hsc] at q
  rcases q with (q | q) | q
  ·exact absurd e q
  ·exact I.ok.has y.1 (.inl q)
  ·exact I.ok.has y.1 (.inr q)
 refine wpAny_comprehension_free (use:=use) rfl hs (xG hfree) hk hloc (thn (hi pins s σ H _ I h) λ v s1 h1=>thn h1 λ itv s2 h2=>?_)
 obtain⟨it,fp,tn,J,H2,e,I2,T,st2,f2,rd⟩:=h2
 subst e
 have hD2:H2 s2.heap.objs.size=none:=I2.fresh
 obtain⟨W,⟨m0,w0⟩,turn⟩:=rd s2.heap.objs.size hD2
  -- the new list
 refine uea ?_ (p7 _)
 have I3:Inv X pins σ (upd H2 s2.heap.objs.size (.lst [])) { s2 with heap:=s2.heap.push { cls:=.type "list",data:=.seq ([]:List c9).toArray } }:=I2.lnew (t':=s2.toks) .nil (p7 _)
 generalize hs3:({ s2 with heap:=s2.heap.push { cls:=.type "list",data:=.seq ([]:List c9).toArray } }:d7)=s3 at I3
 generalize hD:s2.heap.objs.size=D at *
 have fpl:∀ b∈fp,b<D:=λ b hb=>by
  obtain⟨o,ho,_⟩:=T.obj _ _ st2 b hb
  rw[← hD];exact j0 ho
 have k23:∀ b o,s2.heap.get? b=some o->s3.heap.get? b=some o:=λ b o e=>by rw[← hs3];exact c6 _ e
 have hD3:s3.heap.objs.size=D+1:=by rw[← hs3,← hD];exact w8 ..
 have f3:∀ b∈fp,FpOk X pins (upd H2 D (.lst [])) b:=λ b hb=>by
  obtain⟨f0,f⟩:=f2 b hb
  exact⟨by rw[aN (j8 (fpl b hb))];exact f0,f⟩
 refine wpAny_newFunctionEnv hcell (by intro y hy;simp at hy) (λ h4 hns4 hsb4=>?_) hk
 have k34:∀ b o,s3.heap.get? b=some o->h4.get? b=some o:=λ b o e=>hsb4.extBut b o (j8 (j0 e)) (c6 _ e)
 have I4:=zay (own:=own) (t4:=s3.toks+([]:List (Str × c9)).length) hN hsc hok I3 f3 (λ b hb=>p8 (fpl b hb) (by rw[hD3];exact ub8 _)) k34 hns4
 have tn4:tn 0 h4:=T.keep 0 s2.heap h4 st2 λ b hb o e=>k34 b o (k23 b o e)
 have I4o:=I4.ok
 have fpS:∀ {H'':Hp},(∀ b∈fp,H'' b=none)->∀ b∈fp,FpOk (cxComp X own fr scope fp pins s3 (upd H2 D (.lst []))) [] H'' b:=λ hn b hb =>
  ⟨hn b hb,(I4o.exf b hb).1,I4o.exfs b hb,.inl hb,(I4o.exf b hb).2,λ p hp=>(f2 b hb).2.2.2.2.2 p (by
   have:p∈(X.pn++pins)++([]:List (l7 × Obj)):=hp
   simpa using this)⟩
 have loop : codeAny (o9 X.prog X.w) X.A (.compLoop (.ListComp elt [⟨tg, iter, ifs, 0⟩] scope pos) 0 (.ref it) (.ref D) (compEnvC scope (clOf X.env.cells scope.names []) s3.heap.objs.size X.env))
     (compPost (o9 X.prog X.w) X.A X.xe use Qo (.ref D) s3.heap.objs.size) { s3 with heap:=h4,toks:=s3.toks+([]:List (Str × c9)).length }:=by
  refine xF (λ n s'=>∃ i ys σ' H',Inv (cxComp X own fr scope fp pins s3 (upd H2 D (.lst []))) [] σ' H' s'/\tn i s'.heap/\(∀ b∈fp,H' b=none)/\H' D=some (.lst ys)/\W i n ys σ' H')
   ?step m0 ⟨0,[],_,_,I4,tn4,λ b hb=>(f3 b hb).1,aO,w0⟩
  rintro n s5 ⟨i,ys,σ5,H5,I5,tn5,fr5,d5,w5⟩
  rcases turn i n ys σ5 H5 w5 d5 with ⟨stop,q⟩ | ⟨go,stp⟩
  ·refine thn (T.done (cxComp X own fr scope fp pins s3 (upd H2 D (.lst []))) rfl rfl rfl hc i [] s5 σ5 H5 Fls I5 (fpS fr5) tn5 stop) λ r s6 ⟨hr,I6⟩=>.inl ⟨hr,?_⟩
   obtain⟨m6,hn6,_⟩:=id I6.loc
   have u1:Un (frs X.stack) fp H2 H5 s2.heap s6.heap:=(Un.laid k23 (udx hD) hD2).trans I6.base
   have fC:H5 s3.heap.objs.size=none:=I6.free
   have IX:Inv X pins σ H5 s6:=I2.call' (s':=s6) (ch:=fp) (by
    have:=I6.os
    rw[← hs3] at this
    exact this) u1 I6.hok I6.bare λ b hb=>by
     obtain⟨_,g1,_,g3,g4,g5⟩:=f2 b hb
     exact⟨g3,g1,g4,g5⟩
   exact fin s3.heap.objs.size D s6 H5 m6 IX (I2.fpOk (by rw[hD3,hD];exact ub8 _) fC) hn6 q
  ·refine thn (T.item (cxComp X own fr scope fp pins s3 (upd H2 D (.lst []))) rfl rfl rfl hc i [] s5 σ5 H5 Fls I5 (fpS fr5) tn5 go) λ r s6 ⟨u,hr,h6⟩=>.inr ⟨u,hr,thn h6 λ _ s7 ⟨x,H7,I7,r7,y7,tn7,fr7⟩=>?_⟩
   have I7':=I7.pinned (fpS fr7) (T.obj _ _ tn7)
   refine thn (hg fp pins s3 (upd H2 D (.lst [])) _ s7 σ5 H7 x u _ I7' r7 (stp x H7 y7)) λ _ s8 ⟨σ8,H8,I8,q8⟩=>?_
   refine thn (ht fp pins s3 (upd H2 D (.lst [])) _ s8 σ8 H8 _ I8 q8) λ ok s9 ⟨H9,I9,q9⟩=>?_
   have back:∀ {σ':L2.St}{H':Hp}{s':d7},Inv (cxComp X own fr scope fp pins s3 (upd H2 D (.lst []))) ([]++pinsAt fp s7.heap) σ' H' s'->tn (i+1) s'.heap/\∀ b∈fp,H' b=none:=λ {σ' H' s'} J=>by
    refine⟨T.keep _ _ _ tn7 λ b hb o e=>(J.pin (b,o) (t5 _ (t5 _ (gI hb e)))).1,λ b hb=>?_⟩
    obtain⟨o,e,_⟩:=T.obj _ _ tn7 b hb
    exact (J.pin (b,o) (t5 _ (t5 _ (gI hb e)))).2.1
   cases ok with
   | false =>
    rw[uhe j6] at q9
    obtain⟨d9,m',hm,w9⟩:=q9
    rw[uhe j6]
    exact⟨m',hm,i+1,ys,σ8,H9,I9.unpinned,(back I9).1,(back I9).2,d9,w9⟩
   | true =>
    rw[uhd rfl] at q9 ⊢
    refine thn (he fp pins s3 (upd H2 D (.lst [])) _ s9 σ8 H9 _ I9 q9) λ xv s10 ⟨v,H10,I10,r10,d10,len,m',hm,w10⟩=>?_
    refine thn (gL (X:=cxComp X own fr scope fp pins s3 (upd H2 D (.lst []))) _ s10 σ8 H10 (.ref D) [v] (.ref D) [xv] (λ _ H'=>H'=upd H10 D (.lst (ys++[v]))) I10 rfl (.cons r10 .nil) ⟨D,ys,v,rfl,rfl,d10,len,rfl⟩) λ _ s11 ⟨_,H11,I11,_,e11⟩=>?_
    subst e11
    exact⟨m',hm,i+1,ys++[v],σ8,_,I11.unpinned,(back I11).1,(back I11).2,aO,w10⟩
 exact codeAny_compStart_list loop (T.self X.A 0 _ _ _ tn4 loop)
theorem bK (hc:X.calm=true)(hi:PI X tg iter wi)(hg:∀ fp pins s3 H3,PG (cxComp X own fr scope fp pins s3 H3) tg g)(ht:∀ fp pins s3 H3,PTs (cxComp X own fr scope fp pins s3 H3) ifs tt)
  (he:∀ fp pins s3 H3,PE (cxComp X own fr scope fp pins s3 H3) elt te) (hok:compOk N sc0 scope fr js=true:=by symm) (hN:X.N=N:=by rfl) (hsc:X.env.scope=sc0:=by rfl)
  (hs:∀ x,foldedSetIterable iter X.env x=pure x:=by intro _;rfl):PE X (.ListComp elt [⟨tg,iter,ifs,0⟩] scope pos) (tComp own js wi g tt te):=by
 intro pins s σ H Q I h
 rw[eval_ListComp]
 refine zF hc hi hg ht he hok hN hsc hs I h λ C D s6 H6 m6 I6 f6 n6 q6=>⟨m6,n6,λ h7 sb=>⟨.ref D,H6,?_,rfl,q6⟩⟩
 obtain⟨f0,f1,_,f3,f4,f5⟩:=f6
 exact I6.turned (it:=C) (t':=s6.toks) (λ b o hb e=>sb.extBut b o hb e) f0 f1 f3 f4 f5
end
section
variable {X:Cx}{pins:List (l7 × Obj)}{σ:L2.St}{H H':Hp}{s:d7}{h':Heap}{ch:List l7}{t':Nat}
theorem turnsTo (I:Inv X pins σ H s)(hf:∀ b∈ch,FpOk X pins H b)(k:∀ b o,b∉ch->s.heap.get? b=some o->h'.get? b=some o)(hH:∀ b u,H b=some u->H' b=some u)
  (hfree:∀ b o,s.heap.get? b=some o->H b=none->H' b=none) (hok:HOk X.prog X.w H' h'):Inv X pins σ H' { s with heap:=h',toks:=t' }:=by
 refine I.step (g':=s.gens) (d':=s.drawn) (ch:=ch) (λ b hb=>?_) (λ b o _ _ hc e _=>k b o hc e) (λ b o _ _ hc e _=>⟨o.slots,k b o hc e⟩) (λ b o _ e n=>hfree b o e n) (λ b o hc e=>⟨o,k b o hc e⟩)
  (λ b xs e=>hH _ _ e) (λ b o u e=>hH _ _ e) (λ b ps e=>⟨#[],by rw[hH _ _ e];simp⟩) (λ m hm=>?_) hok I.bare
 ·obtain⟨_,f1,_,f3,f4,f5⟩:=hf b hb
  exact⟨f3,f1,f4,f5⟩
 ·obtain⟨o,es,ep,ho,r⟩:=hm
  exact⟨o,es,ep,k _ o (λ z=>(hf _ z).2.1 rfl) ho,r⟩
theorem turns (I:Inv X pins σ H s)(hf:∀ b∈ch,FpOk X pins H b)(k:∀ b o,b∉ch->s.heap.get? b=some o->h'.get? b=some o):Inv X pins σ H { s with heap:=h',toks:=t' }:=by
 refine turnsTo I hf k (λ _ _ e=>e) (λ _ _ _ n=>n) λ b u e=>?_
 refine (I.hok b u e).stay (λ c v hc q=>k c v (λ z=>?_) q) (λ _ q=>q) λ _ _ q=>q
 have n:=(hf c z).1
 rcases hc with rfl | hc
 ·rw[n] at e;cases e
 ·rw[n] at hc;cases hc
theorem turnsTup {xs:List V}{its:List c9}{T:l7}(I:Inv X pins σ H s)(hf:∀ b∈ch,FpOk X pins H b)(k:∀ b o,b∉ch->s.heap.get? b=some o->h'.get? b=some o)(hT:s.heap.objs.size<=T)
  (hz:xs.length<=r9) (hv:Vals xs its) (ht:TupN h' T its.toArray):Inv X pins σ (upd H T (.tup xs)) { s with heap:=h',toks:=t' }:=by
 have fr:H T=none:=I.hok.fresh hT
 have ne:∀ b u,H b=some u->b≠T:=λ b u e=>bB e fr
 refine turnsTo I hf k (λ b u e=>by rw[aN (ne b u e)];exact e) (λ b o e n=>by rw[aN (j8 (p8 (j0 e) hT))];exact n) λ b u e=>?_
 by_cases hb:b=T
 ·subst hb
  rw[aO] at e
  cases e
  exact⟨hz,its,hv,ht⟩
 ·rw[aN hb] at e
  refine (I.hok b u e).stay (λ c v hc q=>k c v (λ z=>?_) q) (λ c q=>by rw[aN (ne c _ q)];exact q) λ c ys q=>by rw[aN (ne c _ q)];exact q
  have n:=(hf c z).1
  rcases hc with rfl | hc
  ·rw[n] at e;cases e
  ·rw[n] at hc;cases hc
end
def SqX (t:Bool)(K:b8)(H:Hp)(a:l7)(xs:List V):Prop:=if t=true then SqT K H a xs else SqL K H a xs
section
variable {X:Cx}{pins:List (l7 × Obj)}{σ:L2.St}{H:Hp}{s:d7}{a:l7}{xs ys:List V}{t:Bool}
theorem seqX (I:Inv X pins σ H s)(h:SqX t X.K H a xs):∃ its:List c9,Vals xs its/\Z3.SqAt t s.heap a its.toArray/\xs.length<=r9:=by
 cases t with
 | true=>obtain⟨its,r,p,z⟩:=I.tuple (show SqT X.K H a xs from h);exact⟨its,r,p,z⟩
 | false=>obtain⟨its,r,p,z⟩:=I.list (show SqL X.K H a xs from h);exact⟨its,r,p.isList,z⟩
theorem jM (I:Inv X pins σ H s)(h:SqX t X.K H a xs)(h':SqX t X.K H a ys):xs=ys:=by
 cases t with
 | true=>exact I.tuple_inj h h'
 | false=>exact I.list_inj h h'
end
def Itz (t1 t2:Bool)(K:b8)(l1 l2:l7):It :=
 ⟨λ i H=>∃ xs ys x y,SqX t1 K H l1 xs/\SqX t2 K H l2 ys/\xs[i]?=some x/\ys[i]?=some y,
  λ i H v H'=>∃ T x y,H T=none/\v=.ref T/\H'=upd H T (.tup [x,y])/\(∀ xs,SqX t1 K H l1 xs->xs[i]?=some x)/\(∀ ys,SqX t2 K H l2 ys->ys[i]?=some y),
  λ i H=>∃ xs ys,SqX t1 K H l1 xs/\SqX t2 K H l2 ys/\(xs.length<=i\/ys.length<=i)⟩
theorem zY {P:l9}{w:uak}{K:b8}{elts:List uct}{kk:Nat}{pos:Pos}{t1 t2:Bool}{z TI TO i1 i2 l1 l2:l7}(D:Z3.Ap z TI TO i1 i2)(o1:Z3.Out z TI TO i1 i2 l1)(o2:Z3.Out z TI TO i1 i2 l2) :
  Turn P w K (.Tuple elts kk pos) (Itz t1 t2 K l1 l2) [z,TI,TO,i1,i2] z (λ i h=>Z3.Zd t1 t2 h z TI TO i1 i2 l1 l2 .none i) where
 mem:=by simp
 obj:=λ i h st b hb=>by
  obtain⟨q1,q2,⟨_,_,q3⟩,q4,q5⟩:=st
  obtain⟨o4,n4,e4,_,d4⟩:=q4.obj
  obtain⟨o5,n5,e5,_,d5⟩:=q5.obj
  simp only [j4,m8,or_false] at hb
  rcases hb with rfl | rfl | rfl | rfl | rfl
  ·exact⟨_,q1,λ v q=>by cases q⟩
  ·exact⟨_,q2,λ v q=>by cases q⟩
  ·exact⟨_,q3,λ v q=>by cases q⟩
  ·exact⟨_,e4,λ v q=>by rw[d4] at q;cases q⟩
  ·exact⟨_,e5,λ v q=>by rw[d5] at q;cases q⟩
 keep:=λ i h h' st k=>by
  obtain⟨q1,q2,⟨a,b,q3⟩,q4,q5⟩:=st
  exact⟨k z (by simp) _ q1,k TI (by simp) _ q2,⟨a,b,k TO (by simp) _ q3⟩,q4.to λ o e=>k i1 (by simp) o e,q5.to λ o e=>k i2 (by simp) o e⟩
 item:=by
  intro X hP hw hK hc i pins s σ H E I hf st hg
  subst hP hw hK
  obtain⟨xs,ys,x,y,q1,q2,hx,hy⟩:=hg
  obtain⟨its1,r1,p1,z1⟩:=seqX I q1
  obtain⟨its2,r2,p2,z2⟩:=seqX I q2
  obtain⟨u1,hu1,ru1⟩:=r1.get hx
  obtain⟨u2,hu2,ru2⟩:=r2.get hy
  have hf4:∀ b∈[z,TO,i1,i2],FpOk X pins H b:=λ b hb=>hf b (by
   simp only [j4,m8,or_false] at hb ⊢
   rcases hb with rfl | rfl | rfl | rfl <;> simp)
  refine Z3.yP D o1 o2 st p1 p2 (x:=u1) (y:=u2) (by simpa using hu1) (by simpa using hu2) λ h' zd tp sz kp=>?_
  have I1 : Inv X pins σ (upd H s.heap.objs.size (.tup [x, y])) { s with heap := h', toks := s.toks } := turnsTup (ch := [z, TO, i1, i2]) (its := [u1, u2]) I hf4 (λ b o hb e => by
      simp only [j4,m8,or_false,not_or] at hb
      exact kp b o hb.1 hb.2.1 hb.2.2.1 hb.2.2.2 e) (h9 _) (by show 2<=r9;rw[ubp];decide) (.cons ru1 (.cons ru2 .nil)) ⟨_,tp,rfl,⟨_,rfl⟩,rfl⟩
  have fr:H s.heap.objs.size=none:=I.fresh
  have zne:∀ b∈[z,TI,TO,i1,i2],b≠s.heap.objs.size:=λ b hb e=>by
   have key:∃ o,s.heap.get? b=some o:=by
    obtain⟨q1,q2,⟨_,_,q3⟩,q4,q5⟩:=st
    obtain⟨o4,n4,e4,_,d4⟩:=q4.obj
    obtain⟨o5,n5,e5,_,d5⟩:=q5.obj
    simp only [j4,m8,or_false] at hb
    rcases hb with rfl | rfl | rfl | rfl | rfl
    ·exact⟨_,q1⟩
    ·exact⟨_,q2⟩
    ·exact⟨_,q3⟩
    ·exact⟨_,e4⟩
    ·exact⟨_,e5⟩
   obtain⟨o,ho⟩:=key
   exact absurd (j0 ho) (by rw[e];exact ubu _)
  refine⟨_,rfl,wpAny_letOwnedTupleGo_zip zd.z λ h2 zd2 sb=>?_⟩
  obtain⟨f0,f1,f2,f3,f4,f5⟩:=hf z (by simp)
  have I2:Inv X pins σ (upd H s.heap.objs.size (.tup [x,y])) { s with heap:=h2,toks:=s.toks }:=Inv.turned (s:={ s with heap:=h',toks:=s.toks }) (it:=z) (t':=s.toks) I1 (λ b o hb e=>sb.extBut b o hb e) (by rw[aN (zne z (by simp))];exact f0) f1 f3 f4 f5
  refine⟨.ref s.heap.objs.size,_,I2,rfl,⟨_,x,y,fr,rfl,rfl,λ zs hz=>by rw[jM I hz q1];exact hx,λ zs hz=>by rw[jM I hz q2];exact hy⟩,?_,λ b hb=>by rw[aN (zne b hb)];exact (hf b hb).1⟩
  obtain⟨_,w2,⟨a3,b3,w3⟩,w4,w5⟩:=zd
  exact⟨zd2,sb.extBut _ _ D.n1 w2,⟨a3,b3,sb.extBut _ _ D.n2 w3⟩,w4.to λ o e=>sb.extBut _ _ D.n3 e,w5.to λ o e=>sb.extBut _ _ D.n4 e⟩
 done:=by
  intro X hP hw hK hc i pins s σ H E I hf st hg
  subst hP hw hK
  obtain⟨xs,ys,q1,q2,hx⟩:=hg
  obtain⟨its1,r1,p1,z1⟩:=seqX I q1
  obtain⟨its2,r2,p2,z2⟩:=seqX I q2
  have l1:=r1.length
  have l2:=r2.length
  have hf4:∀ b∈[z,TO,i1,i2],FpOk X pins H b:=λ b hb=>hf b (by
   simp only [j4,m8,or_false] at hb ⊢
   rcases hb with rfl | rfl | rfl | rfl <;> simp)
  refine Z3.yO (I.ok.hd hc) D o1 o2 st p1 p2 (hx.elim (λ q=>.inl (by simp;left)) λ q=>.inr (by simp;left)) λ h' kp=>⟨rfl,?_⟩
  exact turns (ch:=[z,TO,i1,i2]) (t':=s.toks) I hf4 λ b o hb e=>by
   simp only [j4,m8,or_false,not_or] at hb
   exact kp b o hb.1 hb.2.1 hb.2.2.1 hb.2.2.2 e
 self:=λ _ _ _ _ _ st h=>ufg st.z h
def iZip (t1 t2:Bool)(K:b8)(ta:TA):TI:=λ σ H R=>ta σ H λ vs H1=>∃ l1 l2,vs=[.ref l1,.ref l2]/\(∃ xs,SqX t1 K H1 l1 xs)/\(∃ ys,SqX t2 K H1 l2 ys)/\R (Itz t1 t2 K l1 l2) H1
theorem iJ {X:Cx}{elts:List uct}{kk:Nat}{pos':Pos}(t1 t2:Bool){a b:uct}{ta:TA}{p pos:Pos}(hg:Gl X "zip")(hm:X.mg "zip"=none)(ha:PA X [a,b] ta)
  (hs:ubc [a,b] X.env=[(false,eval a X.env),(false,eval b X.env)]:=by rfl) (hs2:ubc [b] X.env=[(false,eval b X.env)]:=by rfl) :
  PI X (.Tuple elts kk pos') (.Call (.Name "zip" p) [a,b] [] pos) (iZip t1 t2 X.K ta):=by
 intro pins s σ H R I h
 refine Call_ (dN I hg hm boot_zip (ubj (thn (ha pos pins s σ H _ I h) λ us s1 ⟨vs,H1,I1,r1,q1⟩=>?_) (by rw[hs,hs2]) (by rw[hs2];rfl)))
 obtain⟨l1,l2,e,⟨xs,qx⟩,⟨ys,qy⟩,q⟩:=q1
 subst e
 cases r1 with
 | cons r rr =>
  cases rr with
  | cons r' rr =>
   cases rr
   cases r
   cases r'
   obtain⟨its1,r1,p1,z1⟩:=seqX I1 qx
   obtain⟨its2,r2,p2,z2⟩:=seqX I1 qy
   have lt:∀ {t:Bool}{l:l7}{xs:Array c9},Z3.SqAt t s1.heap l xs->l<s1.heap.objs.size:=λ {t l xs} q=>by
    cases t with
    | true=>obtain⟨o,e,_⟩:=(show s1.heap.IsTuple l xs from q);exact j0 e
    | false=>obtain⟨o,e,_⟩:=(show s1.heap.IsList l xs from q);exact j0 e
   refine Z3.zbg p1 p2 λ h' zd sz kp=>ufg zd.z ?_
   have I2:Inv X pins σ H1 { s1 with heap:=h',toks:=s1.toks }:=I1.kept (t':=s1.toks) kp
   refine⟨s1.heap.objs.size+4,[s1.heap.objs.size+4,s1.heap.objs.size+2,s1.heap.objs.size+3,s1.heap.objs.size,s1.heap.objs.size+1],_,_,H1,rfl,I2,zY (Z3.zea _) (Z3.pJ (lt p1)) (Z3.pJ (lt p2)),zd,λ b hb=>?_,q⟩
   have hb':s1.heap.objs.size<=b:=by
    simp only [j4,m8,or_false] at hb
    rcases hb with rfl | rfl | rfl | rfl | rfl
    ·exact uby _ _
    ·exact uby _ _
    ·exact uby _ _
    ·exact h9 _
    ·exact uby _ _
   exact I1.fpOk hb' (I1.hok.fresh hb')
section
variable {X:Cx}{pos:Pos}
inductive gLst_i (K:b8)(n:Nat)(t:TGs)(v:V)(σ:L2.St)(H:Hp)(Q:L2.St->Hp->Prop):Prop
 | mk:∀ a xs,(v=.ref a)->(SqL K H a xs)->(xs.length=n)->(t xs σ H Q)->gLst_i K n t v σ H Q
def gLst (K:b8)(n:Nat)(t:TGs):TG:=λ v σ H Q=>gLst_i K n t v σ H Q
theorem zdl {es:List uct}{k:Nat}{t:TGs}{n:Nat}(hc:X.calm=true)(h:PGs X es t)(hn:(assignEach es X.env).length=n:=by rfl)(hst:(assignEach es X.env).findIdx? (·.1)=none:=by rfl):PG X (.Tuple es k pos) (gLst X.K n t):=by
 intro pins s σ H v u Q I r hw
 obtain⟨a,xs,e1,hq,hl,hw⟩:=hw
 subst e1
 cases r
 obtain⟨its,rv,ht,hz⟩:=I.list hq
 refine U3.assign_tuple_lst (I.ok.hd hc) ht.isList (by simp [hn,← hl,rv.length]) hst λ h' hx=>?_
 have I1:Inv X pins σ H { s with heap:=h' }:=I.kept (t':=s.toks) λ b o e=>hx b o (j8 (j0 e)) e
 exact h pins _ σ H xs _ Q I1 (by simpa using rv) hw
theorem zaa {prog:l9}{w:uak}{A:uae}{bs:List Bool}{its:List c9}(r:Vals (bs.map V.bl) its):TruthOf prog w A (λ i v=>its.toArray[i]?=some v) (λ i=>bs.getD i true):=by
 intro i v s Q E hP hq
 have hP':its[i]?=some v:=by simpa using hP
 have hl:=r.length
 have hi:i<its.length:=(j7.mp hP').1
 have hb:i<bs.length:=by rw[c8] at hl;left
 obtain⟨u,hu,ru⟩:=r.get (i:=i) (x:=V.bl bs[i]) (by rw[i8,c7 hb];rfl)
 rw[hP'] at hu
 cases hu
 have e:v=Value.bool bs[i]:=ru
 subst e
 have e2:bs.getD i true=bs[i]:=by simp [ubn,hb]
 have hq':Q (bs.getD i true) s:=hq
 rw[e2] at hq'
 exact ucr hq'
theorem zU (bs:List Bool):((d8 bs.length).all λ i=>bs.getD i true)=bs.all id:=by
 rw[ucj,uas,uas]
 constructor
 ·intro h b hb
  obtain⟨i,hi,e⟩:=ufo hb
  have:=h i (o8.mpr hi)
  rw[← e]
  simpa [ubn,hi] using this
 ·intro h i hi
  have hi':=o8.mp hi
  have:=h bs[i] (ue0 hi')
  simpa [ubn,hi'] using this
inductive call_all_i (K:b8)(xs:List V)(H:Hp)(Q:VK):Prop
 | mk:∀ (p:l7)(bs:List Bool),(xs=[.ref p])->(SqL K H p (bs.map V.bl))->(Q (.bl (bs.all id)) H)->call_all_i K xs H Q
theorem dS (hh:X.calm=true):CallR X (.builtin "all") (call_all_i X.K):=by
 intro pins s σ H xs us Q I r h
 obtain⟨p,bs,rfl,hq,q⟩:=h
 obtain⟨u,rfl,rx⟩:=vals1 r
 cases rx
 obtain⟨its,rv,pl,hz⟩:=I.list hq
 have hl:=rv.length
 have lt:p≠s.heap.objs.size:=by obtain⟨o,e,_⟩:=pl.isList;exact j8 (j0 e)
 refine call_all_walk (udc pl.isList ?_)
 have W:=Walks.list (prog:=X.prog) (w:=X.w) (A:=X.A.in1) (show X.A.in1.handled=none from I.ok.hd hh) s.heap.objs.size p lt its.toArray
 refine⟨s.heap.objs.size,_,_,_,_,_,_,rfl,W,⟨⟨_,i7 _ rfl,rfl,rfl⟩,pl.isList.push _⟩,zaa rv,λ h' tk hk=>?_⟩
 refine⟨.bl (bs.all id),H,I.kept (t':=tk) λ b o e=>hk b o (λ z=>?_) (c6 _ e),?_,q⟩
 ·have:b=s.heap.objs.size:=by simpa using z
  exact absurd (j0 e) (by rw[this];exact ubu _)
 ·show Value.bool _=Value.bool _
  have e1:its.toArray.size=bs.length:=by rw[j5,← hl,c8]
  rw[e1,zU]
inductive call_isi_i (K:b8)(n:String)(xs:List V)(H:Hp)(Q:VK):Prop
 | mk:∀ x t b,(xs=[x,.ty n])->(TyOf K H x t)->(PySem.W.kitOne K t (.type n)=some b)->(Q (.bl b) H)->call_isi_i K n xs H Q
theorem eP {n:String}:CallR X (.builtin "isinstance") (call_isi_i X.K n):=by
 intro pins s σ H xs us Q I r h
 obtain⟨x,t,b,rfl,ty,e,q⟩:=h
 obtain⟨u,c,rfl,ru,rc⟩:=r.two
 cases rc
 exact yY I ru ty e λ tk=>⟨.bl b,H,I.tok tk,rfl,q⟩
variable {a b c d:uct}{ta tb tc td:TE}
end
mutual
def Is (K:b8)(H:Hp):ua9->V->Prop
 | .none,v=>v=.non
 | .bool b,v=>v=.bl b
 | .int i,v=>v=.int i
 | .str x,v=>v=.str x
 | .tuple ds,v=>∃ p vs,v=.ref p/\H p=some (.tup vs)/\IsAll K H ds vs
 | .list ds,v=>∃ p vs,v=.ref p/\H p=some (.lst vs)/\IsAll K H ds vs
 | .dict kvs,v=>kvs=[]/\∃ p,v=.ref p/\H p=some (.dK [])
def IsAll (K:b8)(H:Hp):List ua9->List V->Prop
 | [],vs=>vs=[]
 | d::ds,vs=>∃ v r,vs=v::r/\Is K H d v/\IsAll K H ds r
end
section
variable {K:b8}{H H':Hp}
mutual
theorem Is.same (e:Same H H'):∀ (d:ua9){v:V},Is K H d v->Is K H' d v
 | .none,_,h=>h
 | .bool _,_,h=>h
 | .int _,_,h=>h
 | .str _,_,h=>h
 | .tuple ds,_,h=>let ⟨p,vs,q1,q2,q3⟩:=h;⟨p,vs,q1,e _ _ q2,IsAll.same e ds q3⟩
 | .list ds,_,h=>let ⟨p,vs,q1,q2,q3⟩:=h;⟨p,vs,q1,e _ _ q2,IsAll.same e ds q3⟩
 | .dict kvs,_,h=>let ⟨q0,p,q1,q2⟩:=h;⟨q0,p,q1,e _ _ q2⟩
theorem IsAll.same (e:Same H H'):∀ (ds:List ua9){vs:List V},IsAll K H ds vs->IsAll K H' ds vs
 | [],_,h=>h
 | d::ds,_,h=>let ⟨v,r,q1,q2,q3⟩:=h;⟨v,r,q1,Is.same e d q2,IsAll.same e ds q3⟩
end
theorem IsAll.length:∀ {ds:List ua9}{vs:List V},IsAll K H ds vs->vs.length=ds.length
 | [],_,h=>by rw[show _=[] from h];rfl
 | d::ds,_,⟨v,r,q1,q2,q3⟩=>by rw[q1,l6,l6,IsAll.length q3]
theorem IsAll.get:∀ {ds:List ua9}{vs:List V}{i:Nat}{d:ua9},IsAll K H ds vs->ds[i]?=some d->∃ v,vs[i]?=some v/\Is K H d v
 | [],_,_,_,_,e=>by simp at e
 | d::ds,_,0,d',⟨v,r,q1,q2,q3⟩,e=>by
  have e':d=d':=by simpa using e
  subst e';subst q1;exact⟨v,rfl,q2⟩
 | d::ds,_,i+1,_,⟨v,r,q1,q2,q3⟩,e=>by
  subst q1
  obtain⟨u,h1,h2⟩:=IsAll.get (i:=i) q3 (by simpa using e)
  exact⟨u,by simpa using h1,h2⟩
theorem IsAll.get':∀ {ds:List ua9}{vs:List V}{i:Nat}{v:V},IsAll K H ds vs->vs[i]?=some v->∃ d,ds[i]?=some d/\Is K H d v
 | [],_,i,v,h,e=>by rw[show _=[] from h] at e;simp at e
 | d::ds,_,0,v,⟨u,r,q1,q2,q3⟩,e=>by
  subst q1
  have e':u=v:=by simpa using e
  subst e';exact⟨d,rfl,q2⟩
 | d::ds,_,i+1,v,⟨u,r,q1,q2,q3⟩,e=>by
  subst q1
  obtain⟨d',h1,h2⟩:=IsAll.get' (i:=i) q3 (by simpa using e)
  exact⟨d',by simpa using h1,h2⟩
theorem IsAll.of:∀ {ds:List ua9}{vs:List V},vs.length=ds.length->(∀ (i:Nat)(d:ua9)(v:V),ds[i]?=some d->vs[i]?=some v->Is K H d v)->IsAll K H ds vs
 | [],[],_,_=>rfl
 | [],_::_,h,_=>by simp at h
 | _::_,[],h,_=>by simp at h
 | d::ds,v::vs,h,q=>⟨v,vs,rfl,q 0 d v rfl rfl,IsAll.of (by simpa using h) λ i d' v' h1 h2=>q (i+1) d' v' (by simpa using h1) (by simpa using h2)⟩
theorem IsAll.append:∀ {ds es:List ua9}{vs us:List V},IsAll K H ds vs->IsAll K H es us->IsAll K H (ds++es) (vs++us)
 | [],_,_,_,h,q=>by rw[show _=[] from h];exact q
 | d::ds,_,_,_,⟨v,r,q1,q2,q3⟩,q=>⟨v,r++_,by rw[q1];rfl,q2,IsAll.append q3 q⟩
theorem IsAll.ints (ns:List Int):IsAll K H (ns.map .int) (ns.map V.int):=by
 refine IsAll.of (by simp) λ i d v h1 h2=>?_
 rw[i8] at h1 h2
 cases e:ns[i]? with
 | none=>rw[e] at h1;cases h1
 | some n=>rw[e] at h1 h2;cases h1;cases h2;exact rfl
theorem IsAll.of_ints:∀ {ns:List Int}{vs:List V},IsAll K H (ns.map .int) vs->vs=ns.map V.int
 | [],_,h=>h
 | n::ns,_,⟨v,r,q1,q2,q3⟩=>by
  have e:v=.int n:=q2
  rw[q1,e,IsAll.of_ints q3];rfl
end
section
variable {X:Cx}{pins:List (l7 × Obj)}{σ:L2.St}{H:Hp}{s:d7}
mutual
theorem fK (I:Inv X pins σ H s):∀ (d:ua9){v:V}{u:c9},Is X.K H d v->RelV v u->∃ as,Reads s.heap u d as
 | .none,_,_,h,r=>by
  have e:_=V.non:=h
  subst e;cases r;exact⟨_,.none⟩
 | .bool b,_,_,h,r=>by
  have e:_=V.bl b:=h
  subst e;cases r;exact⟨_,.bool b⟩
 | .int i,_,_,h,r=>by
  have e:_=V.int i:=h
  subst e;obtain⟨t,rfl⟩:=r;exact⟨_,.int i t⟩
 | .str x,_,_,h,r=>by
  have e:_=V.str x:=h
  subst e;obtain⟨t,rfl⟩:=r;exact⟨_,.str x t⟩
 | .tuple ds,_,_,h,r=>by
  obtain⟨p,vs,rfl,q2,q3⟩:=(show ∃ p vs,_=V.ref p/\H p=some (.tup vs)/\IsAll X.K H ds vs from h)
  cases r
  obtain⟨its,rv,⟨o,e1,e2,n,e3⟩,_⟩:=I.tuple (SqT.of q2)
  obtain⟨as,ra⟩:=iS I ds q3 rv
  exact⟨_,.tuple e1 e2 e3 (by simpa using ra)⟩
 | .list ds,_,_,h,r=>by
  obtain⟨p,vs,rfl,q2,q3⟩:=(show ∃ p vs,_=V.ref p/\H p=some (.lst vs)/\IsAll X.K H ds vs from h)
  cases r
  obtain⟨its,rv,⟨o,n,e1,e2,_,e3⟩,_⟩:=I.list (SqL.of q2)
  obtain⟨as,ra⟩:=iS I ds q3 rv
  exact⟨_,.list e1 e2 e3 (by simpa using ra)⟩
 | .dict kvs,_,_,h,r=>by
  obtain⟨e0,p,rfl,q2⟩:=(show kvs=[]/\∃ p,_=V.ref p/\H p=some (.dK []) from h)
  subst e0
  cases r
  obtain⟨_,_,vs,kv,o,es,ep,g1,g2,g3,_,g4,_⟩:=(show ObjOk X.prog X.w H s.heap p (.dK []) from I.hok p _ q2)
  cases kv
  have e1:es.toList=[]:=by cases h:es.toList with
   | nil=>rfl
   | cons x r=>rw[h] at g4;cases g4
  exact⟨_,.dict g1 g2.1 g3 (by rw[e1];exact .nil) (by rw[e1];exact .nil)⟩
theorem iS (I:Inv X pins σ H s):∀ (ds:List ua9){vs:List V}{us:List c9},IsAll X.K H ds vs->Vals vs us->∃ as,ReadsAll s.heap us ds as
 | [],_,_,h,r=>by
  have e:_=[]:=h
  subst e;cases r;exact⟨_,.nil⟩
 | d::ds,_,_,h,r=>by
  obtain⟨v,vr,rfl,q2,q3⟩:=(show ∃ v r,_=v::r/\Is X.K H d v/\IsAll X.K H ds r from h)
  cases r with
  | cons r1 r2 =>
   obtain⟨as,a1⟩:=fK I d q2 r1
   obtain⟨bs,a2⟩:=iS I ds q3 r2
   exact⟨_,.cons a1 a2⟩
end
inductive op_eqD_i (K:b8)(uu:Nat)(x:V)(y:V)(H:Hp)(Q:VK):Prop
 | mk:∀ da db,(Is K H da x)->(Is K H db y)->(da.canLay0=true)->(db.canLay0=true)->(uu+min da.depth db.depth<cLine)->(Q (.bl (ue5 da db)) H)->op_eqD_i K uu x y H Q
theorem qU:OpR X (compareOp .Eq) (op_eqD_i X.K X.A.units):=by
 intro pins s σ H x y v u Q I rx ry h
 obtain⟨da,db,h1,h2,c1,c2,hu,q⟩:=h
 obtain⟨as,ra⟩:=fK I da h1 rx
 obtain⟨bs,rb⟩:=fK I db h2 ry
 exact SeqAt.compareEq_reads ra rb c1 c2 hu (aU I q rfl)
inductive op_neD_i (K:b8)(uu:Nat)(x:V)(y:V)(H:Hp)(Q:VK):Prop
 | mk:∀ da db,(Is K H da x)->(Is K H db y)->(da.canLay0=true)->(db.canLay0=true)->(uu+min da.depth db.depth<cLine)->(Q (.bl (!PyData.eqv da db)) H)->op_neD_i K uu x y H Q
theorem zdp:OpR X (compareOp .NotEq) (op_neD_i X.K X.A.units):=by
 intro pins s σ H x y v u Q I rx ry h
 obtain⟨da,db,h1,h2,c1,c2,hu,q⟩:=h
 obtain⟨as,ra⟩:=fK I da h1 rx
 obtain⟨bs,rb⟩:=fK I db h2 ry
 exact SeqAt.compareNe_reads ra rb c1 c2 hu (aU I q rfl)
theorem za1 {ys:List V}{its:List c9}(r:Vals ys its){i:Nat}(hi:i<ys.length):RelV (ys.getD i .non) (its.getD i .none):=by
 have hl:=r.length
 obtain⟨u,hu,ru⟩:=r.get (i:=i) (x:=ys[i]) (c7 hi)
 have e1:ys.getD i .non=ys[i]:=by simp [ubn,hi]
 have e2:its.getD i .none=u:=by simp [ubn,hu]
 rw[e1,e2];exact ru
theorem fH {ys:List V}{its:List c9}(r:Vals ys its):∀ (l:List Nat),(∀ i∈l,i<ys.length)->Vals (l.map λ i=>ys.getD i .non) (l.map λ i=>its.getD i Value.none)
 | [],_=>.nil
 | i::l,h=>.cons (za1 r (h i i5)) (fH r l λ j hj=>h j (i9 _ hj))
theorem eG {n:Nat}{p:Array Nat}(g:Srt.Gd n p):∀ i∈p.toList,i<n:=λ i hi=>by
 have:=g.mem_iff.mp (Array.mem_toList_iff.mp hi)
 simpa using this
theorem iC {α:Type}{n:Nat}{p:Array Nat}(g:Srt.Gd n p)(f:Nat->α):(p.toList.map f).Perm ((d8 n).map f):=by
 have h:=ugi.mp g
 exact (by simpa using h:p.toList.Perm (d8 n)).map f
theorem gW {n:Nat}{p:Array Nat}{r:Nat->Int}{R:Nat->Nat->Prop}(g:Srt.Gd n p)(u:Srt.Up r p n)(h:∀ i j,i<n->j<n->r i<=r j->R i j):p.toList.Pairwise R:=by
 rw[ua8]
 intro i j hi hj hij
 have sz:=g.sz
 have hi':i<p.size:=by simpa using hi
 have hj':j<p.size:=by simpa using hj
 have q:=u i j (ufe hij) (by left)
 have e:∀ k (hk:k<p.size),p.getD k 0=p[k]:=λ k hk=>by simp [ud4,hk]
 unfold Srt.ky at q
 rw[e i hi',e j hj'] at q
 have m:∀ k (hk:k<p.size),p[k]<n:=λ k hk=>eG g _ (by simp)
 have:=h p[i] p[j] (m i hi') (m j hj') q
 simpa using this
theorem cC {α:Type}(l:List α)(d:α):(d8 l.length).map (λ i=>l.getD i d)=l:=by
 refine ud0 (by simp) λ i h1 h2=>?_
 simp [ubn,h2]
inductive call_sortedI_i (K:b8)(xs:List V)(H:Hp)(Q:VK):Prop
 | mk:∀ p ns,(xs=[.ref p])->(SqL K H p (ns.map V.int))->(ns.length<64)->(∀ ms:List Int,ms.Perm ns->ms.Pairwise (·<=·)->∀ l,H l=none->Q (.ref l) (upd H l (.lst (ms.map V.int))))->call_sortedI_i K xs H Q
theorem vB:CallR X (.builtin "sorted") (call_sortedI_i X.K):=by
 intro pins s σ H xs us Q I r h
 obtain⟨p,ns,rfl,hq,h64,q⟩:=h
 obtain⟨u,rfl,rx⟩:=vals1 r
 cases rx
 obtain⟨its,rv,pl,hz⟩:=I.list hq
 have hl:=rv.length
 rw[c8] at hl
 have hI:IntsAre its ns:=dC rv
 have line:(64:Nat)<=r9:=by rw[ubp];decide
 refine Srt.lV (r:=λ i=>ns.getD i 0) (κ:=oneType') pl.isList (by left) (λ h2 A' s' Q' _ q'=>Srt.nW hI h2 q') (λ A' s' i j C _ hi hj q'=>Srt.pQ hI hi hj q') λ pp h' c g u kp e=>?_
 have g':Srt.Gd ns.length pp:=by rw[hl];exact g
 have u':Srt.Up (λ i=>ns.getD i 0) pp ns.length:=by rw[hl];exact u
 have pm:(pp.toList.map λ i=>ns.getD i 0).Perm ns:=by
  have:=iC g' λ i=>ns.getD i 0
  rw[cC] at this
  exact this
 have pw:(pp.toList.map λ i=>ns.getD i 0).Pairwise (·<=·):=by
  rw[uaw]
  exact gW g' u' λ i j _ _ z=>z
 have fr:H (s.heap.objs.size+1)=none:=I.hok.fresh (ub8 _)
 have ev:((pp.toList.map λ i=>ns.getD i 0).map V.int)=pp.toList.map λ i=>(ns.map V.int).getD i .non:=by
  rw[uaj]
  refine uaz λ i hi=>?_
  have:=eG g' i hi
  simp [ubn,this]
 refine⟨.ref (s.heap.objs.size+1),_,I.laid (a:=s.heap.objs.size+1) (o:=.lst ((pp.toList.map λ i=>ns.getD i 0).map V.int)) (t':=s.toks) kp (ub8 _) ⟨?_,Srt.outOf its pp,c,?_,e⟩,rfl,q _ pm pw _ fr⟩
 ·have:=pm.length_eq
  rw[c8,this];left
 ·rw[ev]
  exact fH rv pp.toList λ i hi=>by rw[c8];exact eG g' i hi
inductive call_sortedT_i (K:b8)(xs:List V)(H:Hp)(Q:VK):Prop
 | mk:∀ p ys ks,(xs=[.ref p])->(SqL K H p ys)->(ys.length<64)->(Paired (λ (y:V) (k:List Int)=>∃ a,y=.ref a/\SqT K H a (k.map V.int)) ys ks)->((∀ k∈ks,k≠[]))->(∀ qs:List (V × List Int),qs.Perm (ys.zip ks)->qs.Pairwise (λ a b=>Srt.lexI b.2 a.2=false)->∀ l,H l=none->Q (.ref l) (upd H l (.lst (qs.map (·.1)))))->call_sortedT_i K xs H Q
theorem uZ:CallR X (.builtin "sorted") (call_sortedT_i X.K):=by
 intro pins s σ H xs us Q I r h
 obtain⟨p,ys,ks,rfl,hq,h64,hp,hne,q⟩:=h
 obtain⟨u,rfl,rx⟩:=vals1 r
 cases rx
 obtain⟨its,rv,pl,hz⟩:=I.list hq
 have hl:=rv.length
 have hlk:ys.length=ks.length:=Paired.length hp
 have line:(64:Nat)<=r9:=by rw[ubp];decide
 have hT:∀ {ys:List V}{ks:List (List Int)}{its:List c9},Paired (λ (y:V) (k:List Int)=>∃ a,y=.ref a/\SqT X.K H a (k.map V.int)) ys ks->Vals ys its->Paired (Srt.TupI s.heap) its ks:=by
  intro ys ks its hp
  induction hp generalizing its with
  | nil=>intro rv;cases rv;exact .nil
  | cons r t ih =>
   intro rv
   cases rv with
   | cons r1 r2 =>
    refine .cons ?_ (ih r2)
    obtain⟨a,rfl,qa⟩:=r
    cases r1
    obtain⟨its',rv',⟨o,e1,e2,n,e3⟩,_⟩:=I.tuple qa
    exact⟨a,o,its'.toArray,n,rfl,e1,e2,e3,by simpa using dC rv'⟩
 have tp:=hT hp rv
 have mono:∀ {h':Heap},(∀ b o,s.heap.get? b=some o->h'.get? b=some o)->Paired (Srt.TupI h') its ks:=λ k=>Paired.mapP tp λ v k' z=>z.to k
 refine Srt.lV (r:=Srt.rank its.length λ i j=>Srt.lexI (ks.getD i []) (ks.getD j [])) (κ:=tuples' true) pl.isList (by left) (λ h2 A' s' Q' k q'=>Srt.nB (mono k) hne h2 q')
  (λ A' s' i j C k hi hj q'=>Srt.oW (mono k) hi hj (by rw[Srt.hW (lt:=λ i j=>Srt.lexI (ks.getD i []) (ks.getD j [])) (λ i=>Srt.fM _) (λ _ _ _ _ _ _=>Srt.eZ _ _ _) (λ _ _ _ _ _ _=>Srt.fL _ _ _) hi hj] at q';exact q')) λ pp h' c g u kp e=>?_
 have fr:H (s.heap.objs.size+1)=none:=I.hok.fresh (ub8 _)
 have pm:(pp.toList.map λ i=>(ys.getD i .non,ks.getD i [])).Perm (ys.zip ks):=by
  have h1:=iC g λ i=>(ys.getD i V.non,ks.getD i [])
  have e1:(d8 its.length).map (λ i=>(ys.getD i V.non,ks.getD i []))=ys.zip ks:=by
   refine ud0 (by simp;left) λ i h1 h2=>?_
   have hi:i<its.length:=by simpa using h1
   have a1:i<ys.length:=by left
   have a2:i<ks.length:=by left
   simp [ubn,a1,a2]
  rw[e1] at h1
  exact h1
 have pw:(pp.toList.map λ i=>(ys.getD i V.non,ks.getD i [])).Pairwise (λ a b=>Srt.lexI b.2 a.2=false):=by
  rw[uaw]
  refine gW g u λ i j hi hj z=>?_
  have w:=Srt.hW (n:=its.length) (lt:=λ i j=>Srt.lexI (ks.getD i []) (ks.getD j [])) (λ i=>Srt.fM _) (λ _ _ _ _ _ _=>Srt.eZ _ _ _) (λ _ _ _ _ _ _=>Srt.fL _ _ _) hj hi
  rw[uhc (by left)] at w
  exact w.symm
 have ev:(pp.toList.map λ i=>(ys.getD i V.non,ks.getD i [])).map (·.1)=pp.toList.map λ i=>ys.getD i V.non:=by
  rw[uaj];rfl
 refine⟨.ref (s.heap.objs.size+1),_,I.laid (a:=s.heap.objs.size+1) (o:=.lst ((pp.toList.map λ i=>(ys.getD i V.non,ks.getD i [])).map (·.1))) (t':=s.toks) kp (ub8 _) ⟨?_,Srt.outOf its pp,c,?_,e⟩,rfl,q _ pm pw _ fr⟩
 ·have:=pm.length_eq
  rw[c8,this,List.length_zip];left
 ·rw[ev]
  exact fH rv pp.toList λ i hi=>by have:=eG g i hi;left
end
def Ok (P:l9)(w:uak)(K:b8)(mg:Str->Option c9)(base:Heap)(k:Nat)(x:Str)(ps:List Str)(sp:Sp):Prop :=
 ∃ (f:l7)(fd:FuncData),FnOk P w K mg base CX0 k f fd ps sp/\Binds K fd ps []/\uds K (.ref f)=true/\mg x=some (.ref f)
def DefOk (K:b8)(mg:Str->Option c9)(x:Str)(st:udi)(ps:List Str):Prop :=
 ∃ (f:l7)(fd:FuncData),Fun K x x st f fd/\Binds K fd ps []/\mg x=some (.ref f)
section
variable {P:l9}{w:uak}{K:b8}{mg:Str->Option c9}{base:Heap}{x:Str}{ps N:List Str}{sp sp':Sp}{k:Nat}{st:udi}
theorem Ok.mono {j:Nat}(O:Ok P w K mg base j x ps sp)(h:j<=k):Ok P w K mg base k x ps sp:=let ⟨f,fd,F,r⟩:=O;⟨f,fd,F.mono h,r⟩
theorem Ok.imp (O:Ok P w K mg base k x ps sp)(h:∀ vs H Q E,sp' vs H Q E->sp vs H Q E):Ok P w K mg base k x ps sp':=let ⟨f,fd,F,r⟩:=O;⟨f,fd,F.imp h,r⟩
theorem rO (D:DefOk K mg x st ps)(S:FnScope N ps (defScope st))(len:∀ vs H Q E,sp vs H Q E->vs.length=ps.length)
  (hbody:∀ (f:l7)(cdv:c9)(A:uae)(outer:List Env)(s:d7)(H:Hp)(vs:List V)(Q:VK)(E:XK),Room k (A.deeper (envOfC x (defScope st) s.heap.objs.size f cdv))->sp vs H Q E ->
   ∃ t,PSs (cxOf CX0 P w K mg base N x (defScope st) f cdv A outer s H E).nox (defBody st) t/\t { nx:=λ _ H'=>Q .non H',rt:=Q } (start N vs) H):Ok P w K mg base (k+1) x ps sp:=by
 obtain⟨f,fd,F,b,m⟩:=D
 exact⟨f,fd,F.ok S len (λ cdv A outer s H vs Q E hr h=>hbody f cdv A outer s H vs Q E hr h),b,F.kp,m⟩
theorem aK {X:Cx}{p pos:Pos}{e:uct}{es:List uct}{t:TA}(O:Ok X.prog X.w X.K X.mg X.base k x ps sp)(hr:Room k X.A)(hg:Gl X x)(ha:PA X (e::es) t)
  (hdb:(x==("__debug__":Str))=false:=by decide) (he:ubc (e::es) X.env=(false,eval e X.env)::ubc es X.env:=by rfl) (hpl:(backTo pos (ubc es X.env)).any (·.1)=false:=by rfl) :
  PE X (.Call (.Name x p) (e::es) [] pos) (tCall sp [] E0 t):=by
 obtain⟨f,fd,F,b,kp,m⟩:=O
 exact zch F hr hg m kp b .nil pass0 ha hdb he hpl
end
structure Bi (mg:Str->Option c9):Prop where
 z_len:mg "len"=none
 z_range:mg "range"=none
 z_zip:mg "zip"=none
 z_all:mg "all"=none
 z_sorted:mg "sorted"=none
 z_isinstance:mg "isinstance"=none
 z_min:mg "min"=none
 z_max:mg "max"=none
 z_tuple:mg "tuple"=none
 z_list:mg "list"=none
 z_int:mg "int"=none
 z_bool:mg "bool"=none
 z_str:mg "str"=none
 z_enumerate:mg "enumerate"=none
 z_sum:mg "sum"=none
 z_abs:mg "abs"=none
 z_set:mg "set"=none
 z_reversed:mg "reversed"=none
 z_any:mg "any"=none
 z_repr:mg "repr"=none
 z_dict:mg "dict"=none
def But (p:l7)(H H':Hp):Prop:=∀ b o,b≠p->H b=some o->H' b=some o
section
variable {K:b8}{H H1 H2:Hp}{p a:l7}{o:HO}{xs ys:List V}
theorem But.refl:But p H H:=λ _ _ _ h=>h
theorem But.trans (a:But p H H1)(b:But p H1 H2):But p H H2:=λ c o n h=>b c o n (a c o n h)
theorem But.upd:But p H (upd H p o):=λ b u n h=>by rw[aN n];exact h
theorem Same.but (h:Same H H1):But p H H1:=λ b o _ q=>h b o q
theorem But.new (h:H a=none):But p H (L2.upd H a o):=λ b u _ q=>by rw[aN (bB q h)];exact q
theorem aT (h:H a=none):Same H (upd H a o):=λ b u q=>by rw[aN (bB q h)];exact q
end
mutual
def tupD:ua9->Bool
 | .none | .bool _ | .int _ | .str _=>true
 | .tuple ds=>tupAll ds
 | .list _ | .dict _=>false
def tupAll:List ua9->Bool
 | []=>true
 | d::ds=>tupD d&&tupAll ds
end
mutual
theorem Is.but {K:b8}{H H':Hp}{p:l7}{xs:List V}(e:But p H H')(hp:H p=some (.lst xs)):∀ (d:ua9){v:V},tupD d=true->Is K H d v->Is K H' d v
 | .none,_,_,h=>h
 | .bool _,_,_,h=>h
 | .int _,_,_,h=>h
 | .str _,_,_,h=>h
 | .tuple ds,_,t,h=>let ⟨q,vs,q1,q2,q3⟩:=h;⟨q,vs,q1,e _ _ (λ z=>by subst z;rw[hp] at q2;cases q2) q2,IsAll.but e hp ds t q3⟩
 | .list ds,_,t,h=>by cases t
 | .dict _,_,t,h=>by cases t
theorem IsAll.but {K:b8}{H H':Hp}{p:l7}{xs:List V}(e:But p H H')(hp:H p=some (.lst xs)):∀ (ds:List ua9){vs:List V},tupAll ds=true->IsAll K H ds vs->IsAll K H' ds vs
 | [],_,_,h=>h
 | d::ds,_,t,h=>by
  have t':(tupD d&&tupAll ds)=true:=t
  rw[o7] at t'
  obtain⟨v,r,q1,q2,q3⟩:=h
  exact⟨v,r,q1,Is.but e hp d t'.1 q2,IsAll.but e hp ds t'.2 q3⟩
end
def Pot (H:Hp)(p:l7):Prop:=∃ a b:Int,H p=some (.lst [.int a,.int b])/\0<=a/\0<=b/\b<2147483647
theorem Pot.lst {H:Hp}{p:l7}(h:Pot H p):∃ xs,H p=some (.lst xs):=let ⟨a,b,e,_⟩:=h;⟨_,e⟩
inductive spPot_i (K:b8)(vs:List V)(H:Hp)(Q:VK):Prop
 | mk:∀ a k (ns:List Int),(vs=[.ref a,.int k])->(SqL K H a (ns.map V.int))->(0<=k)->(k<=100)->(∀ l H',Same H H'->H l=none->Pot H' l->Q (.ref l) H')->spPot_i K vs H Q
def spPot (K:b8):Sp:=λ vs H Q _=>spPot_i K vs H Q
inductive spTake_i  (vs:List V) (H:Hp) (Q:VK):Prop
 | mk:∀ p m,(vs=[.ref p,.int m])->(Pot H p)->(0<m)->(m<1073741824)->(∀ r H',0<=r->r<m->But p H H'->Pot H' p->Q (.int r) H')->spTake_i vs H Q
def spTake :Sp:=λ vs H Q _=>spTake_i vs H Q
inductive spLength_i  (vs:List V) (H:Hp) (Q:VK):Prop
 | mk:∀ p y,(vs=[.ref p,.int y])->(Pot H p)->(0<=y)->(y<5)->(∀ r H',1<=r->r<=10^18->But p H H'->Pot H' p->Q (.int r) H')->spLength_i vs H Q
def spLength :Sp:=λ vs H Q _=>spLength_i vs H Q
inductive spTied_i  (vs:List V) (H:Hp) (Q:VK):Prop
 | mk:∀ p n y a b,(vs=[.ref p,.int n,.int y,.int a,.int b])->(Pot H p)->(∀ k H',But p H H'->Pot H' p->Q (.bl k) H')->spTied_i vs H Q
def spTied :Sp:=λ vs H Q _=>spTied_i vs H Q
inductive spOrder_i  (vs:List V) (H:Hp) (Q:VK):Prop
 | mk:∀ p m,(vs=[.ref p,.int m])->(Pot H p)->(0<=m)->(m<=1000)->(∀ l H' (ms:List Int),But p H H'->Pot H' p->H l=none->l≠p->H' l=some (.lst (ms.map V.int))->ms.Perm ((d8 m.toNat).map λ i:Nat=>(i:Int))->Q (.ref l) H')->spOrder_i vs H Q
def spOrder :Sp:=λ vs H Q _=>spOrder_i vs H Q
abbrev Tie:=Int × Int × Int
def tieI (t:Tie):List Int:=[t.1,t.2.1,t.2.2]
def tieD (t:Tie):ua9:=.tuple ((tieI t).map .int)
def webD (n:Int)(ties:List Tie):ua9:=.tuple [.int n,.tuple (ties.map tieD)]
def endLt (s t:Tie):Prop:=s.1<t.1\/(s.1=t.1/\s.2.1<t.2.1)
structure WebOk (n:Int)(ties:List Tie):Prop where
 n1:1<=n
 n24:n<=24
 rise:ties.Pairwise endLt
 few:ties.length<=60
 tie:∀ t∈ties,0<=t.1/\t.1<t.2.1/\t.2.1<n/\1<=t.2.2/\t.2.2<=10^18
inductive spWeb_i (K:b8)(vs:List V)(H:Hp)(Q:VK):Prop
 | mk:∀ p m,(vs=[.ref p,.int m])->(Pot H p)->(1<=m)->(m<=24)->(∀ v H' n ties,But p H H'->Pot H' p->WebOk n ties->n<=m->Is K H' (webD n ties) v->Q v H')->spWeb_i K vs H Q
def spWeb (K:b8):Sp:=λ vs H Q _=>spWeb_i K vs H Q
end L3
namespace L3
structure Grown (n:Nat)(ms:List Int)(b a:Nat)(ties:List Tie):Prop where
 few:ties.length<=60
 ok:∀ t∈ties,0<=t.1/\t.1<t.2.1/\t.2.1<(n:Int)/\1<=t.2.2/\t.2.2<=10^18
 of:∀ t∈ties,∃ a' b':Nat,a'<b'/\b'<n/\(b'<b\/(b'=b/\a'<a))/\((t.1=ms.getD a' 0/\t.2.1=ms.getD b' 0)\/(t.1=ms.getD b' 0/\t.2.1=ms.getD a' 0))
 nd:ties.Pairwise λ s t=>¬ (s.1=t.1/\s.2.1=t.2.1)
theorem Grown.start {n:Nat}{ms:List Int}:Grown n ms 0 0 []:=⟨p7 _,(λ t h=>by cases h),(λ t h=>by cases h),ugr⟩
theorem Grown.down {n:Nat}{ms:List Int}{b:Nat}{ties:List Tie}(g:Grown n ms b b ties):Grown n ms (b+1) 0 ties :=
 ⟨g.few,g.ok,λ t h=>by
  obtain⟨a',b',h1,h2,h3,h4⟩:=g.of t h
  exact⟨a',b',h1,h2,.inl (by left),h4⟩,g.nd⟩
theorem Grown.skip {n:Nat}{ms:List Int}{b a:Nat}{ties:List Tie}(g:Grown n ms b a ties):Grown n ms b (a+1) ties :=
 ⟨g.few,g.ok,λ t h=>by
  obtain⟨a',b',h1,h2,h3,h4⟩:=g.of t h
  exact⟨a',b',h1,h2,by left,h4⟩,g.nd⟩
structure Perm0 (n:Nat)(ms:List Int):Prop where
 len:ms.length=n
 lo:∀ i,i<n->0<=ms.getD i 0/\ms.getD i 0<(n:Int)
 inj:∀ i j,i<n->j<n->ms.getD i 0=ms.getD j 0->i=j
theorem Perm0.of {n:Nat}{ms:List Int}(h:ms.Perm ((d8 n).map λ i:Nat=>(i:Int))):Perm0 n ms:=by
 have hl:ms.length=n:=by simpa using h.length_eq
 have nd:ms.Nodup:=(h.nodup_iff).mpr (by
  rw[uai,uaw]
  exact (List.nodup_range (n:=n)).imp λ h z=>h (by left))
 refine⟨hl,λ i hi=>?_,λ i j hi hj e=>?_⟩
 ·have e:ms.getD i 0=ms[i]:=by simp [ubn,show i<ms.length by left]
  have m:ms[i]'(by left)∈(d8 n).map λ i:Nat=>(i:Int):=h.mem_iff.mp (ue0 _)
  rw[e]
  obtain⟨k,hk,ek⟩:=uau.mp m
  have:=o8.mp hk
  left
 ·have e1:ms.getD i 0=ms[i]:=by simp [ubn,show i<ms.length by left]
  have e2:ms.getD j 0=ms[j]:=by simp [ubn,show j<ms.length by left]
  rw[e1,e2] at e
  exact (List.getElem_inj nd).mp e
theorem Grown.add {n:Nat}{ms:List Int}{b a:Nat}{ties:List Tie}{x y l:Int}(g:Grown n ms b a ties)(pm:Perm0 n ms)(ha:a<b)(hb:b<n)(hf:ties.length<60)(hl:1<=l)(hl2:l<=10^18)
  (hxy:(x=ms.getD a 0/\y=ms.getD b 0)\/(x=ms.getD b 0/\y=ms.getD a 0)) (hle:x<=y):Grown n ms b (a+1) (ties++[(x,y,l)]):=by
 have han:=Nat.lt_trans ha hb
 have la:=pm.lo a han
 have lb:=pm.lo b hb
 have ne:ms.getD a 0≠ms.getD b 0:=λ e=>j8 ha (pm.inj a b han hb e)
 refine⟨by rw[i6,t6];exact hf,λ t ht=>?_,λ t ht=>?_,?_⟩
 ·rcases u4.mp ht with h | h
  ·exact g.ok t h
  ·have e:t=(x,y,l):=k8.mp h
   subst e
   refine⟨?_,?_,?_,hl,hl2⟩
   ·show 0<=x
    rcases hxy with ⟨q1,q2⟩ | ⟨q1,q2⟩
    ·rw[q1];exact la.1
    ·rw[q1];exact lb.1
   ·show x<y
    refine Int.lt_iff_le_and_ne.mpr ⟨hle,λ z=>?_⟩
    rcases hxy with ⟨q1,q2⟩ | ⟨q1,q2⟩
    ·exact ne (q1.symm.trans (z.trans q2))
    ·exact ne (q2.symm.trans (z.symm.trans q1))
   ·show y<(n:Int)
    rcases hxy with ⟨q1,q2⟩ | ⟨q1,q2⟩
    ·rw[q2];exact lb.2
    ·rw[q2];exact la.2
 ·rcases u4.mp ht with h | h
  ·obtain⟨a',b',h1,h2,h3,h4⟩:=g.of t h
   exact⟨a',b',h1,h2,h3.imp id λ z=>⟨z.1,ubd z.2⟩,h4⟩
  ·have e:t=(x,y,l):=k8.mp h
   subst e
   exact⟨a,b,ha,hb,.inr ⟨rfl,ucu _⟩,hxy⟩
 ·rw[uch]
  refine⟨g.nd,List.pairwise_singleton _ _,λ t ht u hu=>?_⟩
  have e:u=(x,y,l):=k8.mp hu
  subst e
  rintro ⟨e1,e2⟩
  obtain⟨a',b',h1,h2,h3,h4⟩:=g.of t ht
  have e1':t.1=x:=e1
  have e2':t.2.1=y:=e2
  have h1n:=Nat.lt_trans h1 h2
  have fin:a'=a->b'=b->False:=λ ea eb=>h3.elim (λ z=>j8 z eb) λ z=>j8 z.2 ea
  have fin2:a'=b->b'=a->False:=λ ea eb=>Nat.lt_asymm ha (by rw[← ea,← eb];exact h1)
  rcases h4 with ⟨p1,p2⟩ | ⟨p1,p2⟩ <;> rcases hxy with ⟨q1,q2⟩ | ⟨q1,q2⟩
  ·exact fin (pm.inj a' a h1n han (p1.symm.trans (e1'.trans q1))) (pm.inj b' b h2 hb (p2.symm.trans (e2'.trans q2)))
  ·exact fin2 (pm.inj a' b h1n hb (p1.symm.trans (e1'.trans q1))) (pm.inj b' a h2 han (p2.symm.trans (e2'.trans q2)))
  ·exact fin2 (pm.inj a' b h1n hb (p2.symm.trans (e2'.trans q2))) (pm.inj b' a h2 han (p1.symm.trans (e1'.trans q1)))
  ·exact fin (pm.inj a' a h1n han (p2.symm.trans (e2'.trans q2))) (pm.inj b' b h2 hb (p1.symm.trans (e1'.trans q1)))
theorem zca {ts:List Tie}(h:ts.Pairwise λ a b=>Srt.lexI (tieI b) (tieI a)=false)(nd:ts.Pairwise λ s t=>¬ (s.1=t.1/\s.2.1=t.2.1)):ts.Pairwise endLt:=by
 refine (h.and nd).imp λ {a b} hab=>?_
 obtain⟨h1,h2⟩:=hab
 obtain⟨a1,a2,a3⟩:=a
 obtain⟨b1,b2,b3⟩:=b
 simp only [tieI,Srt.lexI] at h1
 show a1<b1\/(a1=b1/\a2<b2)
 have h2':¬ (a1=b1/\a2=b2):=h2
 by_cases e1:b1=a1
 ·rw[uhd e1] at h1
  by_cases e2:b2=a2
  ·exact absurd ⟨e1.symm,e2.symm⟩ h2'
  ·rw[uhe e2] at h1
   have:=of_decide_eq_false h1
   exact .inr ⟨e1.symm,by left⟩
 ·rw[uhe e1] at h1
  have:=of_decide_eq_false h1
  exact .inl (by left)
end L3
namespace L3
open PySem PySem.Spec PyProof.Rows L2
section
variable {X:Cx}{pos:Pos}
inductive op_isnotB_i  (x:V) (y:V) (H:Hp) (Q:VK):Prop
 | mk:∀ i j,(x=.bl i)->(y=.bl j)->(Q (.bl (!(i==j))) H)->op_isnotB_i x y H Q
theorem yK:OpR X (compareOp .IsNot) (op_isnotB_i):=by
 intro pins s σ H x y v u Q I rx ry h
 obtain⟨i,j,rfl,rfl,q⟩:=h
 cases rx
 cases ry
 exact isnot_bool (aU I q rfl)
theorem pL:OpR X (binaryOp .Mult) (rI (λ i j=>IntMulOk i j) λ i j=>.int (i*j)):=opI λ _ _ _ _ _ _ _ hc q=>mul_int q hc
theorem mulB:IntMulOk ((10:Int)^(60:Int).toNat) ((10:Int)^(60:Int).toNat):=IntMulOk.of_bits (by symm) (by symm)
theorem mulB2:IntMulOk ((10:Int)^(60:Int).toNat*(10:Int)^(60:Int).toNat) ((10:Int)^(60:Int).toNat):=IntMulOk.of_bits (by symm) (by symm)
theorem posB:(0:Int)<(10:Int)^(60:Int).toNat*(10:Int)^(60:Int).toNat*(10:Int)^(60:Int).toNat:=by symm
inductive call_range_i  (xs:List V) (H:Hp) (Q:VK):Prop
 | mk:∀ (j:Int),(xs=[.int j])->(∀ p,H p=none->Q (.ref p) (upd H p (.rng 0 j)))->call_range_i xs H Q
theorem iZ:CallR X (.type "range") (call_range_i):=by
 intro pins s σ H xs us Q I r h
 obtain⟨j,rfl,q⟩:=h
 obtain⟨u,rfl,t,rfl⟩:=vals1 r
 refine call_range_1 ⟨.ref s.heap.objs.size,_,I.laid (a:=s.heap.objs.size) (o:=.rng 0 j) (λ b o e=>c6 _ e) (h9 _) ⟨_,_,_,i7 _ rfl⟩,rfl,q _ I.fresh⟩
inductive call_list_rng_i  (xs:List V) (H:Hp) (Q:VK):Prop
 | mk:∀ (p:l7)(j:Int),(xs=[.ref p])->(H p=some (.rng 0 j))->(0<=j)->(j<=1000)->(∀ l,H l=none->Q (.ref l) (upd H l (.lst ((d8 j.toNat).map λ i:Nat=>V.int (i:Int)))))->call_list_rng_i xs H Q
theorem uH (hh:X.calm=true):CallR X (.type "list") (call_list_rng_i):=by
 intro pins s σ H xs us Q I r h
 obtain⟨p,j,rfl,hp,hj0,hj,q⟩:=h
 obtain⟨u,rfl,rx⟩:=vals1 r
 cases rx
 obtain⟨t,u,v,e⟩:=(show ObjOk X.prog X.w H s.heap p (.rng 0 j) from I.hok p _ hp)
 refine call_list_range (n:=j.toNat) (I.ok.hd hh) (show IsRange s.heap p 0 j 1 t u v from e) (small_one (by left) (by left) (by left) (by left)) (by rw[rangeSize_one];split <;> left) (by left) λ h' tk acc c hk hS hacc=>?_
 refine⟨.ref s.heap.objs.size,_,I.laid (a:=s.heap.objs.size) (o:=.lst ((d8 j.toNat).map λ i:Nat=>V.int (i:Int))) (t':=tk) hk (h9 _) ⟨?_,acc.toList,c,?_,by simpa using hS⟩,rfl,q _ I.fresh⟩
 ·rw[c8,v4,ubp];left
 ·have go:∀ (n:Nat)(l:List c9),l.length=n->(∀ (k:Nat)(v:c9),l[k]?=some v->∃ t,v=Value.int (0+(k:Int)*1) t)->Vals ((d8 n).map λ i:Nat=>V.int (i:Int)) l:=by
   intro n l hl hv
   have gen:∀ (l:List c9)(o:Nat),(∀ (k:Nat)(v:c9),l[k]?=some v->∃ t,v=Value.int ((o+k:Nat):Int) t)->Vals ((List.range' o l.length).map λ i:Nat=>V.int (i:Int)) l:=by
    intro l
    induction l with
    | nil=>intro o _;exact .nil
    | cons x r ih =>
     intro o h
     rw[l6,List.range'_succ,ua1]
     obtain⟨t,ht⟩:=h 0 x rfl
     refine .cons ⟨t,by simpa using ht⟩ (ih (o+1) λ k v hk=>?_)
     obtain⟨t,ht⟩:=h (k+1) v (by simpa using hk)
     exact⟨t,by rw[ht];congr 1;left⟩
   have:=gen l 0 λ k v hk=>by
    obtain⟨t,ht⟩:=hv k v hk
    exact⟨t,by rw[ht];congr 1;left⟩
   rw[hl] at this
   rw[List.range_eq_range']
   exact this
  refine go _ _ (by simpa using hacc.1) λ k v hk=>hacc.2 k v (by simpa using hk)
end
theorem lS {α:Type}:∀ (l:List α)(k:Nat)(h:k<l.length),(l[k]::l.eraseIdx k).Perm l
 | [],k,h=>absurd h (udq _)
 | a::l,0,_=>ud5 _
 | a::l,k+1,h=>by
  have h':k<l.length:=by simpa using h
  show (l[k]::a::l.eraseIdx k).Perm (a::l)
  exact (List.Perm.swap a l[k] _).trans ((lS l k h').cons a)
theorem mG {α β:Type}(f:α->β):∀ (l:List α)(k:Nat),(l.eraseIdx k).map f=(l.map f).eraseIdx k
 | [],_=>rfl
 | _::_,0=>rfl
 | a::l,k+1=>by
  show f a::(l.eraseIdx k).map f=f a::(l.map f).eraseIdx k
  rw[mG f l k]
def TieL (H:Hp)(ys:List V)(ts:List Tie):Prop:=Paired (λ (y:V) (t:Tie)=>∃ a,y=.ref a/\H a=some (.tup ((tieI t).map V.int))) ys ts
theorem TieL.keep {H H':Hp}{ys:List V}{ts:List Tie}(h:TieL H ys ts)(k:∀ a xs,H a=some (.tup xs)->H' a=some (.tup xs)):TieL H' ys ts :=
 Paired.mapP h λ y t ⟨a,e1,e2⟩=>⟨a,e1,k _ _ e2⟩
theorem TieL.snoc {H:Hp}{ys:List V}{ts:List Tie}{a:l7}{t:Tie}(h:TieL H ys ts)(e:H a=some (.tup ((tieI t).map V.int))):TieL H (ys++[.ref a]) (ts++[t]):=Paired.snoc h ⟨a,rfl,e⟩
theorem lP {α β γ:Type}{F:β->γ->Prop}(f:α->β)(g:α->γ):∀ {l:List α},(∀ x∈l,F (f x) (g x))->Paired F (l.map f) (l.map g)
 | [],_=>.nil
 | x::l,h=>.cons (h x i5) (lP f g λ y hy=>h y (i9 _ hy))
theorem lO {α β γ:Type}{F:α->β->Prop}{f:β->γ}:∀ {l:List α}{r:List β},Paired F l r->∀ q∈l.zip (r.map f),∃ b,q.2=f b/\F q.1 b
 | _,_,.nil,q,h=>by cases h
 | _,_,.cons (a:=a) (b:=b) x t,q,h=>by
  rw[ua1,ueb] at h
  rcases j4.mp h with e | h
  ·subst e;exact⟨b,rfl,x⟩
  ·exact lO t q h
theorem lF {F:V->Tie->Prop}{G:V->List Int->Prop}(h:∀ y t,F y t->G y (tieI t)):∀ {ys:List V}{ts:List Tie},Paired F ys ts->Paired G ys (ts.map tieI)
 | _,_,.nil=>.nil
 | _,_,.cons x t=>.cons (h _ _ x) (lF h t)
def tieOf:List Int->Tie
 | [a,b,c]=>(a,b,c)
 | _=>(0,0,0)
theorem zbx (t:Tie):tieOf (tieI t)=t:=rfl
theorem zbv {H:Hp}{ys:List V}{ts:List Tie}(h:TieL H ys ts){qs:List (V × List Int)}(p:qs.Perm (ys.zip (ts.map tieI)))(w:qs.Pairwise λ a b=>Srt.lexI b.2 a.2=false) :
  ∃ ts':List Tie,ts'.Perm ts/\TieL H (qs.map (·.1)) ts'/\ts'.Pairwise λ a b=>Srt.lexI (tieI b) (tieI a)=false:=by
 have mem:∀ q∈qs,∃ t,q.2=tieI t/\∃ a,q.1=.ref a/\H a=some (.tup ((tieI t).map V.int)):=λ q hq=>lO h q (p.mem_iff.mp hq)
 have back:∀ q∈qs,tieI (tieOf q.2)=q.2:=λ q hq=>by
  obtain⟨t,e,_⟩:=mem q hq
  rw[e];rfl
 refine⟨qs.map λ q=>tieOf q.2,?_,lP _ _ λ q hq=>?_,?_⟩
 ·have e1:(qs.map λ q=>tieOf q.2).Perm ((ys.zip (ts.map tieI)).map λ q=>tieOf q.2):=p.map _
  have e2:(ys.zip (ts.map tieI)).map (λ q=>tieOf q.2)=ts:=by
   have l:ys.length=(ts.map tieI).length:=by rw[c8];exact Paired.length h
   have:(ys.zip (ts.map tieI)).map (λ q=>tieOf q.2)=((ys.zip (ts.map tieI)).map (·.2)).map tieOf:=by rw[uaj];rfl
   rw[this,uez (udx l.symm),uaj]
   exact (uaz λ t _=>zbx t).trans (uc2 _)
  rw[e2] at e1
  exact e1
 ·obtain⟨t,e,a,ea,eh⟩:=mem q hq
  refine⟨a,ea,?_⟩
  rw[back q hq,e];exact eh
 ·rw[uaw]
  refine w.imp_of_mem λ {a b} ha hb z=>?_
  rw[back a ha,back b hb];exact z
theorem TieL.is {K:b8}{H:Hp}:∀ {ys:List V}{ts:List Tie},TieL H ys ts->IsAll K H (ts.map tieD) ys
 | _,_,.nil=>rfl
 | _,_,.cons (a:=y) (b:=t) ⟨a,e1,e2⟩ r=>⟨_,_,rfl,⟨a,_,e1,e2,IsAll.ints _⟩,TieL.is r⟩
theorem wP {x y:Int}{ms:List Int}(p:ms.Perm [x,y])(w:ms.Pairwise (·<=·)):∃ a b,ms=[a,b]/\a<=b/\((a=x/\b=y)\/(a=y/\b=x)):=by
 have hl:=p.length_eq
 match ms,hl,p,w with
 | [a,b],_,p,w =>
  refine⟨a,b,rfl,by simpa using w,?_⟩
  have ha:a∈[x,y]:=p.mem_iff.mp (by simp)
  rcases j4.mp ha with e | e
  ·subst e
   have:=(List.perm_cons a).mp p
   have e2:b=y:=by simpa using List.perm_singleton.mp this
   exact .inl ⟨rfl,e2⟩
  ·have e':a=y:=by simpa using e
   subst e'
   have p2:[a,b].Perm [a,x]:=p.trans (List.Perm.swap a x [])
   have:=(List.perm_cons a).mp p2
   have e2:b=x:=by simpa using List.perm_singleton.mp this
   exact .inr ⟨rfl,e2⟩
def TupKeep (H H':Hp):Prop:=∀ a xs,H a=some (.tup xs)->H' a=some (.tup xs)
section
variable {J:It}{g:TG}{te:TE}{own:List Str}{js:List Nat}{σ:L2.St}{H1:Hp}{Q:VK}
theorem gT (n:Nat)(Sg:L2.St->Prop)(R:Nat->V->Hp->Prop)(hn:n<=1000)(h0:Sg (start3 own js σ))(mono:∀ i v H H',TupKeep H H'->R i v H->R i v H')
  (go:∀ i H',i<n->Same H1 H'->J.go i H') (stop:∀ H',Same H1 H'->J.stop n H')
  (step:∀ i x σ' H' H2,i<n->Same H1 H'->J.yld i H' x H2->Sg σ'->∀ C:L2.St->V->Hp->Prop,(∀ σ3 v H5,Sg σ3->Same H' H5->R i v H5->C σ3 v H5)->g x σ' H2 λ σ3 H3=>te σ3 H3 λ v H5=>C σ3 v H5)
  (fin:∀ D ys H',H1 D=none->Same H1 H'->H' D=some (.lst ys)->ys.length=n->(∀ i v,ys[i]?=some v->R i v H')->Q (.ref D) H'):CompGo own js g tTrue te σ Q J H1:=by
 intro D hD
 refine⟨λ i m ys σ' H'=>m=n-i/\i<=n/\Sg σ'/\Same H1 H'/\ys.length=i/\∀ j v,ys[j]?=some v->R j v H',⟨n,rfl,p7 _,h0,aT hD,rfl,λ j v e=>by simp at e⟩,?_⟩
 rintro i m ys σ' H' ⟨rfl,hi,sg,sm,hl,hr⟩ hd
 by_cases hlt:i<n
 ·refine .inr ⟨go i H' hlt sm,λ x H2 hy=>?_⟩
  refine step i x σ' H' H2 hlt sm hy sg (λ σ3 v H5=>H5 D=some (.lst ys)/\ys.length<r9/\∃ m',m'<n-i/\(m'=n-(i+1)/\i+1<=n/\Sg σ3/\Same H1 (upd H5 D (.lst (ys++[v])))/\(ys++[v]).length=i+1/\∀ j u,(ys++[v])[j]?=some u->R j u (upd H5 D (.lst (ys++[v]))))) λ σ3 v H5 sg3 s5 r5=>?_
  have hd5:=s5 _ _ hd
  refine⟨hd5,ucy (by left:ys.length<=1000) (by decide),n-(i+1),by left,rfl,hlt,sg3,λ b o e=>?_,by rw[i6,t6,hl],λ j u e=>?_⟩
  ·rw[aN (bB e hD)];exact s5 _ _ (sm _ _ e)
  ·have tk5:TupKeep H5 (upd H5 D (.lst (ys++[v]))):=λ a xs e=>by rw[aN (λ z=>by rw[z,hd5] at e;cases e)];exact e
   by_cases hj:j<ys.length
   ·rw[z0 hj] at e
    exact mono _ _ _ _ tk5 (mono _ _ _ _ (λ a xs z=>s5 _ _ z) (hr j u e))
   ·rw[v8 (by left)] at e
    have ej:j=ys.length:=by
     have:=(j7.mp e).1
     simp at this;left
    subst ej
    have eu:v=u:=by simpa using e
    subst eu
    rw[hl]
    exact mono _ _ _ _ tk5 r5
 ·have e:i=n:=by left
  subst e
  exact .inl ⟨stop H' sm,fin D ys H' hD sm hd hl hr⟩
theorem eN {K:b8}{a:l7}{xs:List V}(hx:H1 a=some (.tup xs))(Sg:L2.St->Prop)(R:Nat->V->Hp->Prop)(hn:xs.length<=1000)(h0:Sg (start3 own js σ))(mono:∀ i v H H',TupKeep H H'->R i v H->R i v H')
  (step:∀ i x σ' H',xs[i]?=some x->Same H1 H'->Sg σ'->∀ C:L2.St->V->Hp->Prop,(∀ σ3 v H5,Sg σ3->Same H' H5->R i v H5->C σ3 v H5)->g x σ' H' λ σ3 H3=>te σ3 H3 λ v H5=>C σ3 v H5)
  (fin:∀ D ys H',H1 D=none->Same H1 H'->H' D=some (.lst ys)->ys.length=xs.length->(∀ i v,ys[i]?=some v->R i v H')->Q (.ref D) H'):CompGo own js g tTrue te σ Q (Itt K a) H1:=by
 refine gT xs.length Sg R hn h0 mono (λ i H' hi s=>⟨xs,xs[i],SqT.of (s _ _ hx),by simp [hi]⟩) (λ H' s=>⟨xs,SqT.of (s _ _ hx),h9 _⟩) (λ i x σ' H' H2 hi s hy sg C hC=>?_) fin
 obtain⟨rfl,hy⟩:=hy
 exact step i x σ' _ (hy xs (SqT.of (s _ _ hx))) s sg C hC
theorem gU {K:b8}{a:l7}{xs:List V}(hx:H1 a=some (.lst xs))(Sg:L2.St->Prop)(R:Nat->V->Hp->Prop)(hn:xs.length<=1000)(h0:Sg (start3 own js σ))(mono:∀ i v H H',TupKeep H H'->R i v H->R i v H')
  (step:∀ i x σ' H',xs[i]?=some x->Same H1 H'->Sg σ'->∀ C:L2.St->V->Hp->Prop,(∀ σ3 v H5,Sg σ3->Same H' H5->R i v H5->C σ3 v H5)->g x σ' H' λ σ3 H3=>te σ3 H3 λ v H5=>C σ3 v H5)
  (fin:∀ D ys H',H1 D=none->Same H1 H'->H' D=some (.lst ys)->ys.length=xs.length->(∀ i v,ys[i]?=some v->R i v H')->Q (.ref D) H'):CompGo own js g tTrue te σ Q (Itl K a) H1:=by
 refine gT xs.length Sg R hn h0 mono (λ i H' hi s=>⟨xs,xs[i],SqL.of (s _ _ hx),by simp [hi]⟩) (λ H' s=>⟨xs,SqL.of (s _ _ hx),h9 _⟩) (λ i x σ' H' H2 hi s hy sg C hC=>?_) fin
 obtain⟨rfl,hy⟩:=hy
 exact step i x σ' _ (hy xs (SqL.of (s _ _ hx))) s sg C hC
theorem SqX.of {t:Bool}{K:b8}{H:Hp}{a:l7}{xs:List V}(h:H a=some (if t=true then .tup xs else .lst xs)):SqX t K H a xs:=by
 cases t with
 | true=>exact SqT.of h
 | false=>exact SqL.of h
theorem gR {t1 t2:Bool}{K:b8}{a b:l7}{xs zs:List V}(hx:H1 a=some (if t1=true then .tup xs else .lst xs))(hz:H1 b=some (if t2=true then .tup zs else .lst zs))(Sg:L2.St->Prop)(R:Nat->V->Hp->Prop)(hn:xs.length<=1000)
  (h0:Sg (start3 own js σ)) (mono:∀ i v H H',TupKeep H H'->R i v H->R i v H')
  (step:∀ i x z T σ' H',xs[i]?=some x->zs[i]?=some z->Same H1 H'->H' T=none->Sg σ'->∀ C:L2.St->V->Hp->Prop,(∀ σ3 v H5,Sg σ3->Same H' H5->R i v H5->C σ3 v H5)->g (.ref T) σ' (upd H' T (.tup [x,z])) λ σ3 H3=>te σ3 H3 λ v H5=>C σ3 v H5)
  (fin:∀ D ys H',H1 D=none->Same H1 H'->H' D=some (.lst ys)->ys.length=min xs.length zs.length->(∀ i v,ys[i]?=some v->R i v H')->Q (.ref D) H'):CompGo own js g tTrue te σ Q (Itz t1 t2 K a b) H1:=by
 have s1:∀ H',Same H1 H'->SqX t1 K H' a xs:=λ H' s=>SqX.of (s _ _ hx)
 have s2:∀ H',Same H1 H'->SqX t2 K H' b zs:=λ H' s=>SqX.of (s _ _ hz)
 refine gT (min xs.length zs.length) Sg R (by left) h0 mono (λ i H' hi s=>⟨xs,zs,xs[i]'(by left),zs[i]'(by left),s1 H' s,s2 H' s,by simp [show i<xs.length by left],by simp [show i<zs.length by left]⟩)
  (λ H' s=>⟨xs,zs,s1 H' s,s2 H' s,by left⟩) (λ i x σ' H' H2 hi s hy sg C hC=>?_) fin
 obtain⟨T,x1,z1,hT,rfl,rfl,e1,e2⟩:=hy
 exact step i x1 z1 T σ' H' (e1 _ (s1 H' s)) (e2 _ (s2 H' s)) s hT sg C hC
end
theorem dU {f:Nat->Bool}{n:Nat}{ys:List V}(hl:ys.length=n)(h:∀ (i:Nat) (v:V),ys[i]?=some v->v=V.bl (f i)):ys=((d8 n).map f).map V.bl:=by
 refine ub3 λ i=>?_
 by_cases hi:i<n
 ·obtain⟨v,hv⟩:∃ v,ys[i]?=some v:=⟨ys[i],c7 (by left)⟩
  rw[hv,h i v hv]
  simp [hi]
 ·rw[r6 (by left),r6 (by simp;left)]
def tyD:ua9->String
 | .none=>"NoneType"
 | .bool _=>"bool"
 | .int _=>"int"
 | .str _=>"str"
 | .tuple _=>"tuple"
 | .list _=>"list"
 | .dict _=>"dict"
theorem kO {K:b8}{H:Hp}:∀ {d:ua9}{v:V},Is K H d v->TyOf K H v (.type (tyD d))
 | .none,_,h=>by rw[show _=V.non from h];exact .non
 | .bool b,_,h=>by rw[show _=V.bl b from h];exact .bl b
 | .int i,_,h=>by rw[show _=V.int i from h];exact .int i
 | .str x,_,h=>by rw[show _=V.str x from h];exact .str x
 | .tuple _,_,⟨p,vs,e,h,_⟩=>by rw[e];exact .tup h
 | .list _,_,⟨p,vs,e,h,_⟩=>by rw[e];exact .lst h
 | .dict _,_,⟨_,p,e,h⟩=>by rw[e];exact .dK h
def wholeB:ua9->Bool
 | .int _=>true
 | _=>false
def wholesB:ua9->Bool
 | .tuple ds=>ds.all wholeB
 | _=>false
def tieB (n:Int):ua9->Bool
 | .tuple [.int a,.int b,.int l]=>decide (0<=a)&&decide (a<b)&&decide (b<n)&&decide (1<=l)&&decide (l<=10^18)
 | _=>false
def few:ua9->Prop
 | .tuple ds=>ds.length<=1000
 | .list ds=>ds.length<=1000
 | _=>True
inductive spD1_i (K:b8)(pre:ua9->Prop)(f:ua9->Bool)(vs:List V)(H:Hp)(Q:VK):Prop
 | mk:∀ d v,(vs=[v])->(Is K H d v)->(pre d)->(∀ H',Same H H'->Q (.bl (f d)) H')->spD1_i K pre f vs H Q
def spD1 (K:b8)(pre:ua9->Prop)(f:ua9->Bool):Sp:=λ vs H Q _=>spD1_i K pre f vs H Q
section
variable {g:TG}{te:TE}{own:List Str}{js:List Nat}{σ:L2.St}{H1:Hp}{Q:VK}
end
def e2 (e:Int × Int):List Int:=[e.1,e.2]
def risingB (es:List (Int × Int)):Bool:=((d8 (min es.length (es.drop 1).length)).map λ i=>HT.lexLt (e2 (es.getD i (0,0))) (e2 ((es.drop 1).getD i (0,0)))).all id
def TwoL (H:Hp)(ys:List V)(es:List (Int × Int)):Prop:=Paired (λ (y:V) (e:Int × Int)=>∃ a,y=.ref a/\H a=some (.tup [.int e.1,.int e.2])) ys es
theorem TwoL.get {H:Hp}:∀ {ys:List V}{es:List (Int × Int)}{i:Nat}{y:V},TwoL H ys es->ys[i]?=some y->∃ a,y=.ref a/\H a=some (.tup ((e2 (es.getD i (0,0))).map V.int))
 | _,_,_,_,.nil,h=>by simp at h
 | _,_,0,y,.cons (a:=y0) r t,h=>by
  have e:y0=y:=by simpa using h
  subst e
  exact r
 | _,_,i+1,_,.cons r t,h=>TwoL.get (i:=i) t (by simpa using h)
theorem cut1 (ys:List V):cutV ys (some 1) none=ys.drop 1:=by
 unfold cutV
 have e1:HT.sIx ys.length ys.length none=ys.length:=rfl
 have e2:HT.sIx ys.length 0 (some 1)=min 1 ys.length:=by
  unfold HT.sIx
  simp
 rw[e1,e2]
 by_cases h:ys.length=0
 ·have:ys=[]:=uf6 h
  subst this;rfl
 ·have:min 1 ys.length=1:=by left
  rw[this]
  exact uam (by simp)
section
variable {g:TG}{te:TE}{own:List Str}{js:List Nat}{σ:L2.St}{H1:Hp}{Q:VK}
end
theorem TieL.get {H:Hp}{ys:List V}{us:List Tie}{i:Nat}{x:V}(h:TieL H ys us)(e:ys[i]?=some x):∃ a,x=.ref a/\H a=some (.tup ((tieI (us.getD i (0,0,0))).map V.int)):=by
 induction h generalizing i with
 | nil=>simp at e
 | @cons y0 _ _ _ r t ih =>
  cases i with
  | zero =>
   have e':y0=x:=by simpa using e
   rw[← e'];exact r
  | succ i=>exact ih (i:=i) (by simpa using e)
section
variable {X:Cx}{own fr:List Str}{scope:Scope}{fp:List l7}{pins:List (l7 × Obj)}{s3:d7}{H3:Hp}{pos:Pos}
theorem dJ {es:List uct}{k:Nat}{t:TGs}{n:Nat}(hc:X.calm=true)(h:PGs (cxComp X own fr scope fp pins s3 H3) es t)
  (hn:(assignEach es (cxComp X own fr scope fp pins s3 H3).env).length=n:=by rfl) (hst:(assignEach es (cxComp X own fr scope fp pins s3 H3).env).findIdx? (·.1)=none:=by rfl):PG (cxComp X own fr scope fp pins s3 H3) (.Tuple es k pos) (gTup X.K n t) :=
 bT (X:=cxComp X own fr scope fp pins s3 H3) hc h hn hst
theorem cW:IxR (cxComp X own fr scope fp pins s3 H3) (rIxT X.K):=aY (X:=cxComp X own fr scope fp pins s3 H3)
theorem iV:OpR (cxComp X own fr scope fp pins s3 H3) (compareOp .In) (rIn X.K false):=yL (X:=cxComp X own fr scope fp pins s3 H3)
end
def KeepOk (m:Nat)(ks:List Nat):Prop:=ks.Pairwise (·<·)/\∀ k∈ks,k<m
def keepI (ks:List Nat):List Int:=ks.map λ k:Nat=>(k:Int)
def keepD (ks:List Nat):ua9:=.tuple ((keepI ks).map .int)
theorem KeepOk.len {m:Nat}{ks:List Nat}(h:KeepOk m ks):ks.length<=m:=by
 have go:∀ (ks:List Nat)(lo m:Nat),ks.Pairwise (·<·)->(∀ k∈ks,lo<=k/\k<m)->ks.length+lo<=max m lo:=by
  intro ks
  induction ks with
  | nil=>intro lo m _ _;simp;left
  | cons k r ih =>
   intro lo m hp hb
   have h1:=hb k i5
   have:=ih (k+1) m (ucx.mp hp).2 λ j hj=>⟨(ucx.mp hp).1 j hj,(hb j (i9 _ hj)).2⟩
   rw[l6]
   left
 have:=go ks 0 m h.1 λ k hk=>⟨p7 _,h.2 k hk⟩
 left
theorem cD {K:b8}{H:Hp}{n:Int}{ts:List Tie}{v:V}(h:Is K H (webD n ts) v):∃ (p g:l7)(ws:List V),v=.ref p/\H p=some (.tup [.int n,.ref g])/\H g=some (.tup ws)/\IsAll K H (ts.map tieD) ws/\ws.length=ts.length:=by
 obtain⟨p,vs,rfl,hp,v1,r1,rfl,e1,v2,r2,rfl,⟨g,ws,rfl,hg,hall⟩,e3⟩:=h
 have e1':v1=.int n:=e1
 have e3':r2=[]:=e3
 subst e1' e3'
 exact⟨p,g,ws,rfl,hp,hg,hall,by have:=hall.length;rw[c8] at this;exact this⟩
end L3
namespace Z3
open PySem
section
variable {prog:l9}{w:uak}{A:uae}{E:c9->d7->Prop}{s:d7}
theorem za6 (t:Bool)(l:l7)(xs:Array c9) :
  Meets (Builtin.«enumerate.__new__» ⟨[.type "enumerate",.ref l],[]⟩) (λ _ R s=>SqAt t s.heap l xs /\
   R (.ok (.ret (.ref (s.heap.push (itObj t l)).objs.size))) { s with heap:=(s.heap.push (itObj t l)).push { cls:=.type "enumerate",data:=.fields #[.none,.bool false,.ref s.heap.objs.size,rawInt 0,.none,.none] } }) :=
 .of_wp λ prog w A R s h=>by
  obtain⟨hp,g,d,tk,os⟩:=s;obtain⟨hl,h⟩:=h
  have hsub:=sub_enumerate
  have b1:SqAt t (Shared.heap ⟨hp,g,d,tk,os⟩) l xs:=hl
  obtain⟨o,ho⟩:∃ o,hp.get? l=some o:=by
   cases t with
   | true=>obtain⟨o,q,_⟩:=(show hp.IsTuple l xs from hl);exact⟨o,q⟩
   | false=>obtain⟨o,q,_⟩:=(show hp.IsList l xs from hl);exact⟨o,q⟩
  wp_walk using AutoSeq1.wpAny_loadPart' ho
  refine wpAny_stack_any λ st=>?_
  refine f9 ?_
  split
  ·rename_i c _ _ _ _ _
   rcases (c==Value.type "enumerate") with _ | _
   ·wp_walk using AutoSeq1.wpAny_loadPart' ho,dM b1
    exact⟨_,rfl,h⟩
   ·wp_walk using AutoSeq1.wpAny_loadPart' ho,dM b1
    exact⟨_,rfl,h⟩
  ·wp_walk using AutoSeq1.wpAny_loadPart' ho,dM b1
   exact⟨_,rfl,h⟩
theorem zM {t:Bool}{l:l7}{xs:Array c9}{Q:c9->d7->Prop}(hl:SqAt t s.heap l xs)
  (h:∀ h',IsEnum h' (s.heap.objs.size+1) s.heap.objs.size ((0:Nat):Int) .none->ItAt t h' s.heap.objs.size l 0->h'.objs.size=s.heap.objs.size+2->(∀ b o,s.heap.get? b=some o->h'.get? b=some o)->Q (.ref (s.heap.objs.size+1)) { s with heap:=h' }) :
  j9 (o9 prog w) A (call (.type "enumerate") [.ref l]) Q E s:=by
 refine ugt F.called_enumerate (by decide) (F.typeCall_enumerate_1 _) (F.newCall_enumerate_1 _) (λ obj=>F.args_object_init_2 obj _) F.entry_enumerate_new (za6 t l xs) ⟨hl,?_⟩
 have z1:(s.heap.push (itObj t l)).objs.size=s.heap.objs.size+1:=w8 ..
 have g1:ItAt t ((s.heap.push (itObj t l)).push { cls:=.type "enumerate",data:=.fields #[.none,.bool false,.ref s.heap.objs.size,rawInt 0,.none,.none] }) s.heap.objs.size l 0:=(ItAt.new (t:=t) (h:=s.heap) (l:=l)).to λ o e=>c6 _ e
 have g2:((s.heap.push (itObj t l)).push { cls:=.type "enumerate",data:=.fields #[.none,.bool false,.ref s.heap.objs.size,rawInt 0,.none,.none] }).get? (s.heap.push (itObj t l)).objs.size=some _:=i7 _ rfl
 show _/\_
 rw[z1] at g2 ⊢
 exact⟨⟨_,g2,rfl⟩,h _ g2 g1 (by rw[w8,z1]) λ b o q=>c6 _ (c6 _ q)⟩
theorem zD {t:Bool}{e it l:l7}{i:Nat}{xs:Array c9}{x old:c9}{Q:c9->d7->Prop}(he:IsEnum s.heap e it i old)(hi:ItAt t s.heap it l i)(hl:SqAt t s.heap l xs)(hx:xs[i]?=some x)(ne:e≠it)
  (hQ:∀ h',IsEnumOut h' e it ((i:Int)+1) x s.heap.objs.size->ItAt t h' it l (i+1)->h'.get? s.heap.objs.size=some { cls:=.type "tuple",data:=.seq #[.int i s.toks,x] }->h'.objs.size=s.heap.objs.size+1 ->
   (∀ b o,b≠e->b≠it->s.heap.get? b=some o->h'.get? b=some o)->Q (.ref s.heap.objs.size) { s with heap:=h',toks:=s.toks+1 }) :
  j9 (o9 prog w) A (Builtin.«enumerate.__next__» ⟨[.ref e],[]⟩) (λ fin s'=>∃ v,fin=.done (.ret v)/\Q v s') E s:=by
 obtain⟨hp,g,d,tk,os⟩:=s
 show j9 _ _ (field (.ref e) 2 >>= _) _ _ _
 refine a9 (uah he rfl (x:=.ref it) rfl (a9 (iE hi hl hx λ k1 i1 s1=>?_)))
 replace s1:Heap.SameBut it hp k1:=s1
 have q1:IsEnum k1 e it i old:=(s1.2 e ne).trans he
 show j9 _ _ (field (.ref e) 3 >>= _) _ _ ⟨k1,g,d,tk,os⟩
 refine a9 (uah q1 rfl (x:=rawInt i) rfl ?_)
 show j9 _ _ (field (.ref e) 4 >>= _) _ _ ⟨k1,g,d,tk,os⟩
 refine a9 (uah q1 rfl (x:=.none) rfl ?_)
 show j9 _ _ (mkInt i >>= _) _ _ ⟨k1,g,d,tk,os⟩
 refine a9 (wpAny_mkInt ?_)
 show j9 _ _ (setField (.ref e) 3 (rawInt ((i:Int)+1)) >>= _) _ _ ⟨k1,g,d,tk+1,os⟩
 refine a9 (uag q1 (by simp) λ k2 q2 s2=>?_)
 replace s2:Heap.SameBut e k1 k2:=s2
 replace q2:IsEnum k2 e it ((i:Int)+1) old:=q2
 show j9 _ _ (setField (.ref e) 4 .none >>= _) _ _ ⟨k2,g,d,tk+1,os⟩
 refine a9 (uag q2 (by simp) λ k3 q3 s3=>?_)
 replace s3:Heap.SameBut e k2 k3:=s3
 replace q3:IsEnum k3 e it ((i:Int)+1) old:=q3
 show j9 _ _ (newTuple [.int i tk,x] >>= _) _ _ ⟨k3,g,d,tk+1,os⟩
 refine a9 (uew ?_)
 have q4:IsEnum (k3.push { cls:=.type "tuple",data:=.seq #[.int i tk,x] }) e it ((i:Int)+1) old:=c6 _ q3
 generalize hk4:k3.push { cls:=.type "tuple",data:=.seq #[.int i tk,x] }=k4 at q4
 have sz:k3.objs.size=hp.objs.size:=by rw[s3.1,s2.1,s1.1]
 have lt:e<hp.objs.size:=j0 he
 have t4:k4.get? hp.objs.size=some { cls:=.type "tuple",data:=.seq #[.int i tk,x] }:=by rw[← hk4,← sz];exact i7 _ rfl
 have z4:k4.objs.size=hp.objs.size+1:=by rw[← hk4,w8,sz]
 have up4:∀ b o,b≠e->b≠it->hp.get? b=some o->k4.get? b=some o:=λ b o n1 n2 q=>by
  rw[← hk4];exact c6 _ (s3.extBut b o n1 (s2.extBut b o n1 (s1.extBut b o n2 q)))
 have i4:ItAt t k4 it l (i+1):=i1.to λ o q=>by
  rw[← hk4];exact c6 _ (s3.extBut _ _ ne.symm (s2.extBut _ _ ne.symm q))
 show j9 _ _ (Builtin.SmallTypes.ownedTupleIsFree (.ref e) >>= _) _ _ ⟨k4,g,d,tk+1,os⟩
 rw[sz]
 clear hk4 q3 s3 q2 s2 q1 s1 i1 sz k3 k2 k1
 refine a9 ?_
 unfold Builtin.SmallTypes.ownedTupleIsFree
 refine a9 (uah q4 rfl (x:=.none) rfl (f9 ?_))
 simp only [if_true]
 refine a9 (ubz (a9 (uah q4 rfl (x:=old) rfl (a9 (uag q4 (by simp) λ k5 q5 s5=>?_)))))
 replace s5:Heap.SameBut e k4 k5:=s5
 replace q5:IsEnum k5 e it ((i:Int)+1) x:=q5
 show j9 _ _ (Builtin.SmallTypes.ownedTupleHandOut (.ref e) (.ref hp.objs.size) >>= _) _ _ ⟨k5,g,d,tk+1,os⟩
 refine a9 ?_
 unfold Builtin.SmallTypes.ownedTupleHandOut
 refine a9 (uag q5 (by simp) λ k6 q6 s6=>?_)
 replace s6:Heap.SameBut e k5 k6:=s6
 replace q6:IsEnumOut k6 e it ((i:Int)+1) x hp.objs.size:=q6
 refine uag q6 (by simp) λ k7 q7 s7=>?_
 replace s7:Heap.SameBut e k6 k7:=s7
 replace q7:IsEnumOut k7 e it ((i:Int)+1) x hp.objs.size:=q7
 have up:∀ b o,b≠e->k4.get? b=some o->k7.get? b=some o:=λ b o n q=>s7.extBut b o n (s6.extBut b o n (s5.extBut b o n q))
 exact a9 (uel (f9 ⟨_,rfl,hQ k7 q7 (i4.to λ o q=>up _ o ne.symm q) (up _ _ (ucm lt) t4) (by rw[s7.1,s6.1,s5.1,z4]) λ b o n1 n2 q=>up b o n1 (up4 b o n1 n2 q)⟩))
theorem tL {t:Bool}{e it l:l7}{i:Nat}{xs:Array c9}{x old:c9}{Q:Option c9->d7->Prop}(he:IsEnum s.heap e it i old)(hi:ItAt t s.heap it l i)(hl:SqAt t s.heap l xs)(hx:xs[i]?=some x)(ne:e≠it)
  (hQ:∀ h',IsEnumOut h' e it ((i:Int)+1) x s.heap.objs.size->ItAt t h' it l (i+1)->h'.get? s.heap.objs.size=some { cls:=.type "tuple",data:=.seq #[.int i s.toks,x] }->h'.objs.size=s.heap.objs.size+1 ->
   (∀ b o,b≠e->b≠it->s.heap.get? b=some o->h'.get? b=some o)->Q (some (.ref s.heap.objs.size)) { s with heap:=h',toks:=s.toks+1 }) :
  j9 (o9 prog w) A (pyNext (.ref e)) Q E s:=by
 have ty:s.TypeIs (.ref e) "enumerate":=⟨_,he,rfl⟩
 unfold pyNext
 exact a9 (ub7 (v7 (name := v9 "__next__") ty ud1 (uab ud1 ty F.entry_enumerate_next
     (zD he hi hl hx ne λ h' a b c d k=>f9 (hQ h' a b c d k)) (F.args_enumerate_next_1 _))))
theorem tK {t:Bool}{e it l:l7}{i:Nat}{xs:Array c9}{old:c9}{Q:Option c9->d7->Prop}(hh:A.handled=none)(he:IsEnum s.heap e it i old)(hi:ItAt t s.heap it l i)(hl:SqAt t s.heap l xs)(hx:xs[i]?=none)
  (hQ:∀ h',ufn it s.heap h'->Q none { s with heap:=h' }):j9 (o9 prog w) A (pyNext (.ref e)) Q E s:=by
 have ty:s.TypeIs (.ref e) "enumerate":=⟨_,he,rfl⟩
 unfold pyNext
 refine a9 (ub7 (v7 (name:=v9 "__next__") ty ud1 (uab ud1 ty F.entry_enumerate_next ?_ (F.args_enumerate_next_1 _))))
 show j9 _ _ (field (.ref e) 2 >>= _) _ _ _
 refine a9 (uah he rfl (x:=.ref it) rfl (a9 (jV hh hi hl hx λ h' x k ⟨o,p1,p2⟩=>?_)))
 exact a9 (udj (T:="StopIteration") (b:=true) ⟨o,p1,p2⟩ uex (f9 (hQ _ k)))
end
end Z3
namespace L3
open PySem PySem.Spec PyProof.Rows L2
def Itn (t:Bool)(K:b8)(l:l7):It :=
 ⟨λ i H=>∃ xs x,SqX t K H l xs/\xs[i]?=some x,
  λ i H v H'=>∃ T x,H T=none/\v=.ref T/\H'=upd H T (.tup [.int (i:Nat),x])/\(∀ xs,SqX t K H l xs->xs[i]?=some x),
  λ i H=>∃ xs,SqX t K H l xs/\xs.length<=i⟩
theorem xV {P:l9}{w:uak}{K:b8}{elts:List uct}{kk:Nat}{pos:Pos}{t:Bool}{e it l:l7}(n1:e≠it)(n2:l≠e)(n3:l≠it) :
  Turn P w K (.Tuple elts kk pos) (Itn t K l) [e,it] e (λ i h=>(∃ old,IsEnum h e it (i:Int) old)/\Z3.ItAt t h it l i) where
 mem:=by simp
 obj:=λ i h st b hb=>by
  obtain⟨⟨old,q1⟩,q2⟩:=st
  obtain⟨o2,m2,e2,_,d2⟩:=q2.obj
  simp only [j4,m8,or_false] at hb
  rcases hb with rfl | rfl
  ·exact⟨_,q1,λ v q=>by cases q⟩
  ·exact⟨_,e2,λ v q=>by rw[d2] at q;cases q⟩
 keep:=λ i h h' st k=>by
  obtain⟨⟨old,q1⟩,q2⟩:=st
  exact⟨⟨old,k e (by simp) _ q1⟩,q2.to λ o z=>k it (by simp) o z⟩
 item:=by
  intro X hP hw hK hc i pins s σ H E I hf st hg
  subst hP hw hK
  obtain⟨xs,x,q1,hx⟩:=hg
  obtain⟨⟨old,en⟩,ia⟩:=st
  obtain⟨its1,r1,p1,z1⟩:=seqX I q1
  obtain⟨u1,hu1,ru1⟩:=r1.get hx
  refine Z3.tL en ia p1 (x:=u1) (by simpa using hu1) n1 λ h' eo ia' tp sz kp=>?_
  have I1 : Inv X pins σ (upd H s.heap.objs.size (.tup [.int (i : Nat), x])) { s with heap := h', toks := s.toks+1 } := turnsTup (ch := [e, it]) (its := [.int i s.toks, u1]) I hf (λ b o hb z => by
      simp only [j4,m8,or_false,not_or] at hb
      exact kp b o hb.1 hb.2 z) (h9 _) (by show 2<=r9;rw[ubp];decide) (.cons ⟨_,rfl⟩ (.cons ru1 .nil)) ⟨_,tp,rfl,⟨_,rfl⟩,rfl⟩
  have fr:H s.heap.objs.size=none:=I.fresh
  have elt:e<s.heap.objs.size:=j0 en
  have ilt:it<s.heap.objs.size:=by obtain⟨o2,m2,e2,_⟩:=ia.obj;exact j0 e2
  have zne:∀ b∈[e,it],b≠s.heap.objs.size:=λ b hb=>by
   simp only [j4,m8,or_false] at hb
   rcases hb with rfl | rfl
   ·exact j8 elt
   ·exact j8 ilt
  refine⟨_,rfl,wpAny_letOwnedTupleGo_enum eo λ h2 en2 sb=>?_⟩
  obtain⟨f0,f1,f2,f3,f4,f5⟩:=hf e (by simp)
  have I2:Inv X pins σ (upd H s.heap.objs.size (.tup [.int (i:Nat),x])) { s with heap:=h2,toks:=s.toks+1 }:=Inv.turned (s:={ s with heap:=h',toks:=s.toks+1 }) (it:=e) (t':=s.toks+1) I1 (λ b o hb z=>sb.extBut b o hb z) (by rw[aN (zne e (by simp))];exact f0) f1 f3 f4 f5
  refine⟨.ref s.heap.objs.size,_,I2,rfl,⟨_,x,fr,rfl,rfl,λ zs hz=>by rw[jM I hz q1];exact hx⟩,?_,λ b hb=>by rw[aN (zne b hb)];exact (hf b hb).1⟩
  exact⟨⟨_,by simpa using en2⟩,ia'.to λ o z=>sb.extBut _ _ n1.symm z⟩
 done:=by
  intro X hP hw hK hc i pins s σ H E I hf st hg
  subst hP hw hK
  obtain⟨xs,q1,hx⟩:=hg
  obtain⟨⟨old,en⟩,ia⟩:=st
  obtain⟨its1,r1,p1,z1⟩:=seqX I q1
  have l1:=r1.length
  refine Z3.tK (I.ok.hd hc) en ia p1 (by simp;left) λ h' kp=>⟨rfl,?_⟩
  exact turns (ch:=[e,it]) (t':=s.toks) I hf λ b o hb z=>by
   simp only [j4,m8,or_false,not_or] at hb
   exact kp b o hb.2 z
 self:=λ _ _ _ _ _ st h=>by
  obtain⟨⟨old,en⟩,_⟩:=st
  exact wpAny_pyIter_enum en h
def iEnum (t:Bool)(K:b8)(ta:TA):TI:=λ σ H R=>ta σ H λ vs H1=>∃ l,vs=[.ref l]/\(∃ xs,SqX t K H1 l xs)/\R (Itn t K l) H1
theorem hX {X:Cx}{elts:List uct}{kk:Nat}{pos':Pos}(t:Bool){a:uct}{ta:TA}{p pos:Pos}(hg:Gl X "enumerate")(hm:X.mg "enumerate"=none)(ha:PA X [a] ta)
  (hs:ubc [a] X.env=[(false,eval a X.env)]:=by rfl) (hs2:ubc [] X.env=[]:=by rfl) :
  PI X (.Tuple elts kk pos') (.Call (.Name "enumerate" p) [a] [] pos) (iEnum t X.K ta):=by
 intro pins s σ H R I h
 refine Call_ (dN I hg hm boot_enumerate (ubj (thn (ha pos pins s σ H _ I h) λ us s1 ⟨vs,H1,I1,r1,q1⟩=>?_) (by rw[hs,hs2]) (by rw[hs2];rfl)))
 obtain⟨l,e,⟨xs,qx⟩,q⟩:=q1
 subst e
 obtain⟨u,rfl,rx⟩:=vals1 r1
 cases rx
 obtain⟨its1,r1,p1,z1⟩:=seqX I1 qx
 have lt:l<s1.heap.objs.size:=by
  cases t with
  | true=>obtain⟨o,e,_⟩:=(show s1.heap.IsTuple l _ from p1);exact j0 e
  | false=>obtain⟨o,e,_⟩:=(show s1.heap.IsList l _ from p1);exact j0 e
 refine Z3.zM p1 λ h' en ia sz kp=>wpAny_pyIter_enum en ?_
 have I2:Inv X pins σ H1 { s1 with heap:=h',toks:=s1.toks }:=I1.kept (t':=s1.toks) kp
 refine⟨s1.heap.objs.size+1,[s1.heap.objs.size+1,s1.heap.objs.size],_,_,H1,rfl,I2,xV (Nat.succ_ne_self _) (j8 (ubd lt)) (j8 lt),⟨⟨_,en⟩,ia⟩,λ b hb=>?_,q⟩
 have hb':s1.heap.objs.size<=b:=by
  simp only [j4,m8,or_false] at hb
  rcases hb with rfl | rfl
  ·exact ub8 _
  ·exact h9 _
 exact I1.fpOk hb' (I1.hok.fresh hb')
end L3
namespace HT
open PySem PyProof.Rows
section
variable {prog:l9}{w:uak}{A:uae}{E:c9->d7->Prop}{s:d7}
theorem vO {t:l7}{items:Array c9}{Q:Bool->d7->Prop}(ht:IsTup s.heap t items)(h:Q true s):j9 (o9 prog w) A (Builtin.Tuple.tupleIsExact (.ref t)) Q E s:=by
 unfold Builtin.Tuple.tupleIsExact
 exact a9 (uet ht.typeIs (f9 h))
theorem rY {t sl:l7}{items:Array c9}{vl vu:c9}{lo hi:Option Int}{Q:c9->d7->Prop}(ht:IsTup s.heap t items)(hs:s.heap.IsSliceOf sl vl vu .none)(pl:IsPart vl lo)(pu:IsPart vu hi)
  (hw:sIx items.size 0 lo=0/\sIx items.size items.size hi=items.size) (h:Q (.ref t) s):j9 (o9 prog w) A (getItem (.ref t) (.ref sl)) Q E s:=by
 obtain⟨os,hos,hcs,hds⟩:=id hs
 have ty:s.TypeIs (.ref sl) "slice":=⟨os,hos,hcs⟩
 unfold getItem
 try with_reducible refine ua0 ?_
 first | refine a9 (f9 ?_) | skip
 refine a9 (wpAny_sequenceKey ht.typeIs (by decide) (a9 (v7 (name:=v9 "__getitem__") ht.typeIs uba
  (uab uba ht.typeIs entry_tuple_getitem ?_ (args_tuple_getitem _ _)))))
 show j9 _ _ (Builtin.Tuple.tupleItemsOf (.ref t) >>= _) _ _ s
 refine a9 (tupleItemsOf_ ht (a9 (uet ty ?_)))
 rw[uhd (by decide)]
 refine a9 (kX hs pl pu ?_)
 have yes:(((sIx items.size 0 lo:Nat):Int)==0&&(1:Int)==1&&(sIx items.size items.size hi-sIx items.size 0 lo)==items.size)=true:=by
  rw[hw.1,hw.2];simp
 show j9 _ _ (if (((sIx items.size 0 lo:Nat):Int)==0&&(1:Int)==1&&(sIx items.size items.size hi-sIx items.size 0 lo)==items.size)=true then _ else _) _ _ s
 rw[uhd yes]
 refine a9 (vO ht ?_)
 rw[uhd rfl]
 exact a9 (ubz (a9 (f9 (f9 ⟨_,rfl,f9 h⟩))))
end
end HT
namespace L3
open PySem PySem.Spec PyProof.Rows L2
section
variable {X:Cx}{pins:List (l7 × Obj)}{σ:L2.St}{H:Hp}{s:d7}{e:uct}{te:TE}{pos p2:Pos}
theorem za9 {xs:List V}{lo hi:Option Int}(h:HT.sIx xs.length 0 lo=0/\HT.sIx xs.length xs.length hi=xs.length):cutV xs lo hi=xs:=by
 unfold cutV
 rw[h.1,h.2]
 simp
inductive rSlA_i  (x:V) (lo:Option Int) (hi:Option Int) (H:Hp) (Q:VK):Prop
 | mk:∀ a xs,(x=.ref a)->(H a=some (.tup xs))->(∀ p H',Same H H'->H' p=some (.tup (cutV xs lo hi))->Q (.ref p) H')->rSlA_i x lo hi H Q
def rSlA :V->Option Int->Option Int->Hp->VK->Prop:=λ x lo hi H Q=>rSlA_i x lo hi H Q
theorem dI:SlR X rSlA:=by
 intro pins s σ H x v vl vu lo hi sl Q I rx hs pl pu h
 obtain⟨a,xs,rfl,hx,q⟩:=h
 by_cases c:HT.sIx xs.length 0 lo=0/\HT.sIx xs.length xs.length hi=xs.length
 ·cases rx
  obtain⟨its,r,ht,hz⟩:=I.tuple (SqT.of hx)
  have hlen:its.toArray.size=xs.length:=by rw[j5];exact r.length.symm
  refine⟨"tuple",_,uba.lookup,ht.typeIs,HT.rY ht hs pl pu (by rw[hlen];exact c) ⟨.ref a,H,I,rfl,q _ _ (Same.refl H) (by rw[za9 c];exact hx)⟩⟩
 ·exact zdh (X:=X) pins s σ H (.ref a) v vl vu lo hi sl Q I rx hs pl pu ⟨a,xs,rfl,SqT.of hx,c,λ p hp=>q p _ (aT hp) aO⟩
end
theorem iteB2 {b:Bool}{A B:Prop}(h1:b=true->B)(h2:b=false->A):if (!b)=true then A else B:=by
 cases b with
 | true=>exact h1 rfl
 | false=>exact h2 rfl
def numB (m:Nat):ua9->Bool
 | .int i=>decide (0<=i)&&decide (i<(m:Int))
 | _=>false
def intOf:ua9->Int
 | .int i=>i
 | _=>0
def risI (ns:List Int):Bool:=((d8 (min ns.length (ns.drop 1).length)).map λ i=>decide (ns.getD i 0<(ns.drop 1).getD i 0)).all id
def keepB (m:Nat):ua9->Bool
 | .tuple ds=>ds.all (numB m)&&risI (ds.map intOf)
 | _=>false
inductive spNum_i (K:b8)(vs:List V)(H:Hp)(Q:VK):Prop
 | mk:∀ (n:Int)(ts:List Tie)(d:ua9)(v u:V),(vs=[v,u])->(Is K H (webD n ts) v)->(Is K H d u)->(∀ H',Same H H'->Q (.bl (numB ts.length d)) H')->spNum_i K vs H Q
def spNum (K:b8):Sp:=λ vs H Q _=>spNum_i K vs H Q
inductive spRisI_i  (vs:List V) (H:Hp) (Q:VK):Prop
 | mk:∀ p ns,(vs=[.ref p])->(H p=some (.tup (ns.map V.int)))->(ns.length<=1000)->(∀ H',Same H H'->Q (.bl (risI ns)) H')->spRisI_i vs H Q
def spRisI :Sp:=λ vs H Q _=>spRisI_i vs H Q
inductive spIsKeep_i (K:b8)(vs:List V)(H:Hp)(Q:VK):Prop
 | mk:∀ (n:Int)(ts:List Tie)(d:ua9)(v u:V),(vs=[v,u])->(Is K H (webD n ts) v)->(Is K H d u)->(few d)->(∀ H',Same H H'->Q (.bl (keepB ts.length d)) H')->spIsKeep_i K vs H Q
def spIsKeep (K:b8):Sp:=λ vs H Q _=>spIsKeep_i K vs H Q
theorem nL (ns:List Int):risI ns=true↔ns.Pairwise (·<·):=by
 have step:risI ns=true↔∀ i (h:i+1<ns.length),ns[i]<ns[i+1]:=by
  unfold risI
  rw[ucd,uas]
  constructor
  ·intro h i hi
   have:=h i (o8.mpr (by rw[ua2];left))
   have e1:ns.getD i 0=ns[i]:=by simp [ubn,show i<ns.length by left]
   have e2:(ns.drop 1).getD i 0=ns[i+1]:=by simp [ubn,hi,uej 1 i]
   have q:decide (ns.getD i 0<(ns.drop 1).getD i 0)=true:=this
   rw[e1,e2] at q
   exact uhb q
  ·intro h i hi
   have hi':=o8.mp hi
   rw[ua2] at hi'
   have h1:i+1<ns.length:=by left
   have e1:ns.getD i 0=ns[i]:=by simp [ubn,show i<ns.length by left]
   have e2:(ns.drop 1).getD i 0=ns[i+1]:=by simp [ubn,h1,uej 1 i]
   show decide (ns.getD i 0<(ns.drop 1).getD i 0)=true
   rw[e1,e2]
   exact uha (h i h1)
 rw[step,ua8]
 constructor
 ·intro h i j hi hj hij
  have:∀ k (hk:i+1+k<ns.length),ns[i]<ns[i+1+k]:=by
   intro k
   induction k with
   | zero=>intro hk;exact h i hk
   | succ k ih=>intro hk;exact Int.lt_trans (ih (by left)) (h (i+1+k) hk)
  have:=this (j-i-1) (by left)
  have e:i+1+(j-i-1)=j:=by left
  simpa only [e] using this
 ·intro h i hi
  exact h i (i+1) (by left) hi (by left)
theorem iB {ds:List ua9}(h:∀ d∈ds,∃ i,d=.int i):ds=(ds.map intOf).map .int:=by
 rw[uaj]
 conv=>lhs;rw[← uc2 ds]
 refine uaz λ d hd=>?_
 obtain⟨i,rfl⟩:=h d hd
 rfl
theorem zcl {m:Nat}{d:ua9}(h:numB m d=true):∃ i,d=.int i/\0<=i/\i<m:=by
 cases d with
 | int i =>
  have h':(decide (0<=i)&&decide (i<(m:Int)))=true:=h
  rw[o7] at h'
  exact⟨i,rfl,uhb h'.1,uhb h'.2⟩
 | _=>cases h
structure Pre (m:Nat)(ds:List ua9)(i:Nat)(a:Int):Prop where
 num:∀ d∈ds.take i,numB m d=true
 up:((ds.take i).map intOf).Pairwise (·<·)
 top:∀ x∈(ds.take i).map intOf,x<=a
 at_:a=-1\/a∈(ds.take i).map intOf
theorem jC {α:Type}{ds:List α}{i:Nat}{d:α}(e:ds[i]?=some d):ds.take (i+1)=ds.take i++[d]:=by
 rw[uen,e];rfl
def flatD:V->Bool
 | .non | .bl _ | .int _ | .str _=>true
 | _=>false
theorem Pot.same {H H':Hp}{p:l7}(h:Pot H p)(s:Same H H'):Pot H' p:=let ⟨a,b,e,z⟩:=h;⟨a,b,s _ _ e,z⟩
theorem nA:∀ ts:List Tie,tupAll (ts.map tieD)=true
 | []=>rfl
 | t::r=>by show (tupD (tieD t)&&tupAll (r.map tieD))=true;rw[nA r];rfl
theorem zbt (n:Int)(ts:List Tie):tupD (webD n ts)=true:=by
 show (true&&(tupAll (ts.map tieD)&&true))=true
 rw[nA ts];rfl
end L3
namespace L3
end L3
namespace L3
open PySem PySem.Spec PyProof.Rows L2
theorem lX {X:Cx}{b:List udi}{D:Ends}{σ:L2.St}{H:Hp}(h:let Y:=X;∃ t,PSs Y b t/\t D σ H):∃ t,PSs X b t/\t D σ H:=h
theorem lI {c:TT}{a b:TS}{D:Ends}{σ:L2.St}{H:Hp}(h:let A:=a;let B:=b;let E:=D;let S:=σ;tIfS c A B E S H):tIfS c a b D σ H:=h
end L3
namespace HT
open PySem PyProof.Rows
section
open PySem.SeqAt
open PySem.AutoSeq1 (wpAny_loadPart')
open PySem.MeetsSeq PySem.MeetsSeq2 PySem.MeetsSeq3
end
section
variable {prog:l9}{w:uak}{A:uae}{E:c9->d7->Prop}{s:d7}
end
end HT
namespace L3
open PySem PySem.Spec PyProof.Rows L2
section
variable {X:Cx}
end
def wide:Nat->ua9->Prop
 | 0,_=>True
 | k+1,.tuple ds=>ds.length<=1000/\∀ d∈ds,wide k d
 | k+1,.list ds=>ds.length<=1000/\∀ d∈ds,wide k d
 | _+1,_=>True
def endsD:ua9->Int × Int
 | .tuple [.int a,.int b,.int _]=>(a,b)
 | _=>(0,0)
def tiesB (n:Int):ua9->Bool
 | .tuple ds=>decide (ds.length<=60)&&ds.all (tieB n)&&risingB (ds.map endsD)
 | _=>false
def Gd (H:Hp):Nat->V->Prop
 | 0,v=>flatD v=true
 | k+1,v=>flatD v=true\/(∃ p vs,v=.ref p/\(H p=some (.tup vs)\/H p=some (.lst vs))/\vs.length<=1000/\∀ u∈vs,Gd H k u)\/(∃ p,v=.ref p/\H p=some (.dK []))
def lt2 (e f:Int × Int):Prop:=e.1<f.1\/(e.1=f.1/\e.2<f.2)
theorem nT (e f:Int × Int):HT.lexLt (e2 e) (e2 f)=true↔lt2 e f:=by
 show (if e.1=f.1 then (if e.2=f.2 then false else decide (e.2<f.2)) else decide (e.1<f.1))=true↔_
 unfold lt2
 by_cases h:e.1=f.1
 ·rw[uhd h]
  by_cases h2:e.2=f.2
  ·rw[uhd h2];simp;left
  ·rw[uhe h2,decide_eq_true_eq];left
 ·rw[uhe h,decide_eq_true_eq];left
structure PreT (n:Int)(ds:List ua9)(i:Nat)(a:Int × Int):Prop where
 tie:∀ d∈ds.take i,tieB n d=true
 up:((ds.take i).map endsD).Pairwise lt2
 top:∀ x∈(ds.take i).map endsD,x=a\/lt2 x a
 at_:a=(-1,-1)\/a∈(ds.take i).map endsD
section
variable {X:Cx}{es:List uct}{t:TA}{pos:Pos}
def tTupG (t:TA):TE:=λ σ H Q=>t σ H λ xs H1=>xs.length<=1000/\∀ p H',Same H1 H'->H1 p=none->H' p=some (.tup xs)->Q (.ref p) H'
def tLstG (t:TA):TE:=λ σ H Q=>t σ H λ xs H1=>xs.length<=1000/\∀ p H',Same H1 H'->H1 p=none->H' p=some (.lst xs)->Q (.ref p) H'
theorem bY {x1} (h:PA X es t):PE X (.Tuple es x1 pos) (tTupG t):=by
 intro pins s σ H Q I hq
 refine wpAny_Tuple_spliced (thn (h pos pins s σ H _ I hq) λ us s1 ⟨xs,J,I1,r,z,q⟩=>?_)
 have z':xs.length<=r9:=uao z (by decide)
 have fr:J s1.heap.objs.size=none:=I1.hok.fresh (h9 _)
 refine⟨by rw[← r.length];exact z',.ref s1.heap.objs.size,upd J s1.heap.objs.size (.tup xs),I1.laid (t':=s1.toks) (λ b u e=>c6 _ e) (h9 _) ⟨z',us,r,⟨_,i7 _ rfl,rfl,⟨_,rfl⟩,rfl⟩⟩,rfl,q _ _ (aT fr) fr aO⟩
theorem bV (h:PA X es t):PE X (.List es pos) (tLstG t):=by
 intro pins s σ H Q I hq
 refine wpAny_List_spliced (thn (h pos pins s σ H _ I hq) λ us s1 ⟨xs,J,I1,r,z,q⟩=>?_)
 have z':xs.length<=r9:=uao z (by decide)
 have fr:J s1.heap.objs.size=none:=I1.hok.fresh (h9 _)
 refine⟨by rw[← r.length];exact z',.ref s1.heap.objs.size,upd J s1.heap.objs.size (.lst xs),I1.laid (t':=s1.toks) (λ b u e=>c6 _ e) (h9 _) ⟨z',us,0,r,i7 _ rfl⟩,rfl,q _ _ (aT fr) fr aO⟩
inductive rExtendG_i  (x:V) (vs:List V) (H:Hp) (Q:VK):Prop
 | mk:∀ l b xs zs,(x=.ref l)->(vs=[.ref b])->(H l=some (.lst xs))->(H b=some (.lst zs))->(xs.length+zs.length<=1000)->(∀ H',But l H H'->H' l=some (.lst (xs++zs))->Q .non H')->rExtendG_i x vs H Q
def rExtendG :V->List V->Hp->VK->Prop:=λ x vs H Q=>rExtendG_i x vs H Q
theorem wW:MtM X "list.extend" rExtendG:=by
 intro pins s σ H x vs v us Q I rx rv h
 obtain⟨l,b,xs,zs,rfl,rfl,hH,hB,hz,q⟩:=h
 exact mE (X:=X) pins s σ H _ _ v us Q I rx rv ⟨l,b,xs,zs,rfl,rfl,hH,hB,uao hz (by decide),q _ But.upd aO⟩
inductive rAppendG_i  (x:V) (vs:List V) (H:Hp) (Q:VK):Prop
 | mk:∀ l xs y,(x=.ref l)->(vs=[y])->(H l=some (.lst xs))->(xs.length<1000)->(∀ H',But l H H'->H' l=some (.lst (xs++[y]))->Q .non H')->rAppendG_i x vs H Q
def rAppendG :V->List V->Hp->VK->Prop:=λ x vs H Q=>rAppendG_i x vs H Q
theorem iW:MtM X "list.append" rAppendG:=by
 intro pins s σ H x vs v us Q I rx rv h
 obtain⟨l,xs,y,rfl,rfl,hH,hz,q⟩:=h
 exact gL (X:=X) pins s σ H _ _ v us Q I rx rv ⟨l,xs,y,rfl,rfl,hH,p8 hz (by decide),q _ But.upd aO⟩
end
def Sm (H:Hp)(t:l7):Prop:=∃ vs:List V,(H t=some (.tup vs)\/H t=some (.lst vs))/\vs.length<=1000/\vs.all flatD=true
def GdF (H:Hp)(xs:List V):Prop:=∀ u∈xs,∃ t,u=.ref t/\Sm H t
def GdL (l:l7)(H:Hp)(xs:List V):Prop:=∀ u∈xs,∃ t,u=.ref t/\t≠l/\Sm H t
theorem GdL.append {l:l7}{H:Hp}{xs ys:List V}(h:GdL l H xs)(k:GdL l H ys):GdL l H (xs++ys):=λ u hu=>(u4.mp hu).elim (h u) (k u)
section
variable {g:TG}{te:TE}{own:List Str}{js:List Nat}{σ:L2.St}{H1:Hp}{Q:VK}
end
inductive call_tupleG_i  (xs:List V) (H:Hp) (Q:VK):Prop
 | mk:∀ p ys,(xs=[.ref p])->(H p=some (.lst ys))->(∀ l H',Same H H'->H l=none->H' l=some (.tup ys)->Q (.ref l) H')->call_tupleG_i xs H Q
theorem dB {X:Cx}:CallR X (.type "tuple") (call_tupleG_i):=by
 intro pins s σ H xs us Q I r h
 obtain⟨p,ys,rfl,hp,q⟩:=h
 exact lB (X:=X) pins s σ H _ us Q I r ⟨p,ys,rfl,.inl ⟨SqL.of hp,λ l hl=>q l _ (aT hl) hl aO⟩⟩
def Row3 (H:Hp)(v:V):Prop:=∃ (t:l7)(x y z:Int),v=.ref t/\H t=some (.tup [.int x,.int y,.int z])
section
variable {X:Cx}
end
end L3
namespace Ts
open PySem PySem.W PyProof.Rows
def gallop':Bool->Keyed->Array Keyed->Nat->Nat->Nat->StateT SortSt Sem (Option Nat):=sortPriv% PySem.Builtin.gallop
theorem xD (left:Bool)(key:Keyed)(arr:Array Keyed)(base n hint:Nat):gallop' left key arr base n hint=(do
 let beyond (i:Nat):StateT SortSt Sem (Option Bool):=do
  let x ← elem' arr (base+i)
  if left then lt' x key else return (← lt' key x).map (!·)
 let mut lastofs:=0
 let mut ofs:=1
 let mut lo:=0
 let mut hi:=0
 let some right ← beyond hint | return none
 if right then
  let maxofs:=n-hint
  for _ in [0:n] do
   if ofs ≥ maxofs then break
   let some more ← beyond (hint+ofs) | return none
   if !more then break
   lastofs:=ofs
   ofs:=2*ofs+1
  lo:=hint+lastofs+1
  hi:=hint+min ofs maxofs
 else
  let maxofs:=hint+1
  for _ in [0:n] do
   if ofs ≥ maxofs then break
   let some found ← beyond (hint-ofs) | return none
   if found then break
   lastofs:=ofs
   ofs:=2*ofs+1
  lo:=hint+1-min ofs maxofs
  hi:=hint-lastofs
 for _ in [0:n] do
  if lo ≥ hi then break
  let m:=lo+(hi-lo) / 2
  let some more ← beyond m | return none
  if more then lo:=m+1 else hi:=m
 return some hi):=rfl
section
variable {prog:l9}{w:uak}{A:uae}{E:c9->d7->Prop}{s:d7}{κ:SortKind}{it:Array Keyed}{N:Nat}{r:Nat->Int}
theorem gF {i j:Nat}{Q:Option Bool->SortSt->Prop}{st:SortSt}(h:Srt.Ask N r (kas_cmp prog w A κ it) s)(hk:kindOf st=κ)(hi:i<N)(hj:j<N)(q:Q (some (decide (r i<r j))) st) :
  wpS (o9 prog w) A E s (lt' (kas_item it i) (kas_item it j)) Q st:=by
 rw[lt'_eq]
 refine wpS_bind (wpS_get ?_)
 rw[hk]
 refine wpS_bind (wpS_lift (ub7 (ub1 (h i j (λ b s'=>b=decide (r i<r j)/\s'=s) hi hj ⟨rfl,rfl⟩) (λ c s' hc=>?_) λ _ _ hF=>hF.elim)))
 obtain⟨rfl,rfl⟩:=hc
 exact⟨rfl,wpS_pure q⟩
theorem eT {q:Array Nat}{i:Nat}{Q:Keyed->SortSt->Prop}{st:SortSt}(hi:i<q.size)(h:Q (kas_item it (q.getD i 0)) st):wpS (o9 prog w) A E s (elem' (q.map (kas_item it)) i) Q st:=by
 rw[elem'_eq]
 have e:(q.map (kas_item it))[i]?=some (kas_item it (q.getD i 0)):=by
  have e:q.getD i 0=q[i]:=by simp [ud4,hi]
  rw[e];simp [hi]
 rw[e]
 exact wpS_pure h
def By (left:Bool)(a k:Int):Bool:=if left=true then decide (a<k) else !decide (k<a)
theorem zbj {left:Bool}{q:Array Nat}{i k:Nat}{Q:Option Bool->SortSt->Prop}{st:SortSt}(h:Srt.Ask N r (kas_cmp prog w A κ it) s)(hk:kindOf st=κ)(hk':k<N)(hq:∀ m,m<q.size->q.getD m 0<N)(hi:i<q.size)
  (z:Q (some (By left (r (q.getD i 0)) (r k))) st):wpS (o9 prog w) A E s (do
   let x ← elem' (q.map (kas_item it)) i
   if left=true then lt' x (kas_item it k) else do
    let d ← lt' (kas_item it k) x
    pure (udu (λ x=>!x) d)) Q st:=by
 refine wpS_bind (eT hi ?_)
 cases left with
 | true=>rw[uhd rfl];exact gF h hk (hq _ hi) hk' z
 | false=>rw[uhe (by simp)];exact wpS_bind (gF h hk hk' (hq _ hi) (wpS_pure z))
theorem jQ {left:Bool}{q:Array Nat}{k base n hint:Nat}{Q:Option Nat->SortSt->Prop}{st:SortSt}(h:Srt.Ask N r (kas_cmp prog w A κ it) s)(hk:kindOf st=κ)(hk':k<N)(hq:∀ m,m<q.size->q.getD m 0<N)(hn:base+n<=q.size)(hh:hint<n)
  (up:∀ i j,i<=j->j<n->r (q.getD (base+i) 0)<=r (q.getD (base+j) 0))
  (z:∀ g,g<=n->(∀ i,i<g->By left (r (q.getD (base+i) 0)) (r k)=true)->(∀ i,g<=i->i<n->By left (r (q.getD (base+i) 0)) (r k)=false)->Q (some g) st) :
  wpS (o9 prog w) A E s (gallop' left (kas_item it k) (q.map (kas_item it)) base n hint) Q st:=by
 obtain⟨B,hB⟩:∃ B:Nat->Bool,B=λ i=>By left (r (q.getD (base+i) 0)) (r k):=⟨_,rfl⟩
 have anti:∀ i j,i<=j->j<n->B j=true->B i=true:=λ i j hij hj e=>by
  have eB:∀ i,B i=By left (r (q.getD (base+i) 0)) (r k):=λ i=>by rw[hB]
  rw[eB] at e ⊢
  have:=up i j hij hj
  revert e this
  generalize r (q.getD (base+i) 0)=a
  generalize r (q.getD (base+j) 0)=b
  unfold By
  cases left <;> simp <;> left
 have anti':∀ i j,i<=j->j<n->B i=false->B j=false:=λ i j hij hj e=>by
  cases c:B j with
  | false=>rfl
  | true=>rw[anti i j hij hj c] at e;cases e
 have bw : ∀ {i : Nat}{Q : Option Bool → SortSt → Prop}, i<n → Q (some (B i)) st → wpS (o9 prog w) A E s (do
     let x ← elem' (q.map (kas_item it)) (base+i)
     if left=true then lt' x (kas_item it k) else do
       let d ← lt' (kas_item it k) x
       pure (udu (λ x=>!x) d)) Q st:=λ {i Q} hi hq'=>zbj h hk hk' hq (by left) (by rw[hB] at hq';exact hq')
 have z':∀ g,g<=n->(∀ i,i<g->B i=true)->(∀ i,g<=i->i<n->B i=false)->Q (some g) st:=by rw[hB];exact z
 clear hB
  -- the last part: halving
 have half : ∀ (f : Nat → Option (Option Nat) × Nat × Nat → StateT SortSt Sem (ForInStep (Option (Option Nat) × Nat × Nat))), (∀ x l h (R : ForInStep (Option (Option Nat) × Nat × Nat) → SortSt → Prop), l ≥ h → R (.done (none, l, h)) st → wpS (o9 prog w) A E s (f x (none, l, h)) R st) →
     (∀ x l h (R:ForInStep (Option (Option Nat) × Nat × Nat)->SortSt->Prop),l<h->h<=n->R (.yield (if B (l+(h-l) / 2)=true then (none,l+(h-l) / 2+1,h) else (none,l,l+(h-l) / 2))) st->wpS (o9 prog w) A E s (f x (none,l,h)) R st) ->
     ∀ lo hi,lo<=hi->hi<=n->(∀ i,i<lo->B i=true)->(∀ i,hi<=i->i<n->B i=false)->∀ {R:Option (Option Nat) × Nat × Nat->SortSt->Prop},(∀ g,Q (some g) st->R (none,g,g) st) ->
     wpS (o9 prog w) A E s (forIn [:n] (none,lo,hi) f) R st:=by
  intro f f1 f2
  intro lo hi h1 h2 h3 h4 R hR
  have done:∀ l h,l<=h->h<=l->h<=n->(∀ i,i<l->B i=true)->(∀ i,h<=i->i<n->B i=false)->R (none,l,h) st:=λ l h a b c d e=>by
   have:l=h:=by left
   subst this
   exact hR l (z' l c d e)
  refine wpS_forRange (I:=λ x c st'=>st'=st/\∃ l h,c=(none,l,h)/\l<=h/\h<=n/\h-l<=n-x/\(∀ i,i<l->B i=true)/\(∀ i,h<=i->i<n->B i=false)) (λ x c st' _ hx hI=>?_) (λ c st' hI=>?_) ⟨rfl,lo,hi,rfl,h1,h2,by left,h3,h4⟩
  ·obtain⟨rfl,l,h,rfl,a1,a2,a3,a4,a5⟩:=hI
   by_cases c:l ≥ h
   ·exact f1 _ _ _ _ c (done l h a1 c a2 a4 a5)
   ·refine f2 _ _ _ _ (by left) a2 ?_
    cases e:B (l+(h-l) / 2) with
    | true =>
     rw[uhd rfl]
     exact⟨rfl,_,_,rfl,by left,a2,by left,λ i hi=>anti i _ (by left) (by left) e,a5⟩
    | false =>
     rw[uhe (by simp)]
     exact⟨rfl,_,_,rfl,by left,by left,by left,a4,λ i i1 i2=>anti' _ i i1 i2 e⟩
  ·obtain⟨rfl,l,h,rfl,a1,a2,a3,a4,a5⟩:=hI
   exact done l h a1 (by left) a2 a4 a5
 rw[xD]
 dsimp only
 refine wpS_bind (bw hh ?_)
 dsimp only
 cases e:B hint with
 | true =>
  rw[uhd rfl]
  refine wpS_bind (wpS_mono (wpS_forRange (I:=λ x c st'=>st'=st/\∃ l o,c=(none,l,o)/\x+1<=o/\l<o/\hint+l<n/\B (hint+l)=true) (Q:=λ c st'=>st'=st/\∃ l o,c=(none,l,o)/\l<o/\hint+l<n/\B (hint+l)=true/\(n-hint<=o\/B (hint+o)=false)) (λ x c st' _ hx hI=>?_) (λ c st' hI=>?_) ⟨rfl,0,1,rfl,by left,by left,by left,e⟩) (λ c st' hI=>?_))
  ·obtain⟨rfl,l,o,rfl,a1,a2,a3,a4⟩:=hI
   dsimp only
   by_cases c:o ≥ n-hint
   ·rw[uhd c]
    exact wpS_pure ⟨rfl,l,o,rfl,a2,a3,a4,.inl c⟩
   ·rw[uhe c]
    refine wpS_bind (bw (by left) ?_)
    dsimp only
    cases e2:B (hint+o) with
    | true =>
     rw[uhe (by simp)]
     exact wpS_pure ⟨rfl,o,2*o+1,rfl,by left,by left,by left,e2⟩
    | false =>
     rw[uhd (by simp)]
     exact wpS_pure ⟨rfl,l,o,rfl,a2,a3,a4,.inr e2⟩
  ·obtain⟨rfl,l,o,rfl,a1,a2,a3,a4⟩:=hI
   exact⟨rfl,l,o,rfl,a2,a3,a4,.inl (by left)⟩
  ·obtain⟨rfl,l,o,rfl,a2,a3,a4,a5⟩:=hI
   dsimp only
   have m1:min o (n-hint)<=n-hint:=Nat.min_le_right _ _
   have m2:min o (n-hint)<=o:=ufd _ _
   have m3:min o (n-hint)=o\/min o (n-hint)=n-hint:=by left
   refine wpS_bind (half _ (λ x l h R c hR=>by
    try dsimp only
    rw[uhd c]
    exact wpS_pure hR) (λ x l h R c hn' hR=>by
    try dsimp only
    rw[uhe (by left)]
    refine wpS_bind (bw (by left) ?_)
    dsimp only
    cases e:B (l+(h-l) / 2) with
    | true=>rw[e,uhd rfl] at hR;rw[uhd rfl];exact wpS_pure hR
    | false=>rw[e,uhe (by simp)] at hR;rw[uhe (by simp)];exact wpS_pure hR) (hint+l+1) (hint+min o (n-hint)) (by left) (by left) (λ i hi=>anti i _ (by left) a3 a4) (λ i i1 i2=>?_) (λ g hg=>?_))
   ·rcases a5 with a5 | a5
    ·left
    ·exact anti' (hint+o) i (by left) i2 a5
   ·exact wpS_pure hg
 | false =>
  rw[uhe (by simp)]
  refine wpS_bind (wpS_mono (wpS_forRange (I:=λ x c st'=>st'=st/\∃ l o,c=(none,l,o)/\x+1<=o/\l<o/\l<=hint/\B (hint-l)=false) (Q:=λ c st'=>st'=st/\∃ l o,c=(none,l,o)/\l<o/\l<=hint/\B (hint-l)=false/\(hint+1<=o\/B (hint-o)=true)) (λ x c st' _ hx hI=>?_) (λ c st' hI=>?_) ⟨rfl,0,1,rfl,by left,by left,by left,e⟩) (λ c st' hI=>?_))
  ·obtain⟨rfl,l,o,rfl,a1,a2,a3,a4⟩:=hI
   dsimp only
   by_cases c:o ≥ hint+1
   ·rw[uhd c]
    exact wpS_pure ⟨rfl,l,o,rfl,a2,a3,a4,.inl c⟩
   ·rw[uhe c]
    refine wpS_bind (bw (by left) ?_)
    dsimp only
    cases e2:B (hint-o) with
    | true =>
     rw[uhd rfl]
     exact wpS_pure ⟨rfl,l,o,rfl,a2,a3,a4,.inr e2⟩
    | false =>
     rw[uhe (by simp)]
     exact wpS_pure ⟨rfl,o,2*o+1,rfl,by left,by left,by left,e2⟩
  ·obtain⟨rfl,l,o,rfl,a1,a2,a3,a4⟩:=hI
   exact⟨rfl,l,o,rfl,a2,a3,a4,.inl (by left)⟩
  ·obtain⟨rfl,l,o,rfl,a2,a3,a4,a5⟩:=hI
   dsimp only
   have m3:min o (hint+1)=o\/min o (hint+1)=hint+1:=by left
   refine wpS_bind (half _ (λ x l h R c hR=>by
    try dsimp only
    rw[uhd c]
    exact wpS_pure hR) (λ x l h R c hn' hR=>by
    try dsimp only
    rw[uhe (by left)]
    refine wpS_bind (bw (by left) ?_)
    dsimp only
    cases e:B (l+(h-l) / 2) with
    | true=>rw[e,uhd rfl] at hR;rw[uhd rfl];exact wpS_pure hR
    | false=>rw[e,uhe (by simp)] at hR;rw[uhe (by simp)];exact wpS_pure hR) (hint+1-min o (hint+1)) (hint-l) (by left) (by left) (λ i hi=>?_) (λ i i1 i2=>anti' (hint-l) i (by left) i2 a4) (λ g hg=>?_))
   ·rcases a5 with a5 | a5
    ·left
    ·exact anti i (hint-o) (by left) (by left) a5
   ·exact wpS_pure hg
end
end Ts
namespace Ts
open PySem PySem.W PyProof.Rows
def mergeLo':Array Keyed->Array Keyed->StateT SortSt Sem (Array Keyed):=sortPriv% PySem.Builtin.mergeLo
def setMg (g:Nat):StateT SortSt Sem Unit:=modify λ s=>SortSt.mk' (kindOf s) (arrOf s) (pendingOf s) g (failedOf s)
abbrev KA:=Array Keyed
abbrev GS:=Option KA × KA × Nat × Nat × Nat × Nat × Nat
abbrev PS:=Option KA × KA × Nat × Nat × Nat × Nat
abbrev OS:=Option KA × KA × Nat × Nat × Nat
abbrev SM:=StateT SortSt Sem
def dn (a b out:KA)(ia ib:Nat):KA:=out++a.extract ia a.size++b.extract ib b.size
def lA (a b out:KA)(ia ib:Nat):KA:=out++b.extract ib b.size++a.extract ia a.size
def j3 (a b:KA)(mg ac bc ia:Nat)(out:KA)(ib:Nat):SM (ForInStep GS):=do
 let x ← elem' a ia
 if (ia+1+1==a.size)=true then pure (.done (some (lA a b (out.push x) (ia+1) ib),out.push x,ia+1,ib,mg,ac,bc))
 else if (decide (ac<7)&&decide (bc<7))=true then pure (.done (none,out.push x,ia+1,ib,mg,ac,bc))
 else pure (.yield (none,out.push x,ia+1,ib,mg,ac,bc))
def j2 (a b:KA)(mg ac bc ib:Nat)(out:KA)(ia:Nat):SM (ForInStep GS):=do
 let x ← elem' b ib
 if (ib+1==b.size)=true then pure (.done (some (dn a b (out.push x) ia (ib+1)),out.push x,ia,ib+1,mg,ac,bc))
 else do
  let y ← elem' a ia
  let z ← gallop' true y b (ib+1) (b.size-(ib+1)) 0
  match z with
  | some k => if k>0 then (if (ib+1+k==b.size) = true then pure (.done (some (dn a b (out.push x ++ b.extract (ib+1) (ib+1+k)) ia (ib+1+k)), out.push x ++ b.extract (ib+1) (ib+1+k), ia, ib+1+k, mg, ac, k))
      else j3 a b mg ac k ia (out.push x++b.extract (ib+1) (ib+1+k)) (ib+1+k)) else j3 a b mg ac k ia (out.push x) (ib+1)
  | _=>pure (.done (some (dn a b (out.push x) ia (ib+1)),out.push x,ia,ib+1,mg,ac,bc))
def j1 (a b:KA)(out:KA)(ia ib ac bc mg:Nat):SM (ForInStep GS):=do
 setMg mg
 let x ← elem' b ib
 let z ← gallop' false x a ia (a.size-ia) 0
 match z with
 | some k => if k>0 then (if (ia+k+1==a.size) = true then pure (.done (some (lA a b (out ++ a.extract ia (ia+k)) (ia+k) ib), out ++ a.extract ia (ia+k), ia+k, ib, mg, k, bc))
     else if (ia+k==a.size)=true then pure (.done (some (dn a b (out++a.extract ia (ia+k)) (ia+k) ib),out++a.extract ia (ia+k),ia+k,ib,mg,k,bc))
     else j2 a b mg k bc ib (out++a.extract ia (ia+k)) (ia+k)) else j2 a b mg k bc ib out ia
 | _=>pure (.done (some (dn a b out ia ib),out,ia,ib,mg,ac,bc))
def gStep (a b:KA)(_:Nat)(s:GS):SM (ForInStep GS) :=
 if s.2.2.2.2.1>1 then j1 a b s.2.1 s.2.2.1 s.2.2.2.1 s.2.2.2.2.2.1 s.2.2.2.2.2.2 (s.2.2.2.2.1-1) else j1 a b s.2.1 s.2.2.1 s.2.2.2.1 s.2.2.2.2.2.1 s.2.2.2.2.2.2 s.2.2.2.2.1
def pB (a b:KA)(mg:Nat)(s:PS):SM (ForInStep PS):=do
 let x ← elem' b s.2.2.2.1
 if (s.2.2.2.1+1==b.size)=true then pure (.done (some (dn a b (s.2.1.push x) s.2.2.1 (s.2.2.2.1+1)),s.2.1.push x,s.2.2.1,s.2.2.2.1+1,0,s.2.2.2.2.2+1))
 else if s.2.2.2.2.2+1 ≥ mg then pure (.done (none,s.2.1.push x,s.2.2.1,s.2.2.2.1+1,0,s.2.2.2.2.2+1)) else pure (.yield (none,s.2.1.push x,s.2.2.1,s.2.2.2.1+1,0,s.2.2.2.2.2+1))
def pA (a b:KA)(mg:Nat)(s:PS):SM (ForInStep PS):=do
 let y ← elem' a s.2.2.1
 if (s.2.2.1+1+1==a.size)=true then pure (.done (some (lA a b (s.2.1.push y) (s.2.2.1+1) s.2.2.2.1),s.2.1.push y,s.2.2.1+1,s.2.2.2.1,s.2.2.2.2.1+1,0))
 else if s.2.2.2.2.1+1 ≥ mg then pure (.done (none,s.2.1.push y,s.2.2.1+1,s.2.2.2.1,s.2.2.2.2.1+1,0)) else pure (.yield (none,s.2.1.push y,s.2.2.1+1,s.2.2.2.1,s.2.2.2.2.1+1,0))
def pStep (a b:KA)(mg:Nat)(_:Nat)(s:PS):SM (ForInStep PS):=do
 let x ← elem' b s.2.2.2.1
 let y ← elem' a s.2.2.1
 let z ← lt' x y
 match z with
 | some c=>if c=true then pB a b mg s else pA a b mg s
 | _=>pure (.done (some (dn a b s.2.1 s.2.2.1 s.2.2.2.1),s.2.1,s.2.2.1,s.2.2.2.1,s.2.2.2.2.1,s.2.2.2.2.2))
def oStep (a b:KA)(_:Nat)(s:OS):SM (ForInStep OS):=do
 let u ← forIn [0:a.size+b.size] ((none,s.2.1,s.2.2.1,s.2.2.2.1,0,0):PS) (pStep a b s.2.2.2.2)
 match u.1 with
 | some r=>pure (.done (some r,u.2.1,u.2.2.1,u.2.2.2.1,s.2.2.2.2))
 | none=>do
  liftM (rule "list.sort.gallop")
  let v ← forIn [0:a.size+b.size] ((none,u.2.1,u.2.2.1,u.2.2.2.1,s.2.2.2.2+1,u.2.2.2.2.1,u.2.2.2.2.2):GS) (gStep a b)
  match v.1 with
  | some r=>pure (.done (some r,v.2.1,v.2.2.1,v.2.2.2.1,v.2.2.2.2.1))
  | none=>do
   setMg (v.2.2.2.2.1+1)
   pure (.yield (none,v.2.1,v.2.2.1,v.2.2.2.1,v.2.2.2.2.1+1))
theorem wB (a b:Array Keyed):mergeLo' a b=(do
 rule "list.sort.merge-lo"
 let total:=a.size+b.size
 let done (out:Array Keyed) (ia ib:Nat):=out++a.extract ia a.size++b.extract ib b.size
 let lastOfA (out:Array Keyed) (ia ib:Nat):=out++b.extract ib b.size++a.extract ia a.size
 let mut out:Array Keyed:=#[← elem' b 0]
 let mut ia:=0
 let mut ib:=1
 if ib==b.size then return done out ia ib
 if ia+1==a.size then return lastOfA out ia ib
 let mut minGallop:=gallopOf (← get)
 for _ in [0:total] do
  let mut acount:=0
  let mut bcount:=0
  for _ in [0:total] do
   let some bWins ← lt' (← elem' b ib) (← elem' a ia) | return done out ia ib
   if bWins then
    out:=out.push (← elem' b ib);ib:=ib+1;bcount:=bcount+1;acount:=0
    if ib==b.size then return done out ia ib
    if bcount ≥ minGallop then break
   else
    out:=out.push (← elem' a ia);ia:=ia+1;acount:=acount+1;bcount:=0
    if ia+1==a.size then return lastOfA out ia ib
    if acount ≥ minGallop then break
  rule "list.sort.gallop"
  minGallop:=minGallop+1
  for _ in [0:total] do
   if minGallop>1 then minGallop:=minGallop-1
   setMg minGallop
   let some k ← gallop' false (← elem' b ib) a ia (a.size-ia) 0 | return done out ia ib
   acount:=k
   if k>0 then
    out:=out++a.extract ia (ia+k);ia:=ia+k
    if ia+1==a.size then return lastOfA out ia ib
    if ia==a.size then return done out ia ib
   out:=out.push (← elem' b ib);ib:=ib+1
   if ib==b.size then return done out ia ib
   let some k ← gallop' true (← elem' a ia) b ib (b.size-ib) 0 | return done out ia ib
   bcount:=k
   if k>0 then
    out:=out++b.extract ib (ib+k);ib:=ib+k
    if ib==b.size then return done out ia ib
   out:=out.push (← elem' a ia);ia:=ia+1
   if ia+1==a.size then return lastOfA out ia ib
   if acount<7&&bcount<7 then break
  minGallop:=minGallop+1
  setMg minGallop
 unsupported "internal:list.sort.merge-bound"):=rfl
theorem wA (a b:KA):mergeLo' a b=(do
 liftM (rule "list.sort.merge-lo")
 let x ← elem' b 0
 if (1==b.size)=true then pure (dn a b #[x] 0 1)
 else if (0+1==a.size)=true then pure (lA a b #[x] 0 1)
 else do
  let g ← get
  let v ← forIn [0:a.size+b.size] ((none,#[x],0,1,gallopOf g):OS) (oStep a b)
  match v.1 with
  | some r=>pure r
  | none=>liftM (unsupported "internal:list.sort.merge-bound":Sem KA)):=by
 rw[wB]
 dsimp only
 congr 1;funext _;congr 1;funext x
 unfold dn lA
 congr 1;congr 1;congr 1;funext g
 congr 1
 ·congr 1
  funext _ s
  unfold oStep
  congr 1
  funext u
  obtain⟨o,u⟩:=u
  cases o with
  | some r=>rfl
  | none =>
   show (liftM (rule "list.sort.gallop") >>= _)=(liftM (rule "list.sort.gallop") >>= _)
   congr 1;funext _
   show (forIn _ _ _ >>= _)=(forIn _ _ _ >>= _)
   congr 1
   funext v
   obtain⟨o,v⟩:=v
   cases o <;> rfl
 ·funext v
  obtain⟨o,v⟩:=v
  cases o <;> rfl
end Ts
namespace Ts
open PySem PySem.W PyProof.Rows
def arr (it:KA)(l:List Nat):KA:=l.toArray.map (kas_item it)
section
variable {it:KA}{l m:List Nat}{i j x:Nat}
theorem bN:(arr it l).size=l.length:=by unfold arr;simp
theorem dE:(arr it l).push (kas_item it x)=arr it (l++[x]):=by unfold arr;simp
theorem qI:#[kas_item it x]=arr it [x]:=by unfold arr;simp
theorem cH:arr it l++arr it m=arr it (l++m):=by unfold arr;simp
theorem cG:(arr it l).extract i j=arr it ((l.drop i).take (j-i)):=by
 unfold arr
 rw[← Array.map_extract]
 congr 1
 simp [List.extract_eq_take_drop]
theorem eS:l.toArray.getD i 0=l.getD i 0:=by simp
theorem gN (h:i<l.length):l.drop i=l.getD i 0::l.drop (i+1):=by
 rw[uce h,a8,c7 h];rfl
end
abbrev Sd (r:Nat->Int)(l:List Nat):Prop:=l.Pairwise λ x y=>r x<=r y
structure Mg (r:Nat->Int)(la lb L:List Nat)(ia ib:Nat):Prop where
 ha:ia<=la.length
 hb:ib<=lb.length
 perm:L.Perm (la.take ia++lb.take ib)
 sd:Sd r L
 la:∀ x∈L,∀ y∈la.drop ia,r x<=r y
 lb:∀ x∈L,∀ y∈lb.drop ib,r x<=r y
def Gm (r:Nat->Int)(la lb X:List Nat):Prop:=X.Perm (la++lb)/\Sd r X
section
variable {r:Nat->Int}{la lb L:List Nat}{ia ib k:Nat}
theorem Sd.head (s:Sd r la)(h:ia<la.length):∀ y∈la.drop ia,r (la.getD ia 0)<=r y:=λ y hy=>by
 have s':Sd r (la.drop ia):=ucl (udw _ _) s
 rw[gN h] at hy s'
 rcases j4.mp hy with rfl | hy
 ·exact v6 _
 ·exact (ucx.mp s').1 y hy
theorem Mg.symm (m:Mg r la lb L ia ib):Mg r lb la L ib ia:=⟨m.hb,m.ha,m.perm.trans ue8,m.sd,m.lb,m.la⟩
theorem Gm.symm {X:List Nat}(g:Gm r lb la X):Gm r la lb X:=⟨g.1.trans ue8,g.2⟩
theorem Mg.appB (m:Mg r la lb L ia ib)(sb:Sd r lb)(hk:ib+k<=lb.length)(h:∀ x∈(lb.drop ib).take k,∀ y∈la.drop ia,r x<=r y):Mg r la lb (L++(lb.drop ib).take k) ia (ib+k):=by
 have sb':Sd r (lb.drop ib):=ucl (udw _ _) sb
 have dd:lb.drop (ib+k)=(lb.drop ib).drop k:=by rw[ufm]
 refine⟨m.ha,hk,?_,uch.mpr ⟨m.sd,ucl (uf0 _ _) sb',λ x hx y hy=>m.lb x hx y (uc7 hy)⟩,λ x hx y hy=>?_,λ x hx y hy=>?_⟩
 ·rw[List.take_add,← uax]
  exact List.Perm.append_right _ m.perm
 ·rcases u4.mp hx with hx | hx
  ·exact m.la x hx y hy
  ·exact h x hx y hy
 ·rw[dd] at hy
  rcases u4.mp hx with hx | hx
  ·exact m.lb x hx y (ufh hy)
  ·rw[← ua6 k (lb.drop ib)] at sb'
   exact (uch.mp sb').2.2 x hx y hy
theorem Mg.pushB (m:Mg r la lb L ia ib)(sb:Sd r lb)(hk:ib<lb.length)(h:∀ y∈la.drop ia,r (lb.getD ib 0)<=r y):Mg r la lb (L++[lb.getD ib 0]) ia (ib+1):=by
 have e:(lb.drop ib).take 1=[lb.getD ib 0]:=by rw[gN hk];rfl
 have:=m.appB sb (k:=1) hk (by rw[e];intro x hx;rw[k8.mp hx];exact h)
 rw[e] at this;exact this
theorem Mg.pushA (m:Mg r la lb L ia ib)(sa:Sd r la)(hk:ia<la.length)(h:∀ y∈lb.drop ib,r (la.getD ia 0)<=r y):Mg r la lb (L++[la.getD ia 0]) (ia+1) ib:=(m.symm.pushB sa hk h).symm
theorem Mg.appA (m:Mg r la lb L ia ib)(sa:Sd r la)(hk:ia+k<=la.length)(h:∀ x∈(la.drop ia).take k,∀ y∈lb.drop ib,r x<=r y):Mg r la lb (L++(la.drop ia).take k) (ia+k) ib:=(m.symm.appB sa hk h).symm
theorem Mg.last (m:Mg r la lb L ia ib)(sa:Sd r la)(sb:Sd r lb)(h:∀ x∈lb.drop ib,∀ y∈la.drop ia,r x<=r y):Gm r la lb (L++lb.drop ib++la.drop ia):=by
 refine⟨?_,?_⟩
 ·have e:=m.perm
  rw[List.perm_iff_count] at e ⊢
  intro x
  have e:=e x
  have e1:=congrArg (List.count x) (ua6 ia la)
  have e2:=congrArg (List.count x) (ua6 ib lb)
  simp only [List.count_append] at e e1 e2 ⊢
  left
 ·refine uch.mpr ⟨uch.mpr ⟨m.sd,ucl (udw _ _) sb,m.lb⟩,ucl (udw _ _) sa,λ x hx y hy=>?_⟩
  rcases u4.mp hx with hx | hx
  ·exact m.la x hx y hy
  ·exact h x hx y hy
theorem Mg.done (m:Mg r la lb L ia ib)(sa:Sd r la)(sb:Sd r lb)(h:ia=la.length\/ib=lb.length):Gm r la lb (L++la.drop ia++lb.drop ib):=by
 refine (m.symm.last sb sa λ x hx y hy=>?_).symm
 rcases h with h | h
 ·rw[h,List.drop_length] at hx;cases hx
 ·rw[h,List.drop_length] at hy;cases hy
theorem Mg.start (sb:Sd r lb)(hb:0<lb.length)(h:∀ y∈la,r (lb.getD 0 0)<=r y):Mg r la lb [lb.getD 0 0] 0 1:=by
 have m:Mg r la lb [] 0 0:=⟨p7 _,p7 _,ud5 _,.nil,by simp,by simp⟩
 exact m.pushB sb hb h
theorem zd4 {it:KA}:dn (arr it la) (arr it lb) (arr it L) ia ib=arr it (L++la.drop ia++lb.drop ib):=by
 unfold dn
 rw[cG,cG,cH,cH,bN,bN,uam (by simp),uam (by simp)]
theorem zdv {it:KA}:lA (arr it la) (arr it lb) (arr it L) ia ib=arr it (L++lb.drop ib++la.drop ia):=by
 unfold lA
 rw[cG,cG,cH,cH,bN,bN,uam (by simp),uam (by simp)]
end
end Ts
namespace Ts
open PySem PySem.W PyProof.Rows
section
variable {prog:l9}{w:uak}{A:uae}{E:c9->d7->Prop}{s:d7}{κ:SortKind}{it:Array Keyed}{N:Nat}{r:Nat->Int}{la lb:List Nat}{P0:KA}{pd:Array (Nat × Nat × Nat)}
structure Two (N:Nat)(r:Nat->Int)(la lb:List Nat):Prop where
 a1:0<la.length
 b1:0<lb.length
 na:∀ x∈la,x<N
 nb:∀ x∈lb,x<N
 sa:Sd r la
 sb:Sd r lb
 first:r (lb.getD 0 0)<=r (la.getD 0 0)
 last:∀ x∈lb,r x<=r (la.getD (la.length-1) 0)
abbrev SS (κ:SortKind)(P0:KA)(pd:Array (Nat × Nat × Nat))(g:Nat):SortSt:=SortSt.mk' κ P0 pd g none
theorem gZ {g g':Nat}{Q:Unit->SortSt->Prop}(h:Q () (SS κ P0 pd g')):wpS (o9 prog w) A E s (setMg g') Q (SS κ P0 pd g):=wpS_modify h
theorem fP {l:List Nat}{i:Nat}(h:i<l.length):l.getD i 0∈l:=by
 rw[a8,c7 h];exact ue0 h
theorem Two.pa (t:Two N r la lb){i:Nat}(h:i<la.length):la.getD i 0<N:=t.na _ (fP h)
theorem Two.pb (t:Two N r la lb){i:Nat}(h:i<lb.length):lb.getD i 0<N:=t.nb _ (fP h)
theorem bM {l:List Nat}{i:Nat}{Q:Keyed->SortSt->Prop}{st:SortSt}(hi:i<l.length)(h:Q (kas_item it (l.getD i 0)) st):wpS (o9 prog w) A E s (elem' (arr it l) i) Q st :=
 eT (q:=l.toArray) (by simpa using hi) (by rw[eS];exact h)
theorem eX {l:List Nat}(sl:Sd r l){i j:Nat}(hij:i<=j)(hj:j<l.length):r (l.getD i 0)<=r (l.getD j 0):=by
 by_cases e:i=j
 ·rw[e];exact v6 _
 ·have hi:i<l.length:=by left
  rw[a8,a8,c7 hi,c7 hj]
  exact ua8.mp sl i j hi hj (by left)
theorem fI {l:List Nat}{i k x:Nat}(h:x∈(l.drop i).take k)(hk:i+k<=l.length):∃ j,j<k/\x=l.getD (i+j) 0:=by
 obtain⟨j,hj,e⟩:=ufi.mp h
 have hj':j<k:=by rw[u5,ua2] at hj;left
 refine⟨j,hj',?_⟩
 rw[← e,List.getElem_take,uf2,a8,c7 (by left)];rfl
theorem oE {l:List Nat}{i x:Nat}(h:x∈l.drop i):∃ j,i<=j/\j<l.length/\x=l.getD j 0:=by
 obtain⟨j,hj,e⟩:=ufi.mp h
 rw[ua2] at hj
 refine⟨i+j,by left,by left,?_⟩
 rw[← e,uf2,a8,c7 (by left)];rfl
theorem iP {left:Bool}{l:List Nat}{k base n hint:Nat}{Q:Option Nat->SortSt->Prop}{st:SortSt}(h:Srt.Ask N r (kas_cmp prog w A κ it) s)(hk:kindOf st=κ)(hk':k<N)(hl:∀ x∈l,x<N)(sl:Sd r l)(hn:base+n<=l.length)(hh:hint<n)
  (z:∀ g,g<=n->(∀ i,i<g->By left (r (l.getD (base+i) 0)) (r k)=true)->(∀ i,g<=i->i<n->By left (r (l.getD (base+i) 0)) (r k)=false)->Q (some g) st) :
  wpS (o9 prog w) A E s (gallop' left (kas_item it k) (arr it l) base n hint) Q st :=
 jQ (q:=l.toArray) h hk hk' (λ m hm=>by rw[eS];exact hl _ (fP (by simpa using hm))) (by simpa using hn) hh (λ i j hij hj=>by rw[eS,eS];exact eX sl (by left) (by left))
  λ g a b c=>z g a (λ i hi=>by have:=b i hi;rwa [eS] at this) (λ i i1 i2=>by have:=c i i1 i2;rwa [eS] at this)
def Rs (r:Nat->Int)(it:KA)(κ:SortKind)(P0:KA)(pd:Array (Nat × Nat × Nat))(la lb:List Nat)(o:KA)(st:SortSt):Prop:=∃ X g,Gm r la lb X/\o=arr it X/\st=SS κ P0 pd g
structure Wy (r:Nat->Int)(la lb:List Nat)(L:List Nat)(ia ib:Nat):Prop where
 m:Mg r la lb L ia ib
 ia:ia+1<la.length
 ib:ib<lb.length
variable (t:Two N r la lb)
include t
theorem Two.done {L:List Nat}{ia ib g:Nat}(m:Mg r la lb L ia ib)(h:ia=la.length\/ib=lb.length):Rs r it κ P0 pd la lb (dn (arr it la) (arr it lb) (arr it L) ia ib) (SS κ P0 pd g) :=
 ⟨_,g,m.done t.sa t.sb h,zd4,rfl⟩
theorem Two.lst {L:List Nat}{ia ib g:Nat}(m:Mg r la lb L ia ib)(h:ia+1=la.length):Rs r it κ P0 pd la lb (lA (arr it la) (arr it lb) (arr it L) ia ib) (SS κ P0 pd g) :=
 ⟨_,g,m.last t.sa t.sb (λ x hx y hy=>by
  rw[gN (by left),List.drop_of_length_le (by left),k8] at hy
  rw[hy,show ia=la.length-1 by left]
  exact t.last x (ufh hx)),zdv,rfl⟩
theorem rQ {L:List Nat}{mg ac bc ia ib g:Nat}{R:ForInStep GS->SortSt->Prop}(y:Wy r la lb L ia ib)(hx:∀ y∈lb.drop ib,r (la.getD ia 0)<=r y)
  (d:∀ o u st',Rs r it κ P0 pd la lb o st'->R (.done (some o,u)) st') (e:∀ L' ia' ib' mg' ac' bc' g,Wy r la lb L' ia' ib'->ia+ib+1<=ia'+ib'->R (.done (none,arr it L',ia',ib',mg',ac',bc')) (SS κ P0 pd g)/\R (.yield (none,arr it L',ia',ib',mg',ac',bc')) (SS κ P0 pd g)) :
  wpS (o9 prog w) A E s (j3 (arr it la) (arr it lb) mg ac bc ia (arr it L) ib) R (SS κ P0 pd g):=by
 have hia:=y.ia
 unfold j3
 refine wpS_bind (bM (by left) ?_)
 have m':=y.m.pushA t.sa (by left) hx
 rw[dE,bN]
 by_cases c:ia+1+1=la.length
 ·rw[uhd (by simpa using c)]
  exact wpS_pure (d _ _ _ (t.lst m' c))
 ·rw[uhe (by simpa using c)]
  have z:=e _ _ _ mg ac bc g (⟨m',by left,y.ib⟩:Wy r la lb _ (ia+1) ib) (by left)
  split
  ·exact wpS_pure z.1
  ·exact wpS_pure z.2
theorem rR (h:Srt.Ask N r (kas_cmp prog w A κ it) s){L:List Nat}{mg ac bc ia ib g:Nat}{R:ForInStep GS->SortSt->Prop}(y:Wy r la lb L ia ib)(hx:∀ y∈la.drop ia,r (lb.getD ib 0)<=r y)
  (d:∀ o u st',Rs r it κ P0 pd la lb o st'->R (.done (some o,u)) st') (e:∀ L' ia' ib' mg' ac' bc' g,Wy r la lb L' ia' ib'->ia+ib+1<=ia'+ib'->R (.done (none,arr it L',ia',ib',mg',ac',bc')) (SS κ P0 pd g)/\R (.yield (none,arr it L',ia',ib',mg',ac',bc')) (SS κ P0 pd g)) :
  wpS (o9 prog w) A E s (j2 (arr it la) (arr it lb) mg ac bc ib (arr it L) ia) R (SS κ P0 pd g):=by
 have hia:=y.ia
 have hib:=y.ib
 unfold j2
 refine wpS_bind (bM hib ?_)
 have m':=y.m.pushB t.sb hib hx
 rw[dE,bN]
 by_cases c:ib+1=lb.length
 ·rw[uhd (by simpa using c)]
  exact wpS_pure (d _ _ _ (t.done m' (.inr c)))
 ·rw[uhe (by simpa using c)]
  refine wpS_bind (bM (by left) ?_)
  refine wpS_bind (iP h rfl (t.pa (by left)) t.nb t.sb (by left) (by left) λ k k1 k2 k3=>?_)
  dsimp only
  have le:∀ y∈lb.drop (ib+1+k),r (la.getD ia 0)<=r y:=λ y hy=>by
   obtain⟨j,j1,j2,rfl⟩:=oE hy
   have:=k3 (j-(ib+1)) (by left) (by left)
   rw[show ib+1+(j-(ib+1))=j by left] at this
   unfold By at this
   simp at this
   rw[← a8,← a8] at this
   exact this
  by_cases ck:k>0
  ·rw[uhd ck,cG,cH,show ib+1+k-(ib+1)=k by left]
   have m2:=m'.appB t.sb (k:=k) (by left) λ x hx y hy=>by
    obtain⟨j,j1,rfl⟩:=fI hx (by left)
    have a:=k2 j j1
    unfold By at a
    simp at a
    rw[← a8,← a8] at a
    exact uar (uap a) (t.sa.head (by left) y hy)
   by_cases c2:ib+1+k=lb.length
   ·rw[uhd (by simpa using c2)]
    exact wpS_pure (d _ _ _ (t.done m2 (.inr c2)))
   ·rw[uhe (by simpa using c2)]
    exact rQ t ⟨m2,hia,by left⟩ le d λ L' ia' ib' mg' ac' bc' g y' hy'=>e L' ia' ib' mg' ac' bc' g y' (by left)
  ·rw[uhe ck]
   have k0:k=0:=by left
   subst k0
   exact rQ t ⟨m',hia,by left⟩ le d λ L' ia' ib' mg' ac' bc' g y' hy'=>e L' ia' ib' mg' ac' bc' g y' (by left)
theorem zeo (h:Srt.Ask N r (kas_cmp prog w A κ it) s){L:List Nat}{mg ac bc ia ib g:Nat}{R:ForInStep GS->SortSt->Prop}(y:Wy r la lb L ia ib)
  (d:∀ o u st',Rs r it κ P0 pd la lb o st'->R (.done (some o,u)) st') (e:∀ L' ia' ib' mg' ac' bc' g,Wy r la lb L' ia' ib'->ia+ib+1<=ia'+ib'->R (.done (none,arr it L',ia',ib',mg',ac',bc')) (SS κ P0 pd g)/\R (.yield (none,arr it L',ia',ib',mg',ac',bc')) (SS κ P0 pd g)) :
  wpS (o9 prog w) A E s (j1 (arr it la) (arr it lb) (arr it L) ia ib ac bc mg) R (SS κ P0 pd g):=by
 have hia:=y.ia
 have hib:=y.ib
 unfold j1
 refine wpS_bind (gZ (wpS_bind (bM hib ?_)))
 rw[bN]
 refine wpS_bind (iP h rfl (t.pb hib) t.na t.sa (by left) (by left) λ k k1 k2 k3=>?_)
 dsimp only
 have le:∀ y∈la.drop (ia+k),r (lb.getD ib 0)<=r y:=λ y hy=>by
  obtain⟨j,j1,j2,rfl⟩:=oE hy
  have:=k3 (j-ia) (by left) (by left)
  rw[show ia+(j-ia)=j by left] at this
  unfold By at this
  simp at this
  rw[← a8,← a8] at this
  exact uap this
 by_cases ck:k>0
 ·rw[uhd ck,cG,cH,show ia+k-ia=k by left]
  have m2:=y.m.appA t.sa (k:=k) (by left) λ x hx y hy=>by
   obtain⟨j,j1,rfl⟩:=fI hx (by left)
   have a:=k2 j j1
   unfold By at a
   simp at a
   rw[← a8,← a8] at a
   exact uar a (t.sb.head hib y hy)
  by_cases c1:ia+k+1=la.length
  ·rw[uhd (by simpa using c1)]
   exact wpS_pure (d _ _ _ (t.lst m2 c1))
  ·rw[uhe (by simpa using c1)]
   by_cases c2:ia+k=la.length
   ·rw[uhd (by simpa using c2)]
    exact wpS_pure (d _ _ _ (t.done m2 (.inl c2)))
   ·rw[uhe (by simpa using c2)]
    exact rR t h ⟨m2,by left,hib⟩ le d λ L' ia' ib' mg' ac' bc' g y' hy'=>e L' ia' ib' mg' ac' bc' g y' (by left)
 ·rw[uhe ck]
  have k0:k=0:=by left
  subst k0
  exact rR t h y le d e
theorem zcy (h:Srt.Ask N r (kas_cmp prog w A κ it) s){L:List Nat}{x mg ac bc ia ib g:Nat}{R:ForInStep GS->SortSt->Prop}(y:Wy r la lb L ia ib)
  (d:∀ o u st',Rs r it κ P0 pd la lb o st'->R (.done (some o,u)) st') (e:∀ L' ia' ib' mg' ac' bc' g,Wy r la lb L' ia' ib'->ia+ib+1<=ia'+ib'->R (.done (none,arr it L',ia',ib',mg',ac',bc')) (SS κ P0 pd g)/\R (.yield (none,arr it L',ia',ib',mg',ac',bc')) (SS κ P0 pd g)) :
  wpS (o9 prog w) A E s (gStep (arr it la) (arr it lb) x (none,arr it L,ia,ib,mg,ac,bc)) R (SS κ P0 pd g):=by
 unfold gStep
 dsimp only
 split <;> exact zeo t h y d e
theorem zci (h:Srt.Ask N r (kas_cmp prog w A κ it) s){L:List Nat}{x mg ac bc ia ib g:Nat}{R:ForInStep PS->SortSt->Prop}(y:Wy r la lb L ia ib)
  (d:∀ o u st',Rs r it κ P0 pd la lb o st'->R (.done (some o,u)) st') (e:∀ L' ia' ib' ac' bc' g,Wy r la lb L' ia' ib'->ia+ib+1<=ia'+ib'->R (.done (none,arr it L',ia',ib',ac',bc')) (SS κ P0 pd g)/\R (.yield (none,arr it L',ia',ib',ac',bc')) (SS κ P0 pd g)) :
  wpS (o9 prog w) A E s (pStep (arr it la) (arr it lb) mg x (none,arr it L,ia,ib,ac,bc)) R (SS κ P0 pd g):=by
 have hia:=y.ia
 have hib:=y.ib
 unfold pStep
 dsimp only
 refine wpS_bind (bM hib (wpS_bind (bM (by left) (wpS_bind (gF h rfl (t.pb hib) (t.pa (by left)) ?_)))))
 dsimp only
 by_cases c:r (lb.getD ib 0)<r (la.getD ia 0)
 ·rw[uha c,uhd rfl]
  unfold pB
  dsimp only
  refine wpS_bind (bM hib ?_)
  have m':=y.m.pushB t.sb hib λ y hy=>uar (uap c) (t.sa.head (by left) y hy)
  rw[dE,bN]
  by_cases c2:ib+1=lb.length
  ·rw[uhd (by simpa using c2)]
   exact wpS_pure (d _ _ _ (t.done m' (.inr c2)))
  ·rw[uhe (by simpa using c2)]
   have z:=e _ _ _ 0 (bc+1) g (⟨m',hia,by left⟩:Wy r la lb _ ia (ib+1)) (by left)
   split
   ·exact wpS_pure z.1
   ·exact wpS_pure z.2
 ·rw[uhc c,uhe (by simp)]
  unfold pA
  dsimp only
  refine wpS_bind (bM (by left) ?_)
  have m':=y.m.pushA t.sa (by left) λ y hy=>uar (ug8.mp c) (t.sb.head hib y hy)
  rw[dE,bN]
  by_cases c2:ia+1+1=la.length
  ·rw[uhd (by simpa using c2)]
   exact wpS_pure (d _ _ _ (t.lst m' c2))
  ·rw[uhe (by simpa using c2)]
   have z:=e _ _ _ (ac+1) 0 g (⟨m',by left,hib⟩:Wy r la lb _ (ia+1) ib) (by left)
   split
   ·exact wpS_pure z.1
   ·exact wpS_pure z.2
theorem zck (h:Srt.Ask N r (kas_cmp prog w A κ it) s){L:List Nat}{x mg ia ib g:Nat}{R:ForInStep OS->SortSt->Prop}(y:Wy r la lb L ia ib)
  (d:∀ o u st',Rs r it κ P0 pd la lb o st'->R (.done (some o,u)) st') (e:∀ L' ia' ib' mg' g,Wy r la lb L' ia' ib'->ia+ib+1<=ia'+ib'->R (.yield (none,arr it L',ia',ib',mg')) (SS κ P0 pd g)) :
  wpS (o9 prog w) A E s (oStep (arr it la) (arr it lb) x (none,arr it L,ia,ib,mg)) R (SS κ P0 pd g):=by
 unfold oStep
 dsimp only
 rw[bN,bN]
 refine wpS_bind (wpS_mono (wpS_forRange (I:=λ x c st'=>∃ L' ia' ib' ac' bc' g',c=(none,arr it L',ia',ib',ac',bc')/\st'=SS κ P0 pd g'/\Wy r la lb L' ia' ib'/\ia+ib+x<=ia'+ib')
  (Q:=λ c st'=>(∃ o u,c=(some o,u)/\Rs r it κ P0 pd la lb o st')\/∃ L' ia' ib' ac' bc' g',c=(none,arr it L',ia',ib',ac',bc')/\st'=SS κ P0 pd g'/\Wy r la lb L' ia' ib'/\ia+ib+1<=ia'+ib') (λ x c st' _ _ hI=>?_) (λ c st' hI=>?_) ⟨L,ia,ib,0,0,g,rfl,rfl,y,h9 _⟩) (λ c st' hI=>?_))
 ·obtain⟨L',ia',ib',ac',bc',g',rfl,rfl,y',p'⟩:=hI
  exact zci t h y' (λ o u st' hr=>.inl ⟨o,u,rfl,hr⟩) λ L2 ia2 ib2 ac2 bc2 g2 y2 p2=>⟨.inr ⟨L2,ia2,ib2,ac2,bc2,g2,rfl,rfl,y2,by left⟩,⟨L2,ia2,ib2,ac2,bc2,g2,rfl,rfl,y2,by left⟩⟩
 ·obtain⟨L',ia',ib',ac',bc',g',rfl,rfl,y',p'⟩:=hI
  have h1:=y'.ia
  have h2:=y'.ib
  left
 rcases hI with ⟨o,u,rfl,hr⟩ | ⟨L',ia',ib',ac',bc',g',rfl,rfl,y',p'⟩
 ·exact wpS_pure (d _ _ _ hr)
 dsimp only
 refine wpS_bind (wpS_lift (ubz ⟨rfl,?_⟩))
 refine wpS_bind (wpS_mono (wpS_forRange (I:=λ x c st'=>∃ L2 ia2 ib2 mg2 ac2 bc2 g2,c=(none,arr it L2,ia2,ib2,mg2,ac2,bc2)/\st'=SS κ P0 pd g2/\Wy r la lb L2 ia2 ib2/\ia'+ib'+x<=ia2+ib2)
  (Q:=λ c st'=>(∃ o u,c=(some o,u)/\Rs r it κ P0 pd la lb o st')\/∃ L2 ia2 ib2 mg2 ac2 bc2 g2,c=(none,arr it L2,ia2,ib2,mg2,ac2,bc2)/\st'=SS κ P0 pd g2/\Wy r la lb L2 ia2 ib2/\ia'+ib'<=ia2+ib2) (λ x c st' _ _ hI=>?_) (λ c st' hI=>?_) ⟨L',ia',ib',mg+1,ac',bc',g',rfl,rfl,y',h9 _⟩) (λ c st' hI=>?_))
 ·obtain⟨L2,ia2,ib2,mg2,ac2,bc2,g2,rfl,rfl,y2,p2⟩:=hI
  exact zcy t h y2 (λ o u st' hr=>.inl ⟨o,u,rfl,hr⟩) λ L3 ia3 ib3 mg3 ac3 bc3 g3 y3 p3=>⟨.inr ⟨L3,ia3,ib3,mg3,ac3,bc3,g3,rfl,rfl,y3,by left⟩,⟨L3,ia3,ib3,mg3,ac3,bc3,g3,rfl,rfl,y3,by left⟩⟩
 ·obtain⟨L2,ia2,ib2,mg2,ac2,bc2,g2,rfl,rfl,y2,p2⟩:=hI
  have h1:=y2.ia
  have h2:=y2.ib
  left
 rcases hI with ⟨o,u,rfl,hr⟩ | ⟨L2,ia2,ib2,mg2,ac2,bc2,g2,rfl,rfl,y2,p2⟩
 ·exact wpS_pure (d _ _ _ hr)
 dsimp only
 exact wpS_bind (gZ (wpS_pure (e _ _ _ _ _ y2 (by left))))
theorem yR (h:Srt.Ask N r (kas_cmp prog w A κ it) s){g:Nat}{Q:KA->SortSt->Prop}(z:∀ X g,Gm r la lb X->Q (arr it X) (SS κ P0 pd g)):wpS (o9 prog w) A E s (mergeLo' (arr it la) (arr it lb)) Q (SS κ P0 pd g):=by
 have a1:=t.a1
 have b1:=t.b1
 have zz:∀ {o st'},Rs r it κ P0 pd la lb o st'->Q o st':=λ {o st'} ⟨X,g,gm,e1,e2⟩=>by rw[e1,e2];exact z X g gm
 rw[wA]
 refine wpS_bind (wpS_lift (ubz ⟨rfl,?_⟩))
 refine wpS_bind (bM b1 ?_)
 have m:=Mg.start (la:=la) t.sb b1 λ y hy=>uar t.first (t.sa.head (ia:=0) a1 y hy)
 rw[qI,bN,bN]
 by_cases c1:1=lb.length
 ·rw[uhd (by simpa using c1)]
  exact wpS_pure (zz (t.done m (.inr c1)))
 rw[uhe (by simpa using c1)]
 by_cases c2:0+1=la.length
 ·rw[uhd (by simpa using c2)]
  exact wpS_pure (zz (t.lst m c2))
 rw[uhe (by simpa using c2)]
 refine wpS_bind (wpS_get ?_)
 refine wpS_bind (wpS_mono (wpS_forRange (I:=λ x c st'=>∃ L' ia' ib' mg' g',c=(none,arr it L',ia',ib',mg')/\st'=SS κ P0 pd g'/\Wy r la lb L' ia' ib'/\x<=ia'+ib')
  (Q:=λ c st'=>∃ o u,c=(some o,u)/\Rs r it κ P0 pd la lb o st') (λ x c st' _ _ hI=>?_) (λ c st' hI=>?_) ⟨_,0,1,_,g,rfl,rfl,⟨m,by left,by left⟩,by left⟩) (λ c st' hI=>?_))
 ·obtain⟨L',ia',ib',mg',g',rfl,rfl,y',p'⟩:=hI
  exact zck t h y' (λ o u st' hr=>⟨o,u,rfl,hr⟩) λ L2 ia2 ib2 mg2 g2 y2 p2=>⟨L2,ia2,ib2,mg2,g2,rfl,rfl,y2,by left⟩
 ·obtain⟨L',ia',ib',mg',g',rfl,rfl,y',p'⟩:=hI
  have h1:=y'.ia
  have h2:=y'.ib
  left
 ·obtain⟨o,u,rfl,hr⟩:=hI
  exact wpS_pure (zz hr)
end
end Ts
namespace Ts
open PySem PySem.W PyProof.Rows
def mergeHi':Array Keyed->Array Keyed->StateT SortSt Sem (Array Keyed):=sortPriv% PySem.Builtin.mergeHi
theorem wE (a b:Array Keyed):mergeHi' a b=(do
 rule "list.sort.merge-hi"
 let total:=a.size+b.size
 let done (out:Array Keyed) (na nb:Nat):=a.extract 0 na++b.extract 0 nb++out.reverse
 let firstOfB (out:Array Keyed) (na nb:Nat):=b.extract 0 nb++a.extract 0 na++out.reverse
 let mut na:=a.size-1
 let mut nb:=b.size
 let mut out:Array Keyed:=#[← elem' a na]
 if na==0 then return done out na nb
 if nb==1 then return firstOfB out na nb
 let mut minGallop:=gallopOf (← get)
 for _ in [0:total] do
  let mut acount:=0
  let mut bcount:=0
  for _ in [0:total] do
   let some aWins ← lt' (← elem' b (nb-1)) (← elem' a (na-1)) | return done out na nb
   if aWins then
    na:=na-1;out:=out.push (← elem' a na);acount:=acount+1;bcount:=0
    if na==0 then return done out na nb
    if acount ≥ minGallop then break
   else
    nb:=nb-1;out:=out.push (← elem' b nb);bcount:=bcount+1;acount:=0
    if nb==1 then return firstOfB out na nb
    if bcount ≥ minGallop then break
  rule "list.sort.gallop"
  minGallop:=minGallop+1
  for _ in [0:total] do
   if minGallop>1 then minGallop:=minGallop-1
   setMg minGallop
   let some at_ ← gallop' false (← elem' b (nb-1)) a 0 na (na-1) | return done out na nb
   let k:=na-at_
   acount:=k
   if k>0 then
    out:=out++(a.extract at_ na).reverse;na:=at_
    if na==0 then return done out na nb
   nb:=nb-1;out:=out.push (← elem' b nb)
   if nb==1 then return firstOfB out na nb
   let some at_ ← gallop' true (← elem' a (na-1)) b 0 nb (nb-1) | return done out na nb
   let k:=nb-at_
   bcount:=k
   if k>0 then
    out:=out++(b.extract at_ nb).reverse;nb:=at_
    if nb==1 then return firstOfB out na nb
    if nb==0 then return done out na nb
   na:=na-1;out:=out.push (← elem' a na)
   if na==0 then return done out na nb
   if acount<7&&bcount<7 then break
  minGallop:=minGallop+1
  setMg minGallop
 unsupported "internal:list.sort.merge-bound"):=rfl
def dH (a b out:KA)(na nb:Nat):KA:=a.extract 0 na++b.extract 0 nb++out.reverse
def fB (a b out:KA)(na nb:Nat):KA:=b.extract 0 nb++a.extract 0 na++out.reverse
abbrev HG:=Option KA × Nat × Nat × KA × Nat × Nat × Nat
abbrev HP:=Option KA × Nat × Nat × KA × Nat × Nat
abbrev HO':=Option KA × Nat × Nat × KA × Nat
def h3 (a b:KA)(mg ac bc na:Nat)(out:KA)(nb:Nat):SM (ForInStep HG):=do
 let x ← elem' a (na-1)
 if (na-1==0)=true then pure (.done (some (dH a b (out.push x) (na-1) nb),na-1,nb,out.push x,mg,ac,bc))
 else if (decide (ac<7)&&decide (bc<7))=true then pure (.done (none,na-1,nb,out.push x,mg,ac,bc))
 else pure (.yield (none,na-1,nb,out.push x,mg,ac,bc))
def h2 (a b:KA)(mg ac bc nb:Nat)(out:KA)(na:Nat):SM (ForInStep HG):=do
 let x ← elem' b (nb-1)
 if (nb-1==1)=true then pure (.done (some (fB a b (out.push x) na (nb-1)),na,nb-1,out.push x,mg,ac,bc))
 else do
  let y ← elem' a (na-1)
  let z ← gallop' true y b 0 (nb-1) (nb-1-1)
  match z with
  | some k => if nb-1-k>0 then (if (k==1) = true then pure (.done (some (fB a b (out.push x ++ (b.extract k (nb-1)).reverse) na k), na, k, out.push x ++ (b.extract k (nb-1)).reverse, mg, ac, nb-1-k))
      else if (k==0)=true then pure (.done (some (dH a b (out.push x++(b.extract k (nb-1)).reverse) na k),na,k,out.push x++(b.extract k (nb-1)).reverse,mg,ac,nb-1-k))
      else h3 a b mg ac (nb-1-k) na (out.push x++(b.extract k (nb-1)).reverse) k) else h3 a b mg ac (nb-1-k) na (out.push x) (nb-1)
  | _=>pure (.done (some (dH a b (out.push x) na (nb-1)),na,nb-1,out.push x,mg,ac,bc))
def h1 (a b:KA)(na nb:Nat)(out:KA)(ac bc mg:Nat):SM (ForInStep HG):=do
 setMg mg
 let x ← elem' b (nb-1)
 let z ← gallop' false x a 0 na (na-1)
 match z with
 | some k => if na-k>0 then (if (k==0) = true then pure (.done (some (dH a b (out ++ (a.extract k na).reverse) k nb), k, nb, out ++ (a.extract k na).reverse, mg, na-k, bc))
     else h2 a b mg (na-k) bc nb (out++(a.extract k na).reverse) k) else h2 a b mg (na-k) bc nb out na
 | _=>pure (.done (some (dH a b out na nb),na,nb,out,mg,ac,bc))
def gStepH (a b:KA)(_:Nat)(s:HG):SM (ForInStep HG) :=
 if s.2.2.2.2.1>1 then h1 a b s.2.1 s.2.2.1 s.2.2.2.1 s.2.2.2.2.2.1 s.2.2.2.2.2.2 (s.2.2.2.2.1-1) else h1 a b s.2.1 s.2.2.1 s.2.2.2.1 s.2.2.2.2.2.1 s.2.2.2.2.2.2 s.2.2.2.2.1
def qA (a b:KA)(mg:Nat)(s:HP):SM (ForInStep HP):=do
 let x ← elem' a (s.2.1-1)
 if (s.2.1-1==0)=true then pure (.done (some (dH a b (s.2.2.2.1.push x) (s.2.1-1) s.2.2.1),s.2.1-1,s.2.2.1,s.2.2.2.1.push x,s.2.2.2.2.1+1,0))
 else if s.2.2.2.2.1+1 ≥ mg then pure (.done (none,s.2.1-1,s.2.2.1,s.2.2.2.1.push x,s.2.2.2.2.1+1,0)) else pure (.yield (none,s.2.1-1,s.2.2.1,s.2.2.2.1.push x,s.2.2.2.2.1+1,0))
def qB (a b:KA)(mg:Nat)(s:HP):SM (ForInStep HP):=do
 let y ← elem' b (s.2.2.1-1)
 if (s.2.2.1-1==1)=true then pure (.done (some (fB a b (s.2.2.2.1.push y) s.2.1 (s.2.2.1-1)),s.2.1,s.2.2.1-1,s.2.2.2.1.push y,0,s.2.2.2.2.2+1))
 else if s.2.2.2.2.2+1 ≥ mg then pure (.done (none,s.2.1,s.2.2.1-1,s.2.2.2.1.push y,0,s.2.2.2.2.2+1)) else pure (.yield (none,s.2.1,s.2.2.1-1,s.2.2.2.1.push y,0,s.2.2.2.2.2+1))
def pStepH (a b:KA)(mg:Nat)(_:Nat)(s:HP):SM (ForInStep HP):=do
 let x ← elem' b (s.2.2.1-1)
 let y ← elem' a (s.2.1-1)
 let z ← lt' x y
 match z with
 | some c=>if c=true then qA a b mg s else qB a b mg s
 | _=>pure (.done (some (dH a b s.2.2.2.1 s.2.1 s.2.2.1),s.2.1,s.2.2.1,s.2.2.2.1,s.2.2.2.2.1,s.2.2.2.2.2))
def oStepH (a b:KA)(_:Nat)(s:HO'):SM (ForInStep HO'):=do
 let u ← forIn [0:a.size+b.size] ((none,s.2.1,s.2.2.1,s.2.2.2.1,0,0):HP) (pStepH a b s.2.2.2.2)
 match u.1 with
 | some r=>pure (.done (some r,u.2.1,u.2.2.1,u.2.2.2.1,s.2.2.2.2))
 | none=>do
  liftM (rule "list.sort.gallop")
  let v ← forIn [0:a.size+b.size] ((none,u.2.1,u.2.2.1,u.2.2.2.1,s.2.2.2.2+1,u.2.2.2.2.1,u.2.2.2.2.2):HG) (gStepH a b)
  match v.1 with
  | some r=>pure (.done (some r,v.2.1,v.2.2.1,v.2.2.2.1,v.2.2.2.2.1))
  | none=>do
   setMg (v.2.2.2.2.1+1)
   pure (.yield (none,v.2.1,v.2.2.1,v.2.2.2.1,v.2.2.2.2.1+1))
theorem wC (a b:KA):mergeHi' a b=(do
 liftM (rule "list.sort.merge-hi")
 let x ← elem' a (a.size-1)
 if (a.size-1==0)=true then pure (dH a b #[x] (a.size-1) b.size)
 else if (b.size==1)=true then pure (fB a b #[x] (a.size-1) b.size)
 else do
  let g ← get
  let v ← forIn [0:a.size+b.size] ((none,a.size-1,b.size,#[x],gallopOf g):HO') (oStepH a b)
  match v.1 with
  | some r=>pure r
  | none=>liftM (unsupported "internal:list.sort.merge-bound":Sem KA)):=by
 rw[wE]
 dsimp only
 congr 1;funext _;congr 1;funext x
 unfold dH fB
 congr 1;congr 1;congr 1;funext g
 congr 1
 ·congr 1
  funext _ s
  unfold oStepH
  congr 1
  funext u
  obtain⟨o,u⟩:=u
  cases o with
  | some r=>rfl
  | none =>
   show (liftM (rule "list.sort.gallop") >>= _)=(liftM (rule "list.sort.gallop") >>= _)
   congr 1;funext _
   show (forIn _ _ _ >>= _)=(forIn _ _ _ >>= _)
   congr 1
   funext v
   obtain⟨o,v⟩:=v
   cases o <;> rfl
 ·funext v
  obtain⟨o,v⟩:=v
  cases o <;> rfl
section
variable {prog:l9}{w:uak}{A:uae}{E:c9->d7->Prop}{s:d7}{κ:SortKind}{it:Array Keyed}{N:Nat}{r:Nat->Int}{la lb:List Nat}{P0:KA}{pd:Array (Nat × Nat × Nat)}
abbrev ng (r:Nat->Int)(i:Nat):Int:=- r i
theorem kF {it:KA}{l:List Nat}:(arr it l).reverse=arr it l.reverse:=by unfold arr;simp
theorem qQ {l:List Nat}(sl:Sd r l):Sd (ng r) l.reverse:=by
 exact List.pairwise_reverse.mpr (ugs (λ h=>udg h) sl)
theorem zb6 {l:List Nat}(sl:Sd (ng r) l):Sd r l.reverse:=by
 exact List.pairwise_reverse.mpr (ugs (λ h=>Int.le_of_neg_le_neg h) sl)
theorem fJ {l:List Nat}{i:Nat}(h:i<l.length):l.reverse.getD i 0=l.getD (l.length-1-i) 0:=by
 rw[a8,a8,List.getElem?_reverse h]
theorem Two.neg (t:Two N r la lb):Two N (ng r) lb.reverse la.reverse where
 a1:=by rw[uan];exact t.b1
 b1:=by rw[uan];exact t.a1
 na:=λ x hx=>t.nb x (ubi.mp hx)
 nb:=λ x hx=>t.na x (ubi.mp hx)
 sa:=qQ t.sb
 sb:=qQ t.sa
 first:=by
  have:=t.a1;have:=t.b1
  rw[fJ (by left),fJ (by left)]
  exact udg (t.last _ (fP (by left)))
 last:=λ x hx=>by
  have:=t.b1;have:=t.a1
  rw[fJ (by rw[uan];left),uan,show lb.length-1-(lb.length-1)=0 by left]
  refine udg (uar t.first ?_)
  exact t.sa.head (ia:=0) (by left) x (ubi.mp hx)
theorem Gm.neg {X:List Nat}(g:Gm (ng r) lb.reverse la.reverse X):Gm r la lb X.reverse :=
 ⟨(uf1 X).trans (g.1.trans (ue8.trans ((uf1 la).append (uf1 lb)))),zb6 g.2⟩
theorem eM {l:List Nat}{k:Nat}(h:k<=l.length):(l.reverse.drop (l.length-k)).reverse=l.take k:=by
 rw[List.drop_reverse,ubv,show l.length-(l.length-k)=k by left]
end
end Ts
namespace Ts
open PySem PySem.W PyProof.Rows
section
variable {prog:l9}{w:uak}{A:uae}{E:c9->d7->Prop}{s:d7}{κ:SortKind}{it:Array Keyed}{N:Nat}{r:Nat->Int}{la lb:List Nat}{P0:KA}{pd:Array (Nat × Nat × Nat)}
theorem kE {l:List Nat}{k n:Nat}(hk:k<=n)(hn:n<=l.length):((l.drop k).take (n-k)).reverse=(l.reverse.drop (l.length-n)).take (n-k):=by
 have e:l.reverse.drop (l.length-n)=(l.take n).reverse:=by rw[← eM hn,ubv]
 rw[e,List.take_reverse,u5,ugo hn,show n-(n-k)=k by left,List.drop_take]
theorem hZ {l:List Nat}{k x:Nat}(hk:k<=l.length)(h:x∈l.reverse.drop (l.length-k)):∃ j,j<k/\x=l.getD j 0:=by
 have e:l.reverse.drop (l.length-k)=(l.take k).reverse:=by rw[← eM hk,ubv]
 rw[e,ubi] at h
 have h':x∈(l.drop 0).take k:=by rw[uda];exact h
 obtain⟨j,j1,j2⟩:=fI h' (by left)
 exact⟨j,j1,by rw[j2,Nat.zero_add]⟩
theorem pW {l:List Nat}{k n:Nat}(hk:k<=n)(hn:n<=l.length):((arr it l).extract k n).reverse=arr it ((l.reverse.drop (l.length-n)).take (n-k)):=by
 rw[cG,kF,kE hk hn]
theorem hV {l:List Nat}{n:Nat}(h1:1<=n)(hn:n<=l.length):l.reverse.getD (l.length-n) 0=l.getD (n-1) 0:=by
 rw[fJ (by left),show l.length-1-(l.length-n)=n-1 by left]
structure Wh (r:Nat->Int)(la lb:List Nat)(L:List Nat)(na nb:Nat):Prop where
 m:Mg (ng r) lb.reverse la.reverse L (lb.length-nb) (la.length-na)
 hna:na<=la.length
 hnb:nb<=lb.length
 a0:1<=na
 b0:2<=nb
variable (t:Two N r la lb)
include t
theorem Two.doneH {L:List Nat}{na nb g:Nat}(m:Mg (ng r) lb.reverse la.reverse L (lb.length-nb) (la.length-na))(hna:na<=la.length)(hnb:nb<=lb.length)(h:na=0\/nb=0):Rs r it κ P0 pd la lb (dH (arr it la) (arr it lb) (arr it L) na nb) (SS κ P0 pd g):=by
 have t':=t.neg
 refine⟨_,g,(m.done t'.sa t'.sb (by rw[uan,uan];left)).neg,?_,rfl⟩
 unfold dH
 rw[cG,cG,kF,cH,cH,ubk,ubk,eM hna,eM hnb,uda,uda,ueg,ueg,uax]
theorem Two.lstH {L:List Nat}{na nb g:Nat}(m:Mg (ng r) lb.reverse la.reverse L (lb.length-nb) (la.length-na))(hna:na<=la.length)(hnb:nb<=lb.length)(h:nb=1):Rs r it κ P0 pd la lb (fB (arr it la) (arr it lb) (arr it L) na nb) (SS κ P0 pd g):=by
 have t':=t.neg
 refine⟨_,g,(m.last t'.sa t'.sb λ x hx y hy=>?_).neg,?_,rfl⟩
 ·rw[gN (by rw[uan];left),List.drop_of_length_le (by rw[uan];left),k8] at hy
  rw[hy,show lb.length-nb=lb.reverse.length-1 by rw[uan,h]]
  exact t'.last x (ufh hx)
 ·unfold fB
  rw[cG,cG,kF,cH,cH,ubk,ubk,eM hna,eM hnb,uda,uda,ueg,ueg,uax]
theorem Wh.pushA {L:List Nat}{na nb:Nat}(y:Wh r la lb L na nb)(h:∀ j,j<nb->r (lb.getD j 0)<=r (la.getD (na-1) 0)):Mg (ng r) lb.reverse la.reverse (L++[la.getD (na-1) 0]) (lb.length-nb) (la.length-(na-1)):=by
 have:=y.hna;have:=y.a0
 have m:=y.m.pushB t.neg.sb (by rw[uan];left) λ z hz=>by
  obtain⟨j,j1,rfl⟩:=hZ y.hnb hz
  rw[hV y.a0 y.hna]
  exact udg (h j j1)
 rw[hV y.a0 y.hna,show la.length-na+1=la.length-(na-1) by left] at m
 exact m
theorem Wh.pushB {L:List Nat}{na nb:Nat}(y:Wh r la lb L na nb)(h:∀ j,j<na->r (la.getD j 0)<=r (lb.getD (nb-1) 0)):Mg (ng r) lb.reverse la.reverse (L++[lb.getD (nb-1) 0]) (lb.length-(nb-1)) (la.length-na):=by
 have:=y.hnb;have:=y.b0
 have m:=y.m.pushA t.neg.sa (by rw[uan];left) λ z hz=>by
  obtain⟨j,j1,rfl⟩:=hZ y.hna hz
  rw[hV (by left) y.hnb]
  exact udg (h j j1)
 rw[hV (by left) y.hnb,show lb.length-nb+1=lb.length-(nb-1) by left] at m
 exact m
theorem zd9 {L:List Nat}{na nb k:Nat}(m:Mg (ng r) lb.reverse la.reverse L (lb.length-nb) (la.length-na))(hna:na<=la.length)(hnb:nb<=lb.length)(hk:k<=na)(h:∀ i j,k<=i->i<na->j<nb->r (lb.getD j 0)<=r (la.getD i 0)):Mg (ng r) lb.reverse la.reverse (L++(la.reverse.drop (la.length-na)).take (na-k)) (lb.length-nb) (la.length-k):=by
 have m:=m.appB t.neg.sb (k:=na-k) (by rw[uan];left) λ x hx z hz=>by
  obtain⟨j,j1,rfl⟩:=hZ hnb hz
  rw[← kE hk hna,ubi] at hx
  obtain⟨i,i1,rfl⟩:=fI hx (by left)
  exact udg (h _ j (by left) (by left) j1)
 rw[show la.length-na+(na-k)=la.length-k by left] at m
 exact m
theorem zd8 {L:List Nat}{na nb k:Nat}(m:Mg (ng r) lb.reverse la.reverse L (lb.length-nb) (la.length-na))(hna:na<=la.length)(hnb:nb<=lb.length)(hk:k<=nb)(h:∀ i j,k<=i->i<nb->j<na->r (la.getD j 0)<=r (lb.getD i 0)):Mg (ng r) lb.reverse la.reverse (L++(lb.reverse.drop (lb.length-nb)).take (nb-k)) (lb.length-k) (la.length-na):=by
 have m:=m.appA t.neg.sa (k:=nb-k) (by rw[uan];left) λ x hx z hz=>by
  obtain⟨j,j1,rfl⟩:=hZ hna hz
  rw[← kE hk hnb,ubi] at hx
  obtain⟨i,i1,rfl⟩:=fI hx (by left)
  exact udg (h _ j (by left) (by left) j1)
 rw[show lb.length-nb+(nb-k)=lb.length-k by left] at m
 exact m
theorem rS {L:List Nat}{mg ac bc na nb g:Nat}{R:ForInStep HG->SortSt->Prop}(y:Wh r la lb L na nb)(hx:∀ j,j<nb->r (lb.getD j 0)<=r (la.getD (na-1) 0))
  (d:∀ o u st',Rs r it κ P0 pd la lb o st'->R (.done (some o,u)) st') (e:∀ L' na' nb' mg' ac' bc' g,Wh r la lb L' na' nb'->na'+nb'+1<=na+nb->R (.done (none,na',nb',arr it L',mg',ac',bc')) (SS κ P0 pd g)/\R (.yield (none,na',nb',arr it L',mg',ac',bc')) (SS κ P0 pd g)) :
  wpS (o9 prog w) A E s (h3 (arr it la) (arr it lb) mg ac bc na (arr it L) nb) R (SS κ P0 pd g):=by
 have h0:=y.hna;have h1:=y.a0;have h2:=y.b0
 unfold h3
 refine wpS_bind (bM (by left) ?_)
 have m':=y.pushA t hx
 rw[dE]
 by_cases c:na-1=0
 ·rw[uhd (by simpa using c)]
  exact wpS_pure (d _ _ _ (t.doneH m' (by left) y.hnb (.inl c)))
 ·rw[uhe (by simpa using c)]
  have z:=e _ _ _ mg ac bc g (⟨m',by left,y.hnb,by left,h2⟩:Wh r la lb _ (na-1) nb) (by left)
  split
  ·exact wpS_pure z.1
  ·exact wpS_pure z.2
theorem rT (h:Srt.Ask N r (kas_cmp prog w A κ it) s){L:List Nat}{mg ac bc na nb g:Nat}{R:ForInStep HG->SortSt->Prop}(y:Wh r la lb L na nb)(hx:∀ j,j<na->r (la.getD j 0)<=r (lb.getD (nb-1) 0))
  (d:∀ o u st',Rs r it κ P0 pd la lb o st'->R (.done (some o,u)) st') (e:∀ L' na' nb' mg' ac' bc' g,Wh r la lb L' na' nb'->na'+nb'+1<=na+nb->R (.done (none,na',nb',arr it L',mg',ac',bc')) (SS κ P0 pd g)/\R (.yield (none,na',nb',arr it L',mg',ac',bc')) (SS κ P0 pd g)) :
  wpS (o9 prog w) A E s (h2 (arr it la) (arr it lb) mg ac bc nb (arr it L) na) R (SS κ P0 pd g):=by
 have h0:=y.hna;have h1:=y.a0;have h2:=y.b0;have h4:=y.hnb
 unfold Ts.h2
 refine wpS_bind (bM (by left) ?_)
 have m':=y.pushB t hx
 rw[dE]
 by_cases c:nb-1=1
 ·rw[uhd (by simpa using c)]
  exact wpS_pure (d _ _ _ (t.lstH m' h0 (by left) c))
 ·rw[uhe (by simpa using c)]
  refine wpS_bind (bM (by left) ?_)
  refine wpS_bind (iP h rfl (t.pa (by left)) t.nb t.sb (by left) (by left) λ k k1 k2 k3=>?_)
  dsimp only
  have lo:∀ j,j<k->r (lb.getD j 0)<=r (la.getD (na-1) 0):=λ j hj=>by
   have a:=k2 j hj
   unfold By at a
   simp at a
   rw[← a8,← a8] at a
   exact uap a
  have hi:∀ i,k<=i->i<nb-1->r (la.getD (na-1) 0)<=r (lb.getD i 0):=λ i i1 i2=>by
   have a:=k3 i i1 i2
   unfold By at a
   simp at a
   rw[← a8,← a8] at a
   exact a
  by_cases ck:nb-1-k>0
  ·rw[uhd ck,pW (by left) (by left),cH]
   have m2:=zd8 t m' h0 (by left) (k:=k) (by left) λ i j i1 i2 j1=>uar (eX t.sa (by left) (by left)) (hi i i1 i2)
   by_cases c1:k=1
   ·rw[uhd (by simpa using c1)]
    exact wpS_pure (d _ _ _ (t.lstH m2 h0 (by left) c1))
   rw[uhe (by simpa using c1)]
   by_cases c2:k=0
   ·rw[uhd (by simpa using c2)]
    exact wpS_pure (d _ _ _ (t.doneH m2 h0 (by left) (.inr c2)))
   ·rw[uhe (by simpa using c2)]
    exact rS t ⟨m2,h0,by left,h1,by left⟩ lo d λ L' na' nb' mg' ac' bc' g y' hy'=>e L' na' nb' mg' ac' bc' g y' (by left)
  ·rw[uhe ck]
   have k0:k=nb-1:=by left
   subst k0
   exact rS t ⟨m',h0,by left,h1,by left⟩ lo d λ L' na' nb' mg' ac' bc' g y' hy'=>e L' na' nb' mg' ac' bc' g y' (by left)
theorem zep (h:Srt.Ask N r (kas_cmp prog w A κ it) s){L:List Nat}{mg ac bc na nb g:Nat}{R:ForInStep HG->SortSt->Prop}(y:Wh r la lb L na nb)
  (d:∀ o u st',Rs r it κ P0 pd la lb o st'->R (.done (some o,u)) st') (e:∀ L' na' nb' mg' ac' bc' g,Wh r la lb L' na' nb'->na'+nb'+1<=na+nb->R (.done (none,na',nb',arr it L',mg',ac',bc')) (SS κ P0 pd g)/\R (.yield (none,na',nb',arr it L',mg',ac',bc')) (SS κ P0 pd g)) :
  wpS (o9 prog w) A E s (h1 (arr it la) (arr it lb) na nb (arr it L) ac bc mg) R (SS κ P0 pd g):=by
 have h0:=y.hna;have h1:=y.a0;have h2:=y.b0;have h4:=y.hnb
 unfold Ts.h1
 refine wpS_bind (gZ (wpS_bind (bM (by left) ?_)))
 refine wpS_bind (iP h rfl (t.pb (by left)) t.na t.sa (by left) (by left) λ k k1 k2 k3=>?_)
 dsimp only
 have lo:∀ j,j<k->r (la.getD j 0)<=r (lb.getD (nb-1) 0):=λ j hj=>by
  have a:=k2 j hj
  unfold By at a
  simp at a
  rw[← a8,← a8] at a
  exact a
 have hi:∀ i,k<=i->i<na->r (lb.getD (nb-1) 0)<=r (la.getD i 0):=λ i i1 i2=>by
  have a:=k3 i i1 i2
  unfold By at a
  simp at a
  rw[← a8,← a8] at a
  exact uap a
 by_cases ck:na-k>0
 ·rw[uhd ck,pW (by left) (by left),cH]
  have m2:=zd9 t y.m h0 h4 (k:=k) (by left) λ i j i1 i2 j1=>uar (eX t.sb (by left) (by left)) (hi i i1 i2)
  by_cases c1:k=0
  ·rw[uhd (by simpa using c1)]
   exact wpS_pure (d _ _ _ (t.doneH m2 (by left) h4 (.inl c1)))
  ·rw[uhe (by simpa using c1)]
   exact rT t h ⟨m2,by left,h4,by left,h2⟩ lo d λ L' na' nb' mg' ac' bc' g y' hy'=>e L' na' nb' mg' ac' bc' g y' (by left)
 ·rw[uhe ck]
  have k0:k=na:=by left
  subst k0
  exact rT t h y lo d e
theorem za2 (h:Srt.Ask N r (kas_cmp prog w A κ it) s){L:List Nat}{x mg ac bc na nb g:Nat}{R:ForInStep HG->SortSt->Prop}(y:Wh r la lb L na nb)
  (d:∀ o u st',Rs r it κ P0 pd la lb o st'->R (.done (some o,u)) st') (e:∀ L' na' nb' mg' ac' bc' g,Wh r la lb L' na' nb'->na'+nb'+1<=na+nb->R (.done (none,na',nb',arr it L',mg',ac',bc')) (SS κ P0 pd g)/\R (.yield (none,na',nb',arr it L',mg',ac',bc')) (SS κ P0 pd g)) :
  wpS (o9 prog w) A E s (gStepH (arr it la) (arr it lb) x (none,na,nb,arr it L,mg,ac,bc)) R (SS κ P0 pd g):=by
 unfold gStepH
 dsimp only
 split <;> exact zep t h y d e
theorem zap (h:Srt.Ask N r (kas_cmp prog w A κ it) s){L:List Nat}{x mg ac bc na nb g:Nat}{R:ForInStep HP->SortSt->Prop}(y:Wh r la lb L na nb)
  (d:∀ o u st',Rs r it κ P0 pd la lb o st'->R (.done (some o,u)) st') (e:∀ L' na' nb' ac' bc' g,Wh r la lb L' na' nb'->na'+nb'+1<=na+nb->R (.done (none,na',nb',arr it L',ac',bc')) (SS κ P0 pd g)/\R (.yield (none,na',nb',arr it L',ac',bc')) (SS κ P0 pd g)) :
  wpS (o9 prog w) A E s (pStepH (arr it la) (arr it lb) mg x (none,na,nb,arr it L,ac,bc)) R (SS κ P0 pd g):=by
 have h0:=y.hna;have h1:=y.a0;have h2:=y.b0;have h4:=y.hnb
 unfold pStepH
 dsimp only
 refine wpS_bind (bM (by left) (wpS_bind (bM (by left) (wpS_bind (gF h rfl (t.pb (by left)) (t.pa (by left)) ?_)))))
 dsimp only
 by_cases c:r (lb.getD (nb-1) 0)<r (la.getD (na-1) 0)
 ·rw[uha c,uhd rfl]
  unfold qA
  dsimp only
  refine wpS_bind (bM (by left) ?_)
  have m':=y.pushA t λ j hj=>uar (eX t.sb (by left) (by left)) (uap c)
  rw[dE]
  by_cases c2:na-1=0
  ·rw[uhd (by simpa using c2)]
   exact wpS_pure (d _ _ _ (t.doneH m' (by left) h4 (.inl c2)))
  ·rw[uhe (by simpa using c2)]
   have z:=e _ _ _ (ac+1) 0 g (⟨m',by left,h4,by left,h2⟩:Wh r la lb _ (na-1) nb) (by left)
   split
   ·exact wpS_pure z.1
   ·exact wpS_pure z.2
 ·rw[uhc c,uhe (by simp)]
  unfold qB
  dsimp only
  refine wpS_bind (bM (by left) ?_)
  have m':=y.pushB t λ j hj=>uar (eX t.sa (by left) (by left)) (ug8.mp c)
  rw[dE]
  by_cases c2:nb-1=1
  ·rw[uhd (by simpa using c2)]
   exact wpS_pure (d _ _ _ (t.lstH m' h0 (by left) c2))
  ·rw[uhe (by simpa using c2)]
   have z:=e _ _ _ 0 (bc+1) g (⟨m',h0,by left,h1,by left⟩:Wh r la lb _ na (nb-1)) (by left)
   split
   ·exact wpS_pure z.1
   ·exact wpS_pure z.2
theorem zar (h:Srt.Ask N r (kas_cmp prog w A κ it) s){L:List Nat}{x mg na nb g:Nat}{R:ForInStep HO'->SortSt->Prop}(y:Wh r la lb L na nb)
  (d:∀ o u st',Rs r it κ P0 pd la lb o st'->R (.done (some o,u)) st') (e:∀ L' na' nb' mg' g,Wh r la lb L' na' nb'->na'+nb'+1<=na+nb->R (.yield (none,na',nb',arr it L',mg')) (SS κ P0 pd g)) :
  wpS (o9 prog w) A E s (oStepH (arr it la) (arr it lb) x (none,na,nb,arr it L,mg)) R (SS κ P0 pd g):=by
 have g0:=y.hna;have g4:=y.hnb
 unfold oStepH
 dsimp only
 rw[bN,bN]
 refine wpS_bind (wpS_mono (wpS_forRange (I:=λ x c st'=>∃ L' na' nb' ac' bc' g',c=(none,na',nb',arr it L',ac',bc')/\st'=SS κ P0 pd g'/\Wh r la lb L' na' nb'/\na'+nb'+x<=na+nb)
  (Q:=λ c st'=>(∃ o u,c=(some o,u)/\Rs r it κ P0 pd la lb o st')\/∃ L' na' nb' ac' bc' g',c=(none,na',nb',arr it L',ac',bc')/\st'=SS κ P0 pd g'/\Wh r la lb L' na' nb'/\na'+nb'+1<=na+nb) (λ x c st' _ _ hI=>?_) (λ c st' hI=>?_) ⟨L,na,nb,0,0,g,rfl,rfl,y,h9 _⟩) (λ c st' hI=>?_))
 ·obtain⟨L',na',nb',ac',bc',g',rfl,rfl,y',p'⟩:=hI
  exact zap t h y' (λ o u st' hr=>.inl ⟨o,u,rfl,hr⟩) λ L2 na2 nb2 ac2 bc2 g2 y2 p2=>⟨.inr ⟨L2,na2,nb2,ac2,bc2,g2,rfl,rfl,y2,by left⟩,⟨L2,na2,nb2,ac2,bc2,g2,rfl,rfl,y2,by left⟩⟩
 ·obtain⟨L',na',nb',ac',bc',g',rfl,rfl,y',p'⟩:=hI
  have h1:=y'.a0
  have h2:=y'.b0
  left
 rcases hI with ⟨o,u,rfl,hr⟩ | ⟨L',na',nb',ac',bc',g',rfl,rfl,y',p'⟩
 ·exact wpS_pure (d _ _ _ hr)
 dsimp only
 refine wpS_bind (wpS_lift (ubz ⟨rfl,?_⟩))
 refine wpS_bind (wpS_mono (wpS_forRange (I:=λ x c st'=>∃ L2 na2 nb2 mg2 ac2 bc2 g2,c=(none,na2,nb2,arr it L2,mg2,ac2,bc2)/\st'=SS κ P0 pd g2/\Wh r la lb L2 na2 nb2/\na2+nb2+x<=na'+nb')
  (Q:=λ c st'=>(∃ o u,c=(some o,u)/\Rs r it κ P0 pd la lb o st')\/∃ L2 na2 nb2 mg2 ac2 bc2 g2,c=(none,na2,nb2,arr it L2,mg2,ac2,bc2)/\st'=SS κ P0 pd g2/\Wh r la lb L2 na2 nb2/\na2+nb2<=na'+nb') (λ x c st' _ _ hI=>?_) (λ c st' hI=>?_) ⟨L',na',nb',mg+1,ac',bc',g',rfl,rfl,y',h9 _⟩) (λ c st' hI=>?_))
 ·obtain⟨L2,na2,nb2,mg2,ac2,bc2,g2,rfl,rfl,y2,p2⟩:=hI
  exact za2 t h y2 (λ o u st' hr=>.inl ⟨o,u,rfl,hr⟩) λ L3 na3 nb3 mg3 ac3 bc3 g3 y3 p3=>⟨.inr ⟨L3,na3,nb3,mg3,ac3,bc3,g3,rfl,rfl,y3,by left⟩,⟨L3,na3,nb3,mg3,ac3,bc3,g3,rfl,rfl,y3,by left⟩⟩
 ·obtain⟨L2,na2,nb2,mg2,ac2,bc2,g2,rfl,rfl,y2,p2⟩:=hI
  have h1:=y2.a0
  have h2:=y2.b0
  have h3:=y'.hna;have h4:=y'.hnb
  left
 rcases hI with ⟨o,u,rfl,hr⟩ | ⟨L2,na2,nb2,mg2,ac2,bc2,g2,rfl,rfl,y2,p2⟩
 ·exact wpS_pure (d _ _ _ hr)
 dsimp only
 exact wpS_bind (gZ (wpS_pure (e _ _ _ _ _ y2 (by left))))
theorem yS (h:Srt.Ask N r (kas_cmp prog w A κ it) s){g:Nat}{Q:KA->SortSt->Prop}(z:∀ X g,Gm r la lb X->Q (arr it X) (SS κ P0 pd g)):wpS (o9 prog w) A E s (mergeHi' (arr it la) (arr it lb)) Q (SS κ P0 pd g):=by
 have a1:=t.a1
 have b1:=t.b1
 have t':=t.neg
 have zz:∀ {o st'},Rs r it κ P0 pd la lb o st'->Q o st':=λ {o st'} ⟨X,g,gm,e1,e2⟩=>by rw[e1,e2];exact z X g gm
 rw[wC]
 refine wpS_bind (wpS_lift (ubz ⟨rfl,?_⟩))
 rw[bN,bN]
 refine wpS_bind (bM (by left) ?_)
 have m:=Mg.start (la:=lb.reverse) t'.sb t'.b1 λ y hy=>uar t'.first (t'.sa.head (ia:=0) t'.a1 y hy)
 rw[fJ a1,ueg] at m
 have m:Mg (ng r) lb.reverse la.reverse [la.getD (la.length-1) 0] (lb.length-lb.length) (la.length-(la.length-1)):=by
  rw[ueh,show la.length-(la.length-1)=1 by left];exact m
 rw[qI]
 by_cases c1:la.length-1=0
 ·rw[uhd (by simpa using c1)]
  exact wpS_pure (zz (t.doneH m (by left) (by left) (.inl c1)))
 rw[uhe (by simpa using c1)]
 by_cases c2:lb.length=1
 ·rw[uhd (by simpa using c2)]
  exact wpS_pure (zz (t.lstH m (by left) (by left) c2))
 rw[uhe (by simpa using c2)]
 refine wpS_bind (wpS_get ?_)
 refine wpS_bind (wpS_mono (wpS_forRange (I:=λ x c st'=>∃ L' na' nb' mg' g',c=(none,na',nb',arr it L',mg')/\st'=SS κ P0 pd g'/\Wh r la lb L' na' nb'/\na'+nb'+x<=la.length+lb.length)
  (Q:=λ c st'=>∃ o u,c=(some o,u)/\Rs r it κ P0 pd la lb o st') (λ x c st' _ _ hI=>?_) (λ c st' hI=>?_) ⟨_,_,_,_,g,rfl,rfl,⟨m,by left,by left,by left,by left⟩,by left⟩) (λ c st' hI=>?_))
 ·obtain⟨L',na',nb',mg',g',rfl,rfl,y',p'⟩:=hI
  exact zar t h y' (λ o u st' hr=>⟨o,u,rfl,hr⟩) λ L2 na2 nb2 mg2 g2 y2 p2=>⟨L2,na2,nb2,mg2,g2,rfl,rfl,y2,by left⟩
 ·obtain⟨L',na',nb',mg',g',rfl,rfl,y',p'⟩:=hI
  have h1:=y'.a0
  have h2:=y'.b0
  left
 ·obtain⟨o,u,rfl,hr⟩:=hI
  exact wpS_pure (zz hr)
end
end Ts
namespace Ts
open PySem PySem.W PyProof.Rows
abbrev AS:=Option (Option Nat) × Nat
abbrev DS:=Option (Option Nat) × Nat × Nat
def aStep (lo:Nat)(_:Nat)(s:AS):SM (ForInStep AS):=do
 let x ← ltAt' (lo+s.2) (lo+s.2-1)
 match x with
 | some c=>if c=true then pure (.done (none,s.2)) else pure (.yield (none,s.2+1))
 | _=>pure (.done (some none,s.2))
def dYes (lo:Nat)(s:DS):SM (ForInStep DS) :=
 if s.2.2>0 then do
  reverseSlice' (lo+s.2.1-(s.2.2+1)) (lo+s.2.1)
  pure (.yield (none,s.2.1+1,0))
 else pure (.yield (none,s.2.1+1,0))
def dNo (lo:Nat)(s:DS):SM (ForInStep DS):=do
 let y ← ltAt' (lo+s.2.1-1) (lo+s.2.1)
 match y with
 | some d=>if d=true then pure (.done (none,s.2.1,s.2.2)) else pure (.yield (none,s.2.1+1,s.2.2+1))
 | _=>pure (.done (some none,s.2.1,s.2.2))
def dStep (lo:Nat)(_:Nat)(s:DS):SM (ForInStep DS):=do
 let x ← ltAt' (lo+s.2.1) (lo+s.2.1-1)
 match x with
 | some c=>if c=true then dYes lo s else dNo lo s
 | _=>pure (.done (some none,s.2.1,s.2.2))
def cTail (lo nrem n:Nat):SM (Option Nat):=do
 reverseSlice' lo (lo+n)
 let s ← forIn [n:nrem] ((none,n):AS) (aStep lo)
 match s.1 with
 | some r=>pure r
 | none=>pure (some s.2)
def cDesc (lo nrem n:Nat):SM (Option Nat):=do
 liftM (rule "list.sort.descending-run")
 let s ← forIn [n+1:nrem] ((none,n+1,0):DS) (dStep lo)
 match s.1 with
 | some r=>pure r
 | none => if s.2.2>0 then (do
     reverseSlice' (lo+s.2.1-(s.2.2+1)) (lo+s.2.1)
     cTail lo nrem s.2.1) else cTail lo nrem s.2.1
theorem uY (lo nrem:Nat):countRun' lo nrem=(do
 let s ← forIn [1:nrem] ((none,1):AS) (aStep lo)
 match s.1 with
 | some r=>pure r
 | none => if (s.2==nrem) = true then pure (some s.2) else if s.2>1 then (do
     let x ← ltAt' lo (lo+s.2-1)
     match x with
     | some c => if c = true then pure (some s.2) else (do
         reverseSlice' lo (lo+s.2)
         cDesc lo nrem s.2)
     | _=>pure none) else cDesc lo nrem s.2):=by
 rw[countRun'_eq]
 dsimp only
 congr 1
 funext u
 obtain⟨o,n⟩:=u
 cases o with
 | some r=>rfl
 | none =>
  have e : ∀ n, (do
      liftM (rule "list.sort.descending-run")
      let s ← forIn [n+1:nrem] ((none,n+1,0):DS) (dStep lo)
      match s.1 with
      | some r=>pure r
      | none => if s.2.2>0 then (do
          reverseSlice' (lo+s.2.1-(s.2.2+1)) (lo+s.2.1)
          reverseSlice' lo (lo+s.2.1)
          let v ← forIn [s.2.1:nrem] ((none,s.2.1):AS) (aStep lo)
          match v.1 with
          | some r=>pure r
          | none=>pure (some v.2)) else (do
          reverseSlice' lo (lo+s.2.1)
          let v ← forIn [s.2.1:nrem] ((none,s.2.1):AS) (aStep lo)
          match v.1 with
          | some r=>pure r
          | none=>pure (some v.2)):SM (Option Nat))=cDesc lo nrem n:=λ n=>rfl
  show (if (n==nrem)=true then _ else _)=(if (n==nrem)=true then _ else _)
  congr 1
  show (if n>1 then _ else _)=(if n>1 then _ else _)
  rw[← e n]
  congr 1
  ·congr 1
   funext x
   cases x with
   | none=>rfl
   | some c =>
    show (if c=true then _ else _)=(if c=true then _ else _)
    congr 1
    congr 1
    funext _
    congr 1
    funext _
    congr 1
    funext v
    obtain⟨o,v⟩:=v
    cases o with
    | some r=>rfl
    | none =>
     dsimp only
     congr 1
     ·congr 1;funext _;congr 1;funext _;congr 1;funext v
      obtain⟨o,v⟩:=v
      cases o <;> rfl
     ·congr 1;funext _;congr 1;funext v
      obtain⟨o,v⟩:=v
      cases o <;> rfl
  ·congr 1
   funext _
   congr 1
   funext v
   obtain⟨o,v⟩:=v
   cases o with
   | some r=>rfl
   | none =>
    dsimp only
    congr 1
    ·congr 1;funext _;congr 1;funext _;congr 1;funext v
     obtain⟨o,v⟩:=v
     cases o <;> rfl
    ·congr 1;funext _;congr 1;funext v
     obtain⟨o,v⟩:=v
     cases o <;> rfl
abbrev BS':=Option Bool × Nat × Nat
def sStep (lo k:Nat)(_:Nat)(s:BS'):SM (ForInStep BS') :=
 if s.2.1 ≥ s.2.2 then pure (.done (none,s.2.1,s.2.2)) else do
  let x ← ltAt' (lo+k) (lo+(s.2.1+s.2.2) / 2)
  match x with
  | some c=>if c=true then pure (.yield (none,s.2.1,(s.2.1+s.2.2) / 2)) else pure (.yield (none,(s.2.1+s.2.2) / 2+1,s.2.2))
  | _=>pure (.done (some false,s.2.1,s.2.2))
def bStep (lo:Nat)(k:Nat)(_:Option Bool × Unit):SM (ForInStep (Option Bool × Unit)):=do
 let s ← forIn [0:k] ((none,0,k):BS') (sStep lo k)
 match s.1 with
 | some r=>pure (.done (some r,()))
 | none=>do
  moveDown' (lo+k) (lo+s.2.1)
  pure (.yield (none,()))
theorem tM (lo n ok:Nat):binarySort' lo n ok=(do
 let s ← forIn [max ok 1:n] ((none,()):Option Bool × Unit) (bStep lo)
 match s.1 with
 | some r=>pure r
 | none=>pure true):=by
 rw[binarySort'_eq]
 dsimp only
 congr 1
 ·congr 1
  funext k u
  unfold bStep
  congr 1
  funext v
  obtain⟨o,v⟩:=v
  cases o <;> rfl
 ·funext v
  obtain⟨o,v⟩:=v
  cases o <;> rfl
end Ts
namespace Ts
open PySem PySem.W PyProof.Rows Srt
section
variable {prog:l9}{w:uak}{A:uae}{E:c9->d7->Prop}{s:d7}{κ:SortKind}{it:Array Keyed}{N:Nat}{r:Nat->Int}{p p' p'':Array Nat}{pd:Array (Nat × Nat × Nat)}{gl:Nat}
abbrev SP (κ:SortKind)(it:KA)(p:Array Nat)(pd:Array (Nat × Nat × Nat))(g:Nat):SortSt:=SS κ (p.map (kas_item it)) pd g
def Rn (r:Nat->Int)(p:Array Nat)(s n:Nat):Prop:=∀ i j,s<=i->i<=j->j<s+n->ky r p i<=ky r p j
def Fl (r:Nat->Int)(p:Array Nat)(s n:Nat):Prop:=∀ i j,s<=i->i<=j->j<s+n->ky r p j<=ky r p i
def Ag (p p':Array Nat)(x y:Nat):Prop:=∀ i,(i<x\/y<=i)->p'.getD i 0=p.getD i 0
theorem Ag.refl {x y:Nat}:Ag p p x y:=λ _ _=>rfl
theorem Ag.trans {x y:Nat}(a:Ag p p' x y)(b:Ag p' p'' x y):Ag p p'' x y:=λ i h=>(b i h).trans (a i h)
theorem Ag.wide {x y x' y':Nat}(a:Ag p p' x y)(h1:x'<=x)(h2:y<=y'):Ag p p' x' y':=λ i h=>a i (by left)
theorem Rn.ag {x y a n:Nat}(u:Rn r p a n)(g:Ag p p' x y)(h:a+n<=x\/y<=a):Rn r p' a n:=λ i j h1 h2 h3=>by
 unfold ky
 rw[g i (by left),g j (by left)]
 exact u i j h1 h2 h3
theorem Rn.one (a:Nat):Rn r p a 1:=λ i j h1 h2 h3=>by
 have:i=j:=by left
 rw[this];exact v6 _
theorem Rn.snoc {a n:Nat}(u:Rn r p a n)(h1:1<=n)(h:ky r p (a+n-1)<=ky r p (a+n)):Rn r p a (n+1):=λ i j c1 c2 c3=>by
 by_cases e:j=a+n
 ·rw[e]
  by_cases e2:i=a+n
  ·rw[e2];exact v6 _
  ·exact uar (u i (a+n-1) c1 (by left) (by left)) h
 ·exact u i j c1 c2 (by left)
theorem Fl.snoc {a n:Nat}(u:Fl r p a n)(h1:1<=n)(h:ky r p (a+n)<=ky r p (a+n-1)):Fl r p a (n+1):=λ i j c1 c2 c3=>by
 by_cases e:j=a+n
 ·rw[e]
  by_cases e2:i=a+n
  ·rw[e2];exact v6 _
  ·exact uar h (u i (a+n-1) c1 (by left) (by left))
 ·exact u i j c1 c2 (by left)
theorem iM {i j x y:Nat}(hj:j<=p.size)(h1:x<=i)(h2:j<=y):Ag p (kas_rev p i j) x y:=λ k hk=>by
 have e:=getElem?_mirror_all (i:=i) hj k
 rw[uhe (by left)] at e
 have f:∀ (a:Array Nat)(k:Nat),a.getD k 0=(a[k]?).getD 0:=λ a k=>by by_cases hk:k<a.size <;> simp [ud4,hk]
 rw[f,f]
 exact congrArg (·.getD 0) e
theorem zeb {k d x y:Nat}(hs:k<p.size)(hd:d<=k)(h1:x<=k-d)(h2:k<y):Ag p (bubble p k d) x y:=λ m hm=>by
 have e:=getElem?_bubble hs d hd m
 rw[uhe (by left),uhe (by left)] at e
 have f:∀ (a:Array Nat)(k:Nat),a.getD k 0=(a[k]?).getD 0:=λ a k=>by by_cases hk:k<a.size <;> simp [ud4,hk]
 rw[f,f]
 exact congrArg (·.getD 0) e
theorem fX {i j:Nat}{Q:Option Bool->SortSt->Prop}(h:Srt.Ask N r (kas_cmp prog w A κ it) s)(g:Gd N p)(hi:i<N)(hj:j<N)(z:Q (some (decide (ky r p i<ky r p j))) (SP κ it p pd gl)):wpS (o9 prog w) A E s (ltAt' i j) Q (SP κ it p pd gl):=by
 rw[ltAt'_eq]
 refine wpS_bind (wpS_get ?_)
 show wpS _ _ _ _ (do let x ← elem' (p.map (kas_item it)) i;let y ← elem' (p.map (kas_item it)) j;lt' x y) _ _
 have sz:=g.sz
 exact wpS_bind (eT (by left) (wpS_bind (eT (by left) (gF h rfl (g.lt (by left) _) (g.lt (by left) _) z))))
theorem iN {i j:Nat}{Q:Unit->SortSt->Prop}(z:Q () (SP κ it (kas_rev p i j) pd gl)):wpS (o9 prog w) A E s (reverseSlice' i j) Q (SP κ it p pd gl):=by
 rw[reverseSlice'_eq]
 refine wpS_modify ?_
 have e:setArr (SP κ it p pd gl) (mirror (arrOf (SP κ it p pd gl)) i j ((j-i) / 2))=SP κ it (kas_rev p i j) pd gl:=by
  show SortSt.mk' κ (mirror (p.map (kas_item it)) i j ((j-i) / 2)) pd gl none=SortSt.mk' κ ((mirror p i j ((j-i) / 2)).map (kas_item it)) pd gl none
  rw[show mirror (p.map (kas_item it)) i j ((j-i) / 2)=(mirror p i j ((j-i) / 2)).map (kas_item it) from kas_swaps_map (kas_item it) (λ k=>i+k) (λ k=>j-1-k) _ p]
 rw[e];exact z
theorem zdt {k l:Nat}{Q:Unit->SortSt->Prop}(z:Q () (SP κ it (bubble p k (k-l)) pd gl)):wpS (o9 prog w) A E s (moveDown' k l) Q (SP κ it p pd gl):=by
 rw[moveDown'_eq]
 refine wpS_modify ?_
 have e:setArr (SP κ it p pd gl) (bubble (arrOf (SP κ it p pd gl)) k (k-l))=SP κ it (bubble p k (k-l)) pd gl:=by
  show SortSt.mk' κ (bubble (p.map (kas_item it)) k (k-l)) pd gl none=SortSt.mk' κ ((bubble p k (k-l)).map (kas_item it)) pd gl none
  rw[show bubble (p.map (kas_item it)) k (k-l)=(bubble p k (k-l)).map (kas_item it) from kas_swaps_map (kas_item it) (λ i=>k-i) (λ i=>k-i-1) _ p]
 rw[e];exact z
theorem qJ (h:Srt.Ask N r (kas_cmp prog w A κ it) s)(g:Gd N p){lo nrem a:Nat}{Q:AS->SortSt->Prop}(hl:lo+nrem<=N)(ha:1<=a)(han:a<=nrem)(u:Rn r p lo a)
  (z:∀ m,a<=m->m<=nrem->Rn r p lo m->(m<nrem->ky r p (lo+m)<ky r p (lo+m-1))->Q (none,m) (SP κ it p pd gl)):wpS (o9 prog w) A E s (forIn [a:nrem] ((none,a):AS) (aStep lo)) Q (SP κ it p pd gl):=by
 refine wpS_forRange (I:=λ x c st'=>st'=SP κ it p pd gl/\c=(none,x)/\Rn r p lo x) (λ x c st' hx1 hx2 hI=>?_) (λ c st' hI=>?_) ⟨rfl,rfl,u⟩
 ·obtain⟨rfl,rfl,u'⟩:=hI
  unfold aStep
  dsimp only
  refine wpS_bind (fX h g (by left) (by left) ?_)
  dsimp only
  by_cases c:ky r p (lo+x)<ky r p (lo+x-1)
  ·rw[uha c,uhd rfl]
   exact wpS_pure (z x hx1 (by left) u' λ _=>c)
  ·rw[uhc c,uhe (by simp)]
   exact wpS_pure ⟨rfl,rfl,u'.snoc (by left) (ug8.mp c)⟩
 ·obtain⟨rfl,rfl,u'⟩:=hI
  rw[Nat.max_eq_right han] at u' ⊢
  exact z nrem han (h9 _) u' λ q=>absurd q (ubu _)
theorem qE (h:Srt.Ask N r (kas_cmp prog w A κ it) s)(g:Gd N p){lo nrem n:Nat}{Q:Option Nat->SortSt->Prop}(hl:lo+nrem<=N)(h1:1<=n)(hn:n<=nrem)(f:Fl r p lo n)
  (z:∀ m p',Gd N p'->1<=m->m<=nrem->Rn r p' lo m->Ag p p' lo (lo+nrem)->Q (some m) (SP κ it p' pd gl)):wpS (o9 prog w) A E s (cTail lo nrem n) Q (SP κ it p pd gl):=by
 have sz:=g.sz
 unfold cTail
 refine wpS_bind (iN ?_)
 have g':=g.rev lo (lo+n)
 refine wpS_bind (qJ h g' hl h1 hn (λ i j c1 c2 c3=>?_) λ m m1 m2 u _=>wpS_pure (z m _ g' (by left) m2 u (iM (by left) (h9 _) (by left))))
 rw[fY (by left),fY (by left),uhd (by left),uhd (by left)]
 exact f _ _ (by left) (by left) (by left)
theorem qF (h:Srt.Ask N r (kas_cmp prog w A κ it) s)(g:Gd N p){lo nrem n:Nat}{Q:Option Nat->SortSt->Prop}(hl:lo+nrem<=N)(h1:1<=n)(hn:n+1<=nrem)(f:Fl r p lo (n+1))
  (z:∀ m p',Gd N p'->1<=m->m<=nrem->Rn r p' lo m->Ag p p' lo (lo+nrem)->Q (some m) (SP κ it p' pd gl)):wpS (o9 prog w) A E s (cDesc lo nrem n) Q (SP κ it p pd gl):=by
 have sz:=g.sz
 unfold cDesc
 refine wpS_bind (wpS_lift (ubz ⟨rfl,?_⟩))
 refine wpS_bind (wpS_mono (wpS_forRange (I:=λ x c st'=>∃ p' q,st'=SP κ it p' pd gl/\c=(none,x,q)/\Gd N p'/\Ag p p' lo (lo+nrem)/\Fl r p' lo x/\q+1<=x/\∀ i,x-(q+1)<=i->i<x->ky r p' (lo+i)=ky r p' (lo+x-1))
  (Q:=λ c st'=>∃ p' m q,st'=SP κ it p' pd gl/\c=(none,m,q)/\Gd N p'/\Ag p p' lo (lo+nrem)/\Fl r p' lo m/\1<=m/\m<=nrem/\q+1<=m/\∀ i,m-(q+1)<=i->i<m->ky r p' (lo+i)=ky r p' (lo+m-1)) (λ x c st' hx1 hx2 hI=>?_) (λ c st' hI=>?_)
  ⟨p,0,rfl,rfl,g,Ag.refl,f,by left,λ i i1 i2=>by congr 1;left⟩) (λ c st' hI=>?_))
 ·obtain⟨p',q,rfl,rfl,g',ag,f',hq,eq⟩:=hI
  have sz':=g'.sz
  unfold dStep
  dsimp only
  refine wpS_bind (fX h g' (by left) (by left) ?_)
  dsimp only
  by_cases c:ky r p' (lo+x)<ky r p' (lo+x-1)
  ·rw[uha c,uhd rfl]
   have f2:=f'.snoc (by left) (uap c)
   unfold dYes
   dsimp only
   by_cases cq:q>0
   ·rw[uhd cq]
    refine wpS_bind (iN (wpS_pure ?_))
    have e:∀ k,ky r (kas_rev p' (lo+x-(q+1)) (lo+x)) k=ky r p' k:=eI (by left) (ky r p' (lo+x-1)) λ k k1 k2=>by
     have:=eq (k-lo) (by left) (by left)
     rw[show lo+(k-lo)=k by left] at this
     exact this
    exact⟨_,0,rfl,rfl,g'.rev _ _,ag.trans (iM (by left) (by left) (by left)),λ i j c1 c2 c3=>by rw[e,e];exact f2 i j c1 c2 c3,by left,λ i i1 i2=>by congr 1;left⟩
   ·rw[uhe cq]
    exact wpS_pure ⟨p',0,rfl,rfl,g',ag,f2,by left,λ i i1 i2=>by congr 1;left⟩
  ·rw[uhc c,uhe (by simp)]
   unfold dNo
   dsimp only
   refine wpS_bind (fX h g' (by left) (by left) ?_)
   dsimp only
   by_cases c2:ky r p' (lo+x-1)<ky r p' (lo+x)
   ·rw[uha c2,uhd rfl]
    exact wpS_pure ⟨p',x,q,rfl,rfl,g',ag,f',by left,by left,hq,eq⟩
   ·rw[uhc c2,uhe (by simp)]
    have e0:ky r p' (lo+x)=ky r p' (lo+x-1):=by left
    refine wpS_pure ⟨p',q+1,rfl,rfl,g',ag,f'.snoc (by left) (by left),by left,λ i i1 i2=>?_⟩
    rw[show lo+(x+1)-1=lo+x by left]
    by_cases ei:i=x
    ·rw[ei]
    ·rw[e0];exact eq i (by left) (by left)
 ·obtain⟨p',q,rfl,rfl,g',ag,f',hq,eq⟩:=hI
  have em:max (n+1) nrem=nrem:=by left
  rw[em] at f' hq eq ⊢
  exact⟨p',nrem,q,rfl,rfl,g',ag,f',by left,h9 _,hq,eq⟩
 ·obtain⟨p',m,q,rfl,rfl,g',ag,f',m1,m2,hq,eq⟩:=hI
  have sz':=g'.sz
  dsimp only
  by_cases cq:q>0
  ·rw[uhd cq]
   refine wpS_bind (iN ?_)
   have e:∀ k,ky r (kas_rev p' (lo+m-(q+1)) (lo+m)) k=ky r p' k:=eI (by left) (ky r p' (lo+m-1)) λ k k1 k2=>by
    have:=eq (k-lo) (by left) (by left)
    rw[show lo+(k-lo)=k by left] at this
    exact this
   exact qE h (g'.rev _ _) hl m1 m2 (λ i j c1 c2 c3=>by rw[e,e];exact f' i j c1 c2 c3) λ m' p'' g'' a b c d=>z m' p'' g'' a b c ((ag.trans (iM (by left) (by left) (by left))).trans d)
  ·rw[uhe cq]
   exact qE h g' hl m1 m2 f' λ m' p'' g'' a b c d=>z m' p'' g'' a b c (ag.trans d)
theorem xE (h:Srt.Ask N r (kas_cmp prog w A κ it) s)(g:Gd N p){lo nrem:Nat}{Q:Option Nat->SortSt->Prop}(hl:lo+nrem<=N)(h1:1<=nrem)
  (z:∀ m p',Gd N p'->1<=m->m<=nrem->Rn r p' lo m->Ag p p' lo (lo+nrem)->Q (some m) (SP κ it p' pd gl)):wpS (o9 prog w) A E s (countRun' lo nrem) Q (SP κ it p pd gl):=by
 have sz:=g.sz
 rw[uY]
 refine wpS_bind (qJ h g hl (h9 1) h1 (Rn.one _) λ m m1 m2 u d=>?_)
 dsimp only
 by_cases e1:m=nrem
 ·rw[uhd (by simpa using e1)]
  exact wpS_pure (z m p g m1 m2 u Ag.refl)
 rw[uhe (by simpa using e1)]
 have d:=d (by left)
 by_cases e2:m>1
 ·rw[uhd e2]
  refine wpS_bind (fX h g (by left) (by left) ?_)
  dsimp only
  by_cases c:ky r p lo<ky r p (lo+m-1)
  ·rw[uha c,uhd rfl]
   exact wpS_pure (z m p g m1 m2 u Ag.refl)
  ·rw[uhc c,uhe (by simp)]
   refine wpS_bind (iN ?_)
   have eq:∀ k,lo<=k->k<lo+m->ky r p k=ky r p lo:=λ k k1 k2=>by
    have a1:=u lo k (h9 _) k1 k2
    have a2:=u k (lo+m-1) k1 (by left) (by left)
    left
   have e:=eI (r:=r) (p:=p) (i:=lo) (j:=lo+m) (by left) (ky r p lo) eq
   have fl:Fl r p lo m:=λ i j c1 c2 c3=>by rw[eq i (by left) (by left),eq j (by left) (by left)];exact v6 _
   have fl2:=fl.snoc (by left) (uap d)
   exact qF h (g.rev _ _) hl (by left) (by left) (λ i j c1 c2 c3=>by rw[e,e];exact fl2 i j c1 c2 c3) λ m' p'' g'' a b c d=>z m' p'' g'' a b c ((iM (by left) (by left) (by left)).trans d)
 ·rw[uhe e2]
  have e3:m=1:=by left
  subst e3
  have f1:Fl r p lo 1:=λ i j c1 c2 c3=>by
   have:i=j:=by left
   rw[this];exact v6 _
  exact qF h g hl (by left) (by left) (f1.snoc (by left) (uap d)) z
theorem zbi (h:Srt.Ask N r (kas_cmp prog w A κ it) s)(g:Gd N p){lo n ok:Nat}{Q:Bool->SortSt->Prop}(hl:lo+n<=N)(h1:1<=ok)(hn:ok<=n)(u:Rn r p lo ok)
  (z:∀ p',Gd N p'->Rn r p' lo n->Ag p p' lo (lo+n)->Q true (SP κ it p' pd gl)):wpS (o9 prog w) A E s (binarySort' lo n ok) Q (SP κ it p pd gl):=by
 have sz:=g.sz
 rw[tM,Nat.max_eq_left h1]
 refine wpS_bind (wpS_mono (wpS_forRange (I:=λ x c st'=>∃ p',st'=SP κ it p' pd gl/\c=(none,())/\Gd N p'/\Ag p p' lo (lo+n)/\Rn r p' lo x)
  (Q:=λ c st'=>∃ p',st'=SP κ it p' pd gl/\c=(none,())/\Gd N p'/\Ag p p' lo (lo+n)/\Rn r p' lo n) (λ k c st' hx1 hx2 hI=>?_) (λ c st' hI=>?_) ⟨p,rfl,rfl,g,Ag.refl,u⟩) (λ c st' hI=>?_))
 ·obtain⟨p',rfl,rfl,g',ag,u'⟩:=hI
  have sz':=g'.sz
  unfold bStep
  refine wpS_bind (wpS_mono (wpS_forRange (I:=λ x c st'=>st'=SP κ it p' pd gl/\∃ l rr,c=(none,l,rr)/\l<=rr/\rr<=k/\rr-l<=k-x/\(∀ i,i<l->ky r p' (lo+i)<=ky r p' (lo+k))/\(∀ i,rr<=i->i<k->ky r p' (lo+k)<ky r p' (lo+i)))
   (Q:=λ c st'=>st'=SP κ it p' pd gl/\∃ l rr,c=(none,l,rr)/\l<=k/\(∀ i,i<l->ky r p' (lo+i)<=ky r p' (lo+k))/\(∀ i,l<=i->i<k->ky r p' (lo+k)<ky r p' (lo+i))) (λ x c st' hy1 hy2 hJ=>?_) (λ c st' hJ=>?_) ⟨rfl,0,k,rfl,by left,by left,by left,λ i hi=>absurd hi (udq _),λ i i1 i2=>by left⟩) (λ c st' hJ=>?_))
  ·obtain⟨rfl,l,rr,rfl,a1,a2,a3,a4,a5⟩:=hJ
   unfold sStep
   dsimp only
   by_cases c:l ≥ rr
   ·rw[uhd c]
    exact wpS_pure ⟨rfl,l,rr,rfl,by left,a4,λ i i1 i2=>a5 i (by left) i2⟩
   ·rw[uhe c]
    refine wpS_bind (fX h g' (by left) (by left) ?_)
    dsimp only
    by_cases c2:ky r p' (lo+k)<ky r p' (lo+(l+rr) / 2)
    ·rw[uha c2,uhd rfl]
     exact wpS_pure ⟨rfl,_,_,rfl,by left,by left,by left,a4,λ i i1 i2=>Int.lt_of_lt_of_le c2 (u' _ _ (by left) (by left) (by left))⟩
    ·rw[uhc c2,uhe (by simp)]
     exact wpS_pure ⟨rfl,_,_,rfl,by left,by left,by left,λ i hi=>uar (u' (lo+i) (lo+(l+rr) / 2) (by left) (by left) (by left)) (ug8.mp c2),a5⟩
  ·obtain⟨rfl,l,rr,rfl,a1,a2,a3,a4,a5⟩:=hJ
   exact⟨rfl,l,rr,rfl,by left,a4,λ i i1 i2=>a5 i (by left) i2⟩
  ·obtain⟨rfl,l,rr,rfl,a1,a4,a5⟩:=hJ
   dsimp only
   refine wpS_bind (zdt (wpS_pure ?_))
   rw[show lo+k-(lo+l)=k-l by left]
   have e:=λ m=>qW (r:=r) (p:=p') (k:=lo+k) (d:=k-l) (by left) (by left) m
   refine⟨_,rfl,rfl,g'.bub _ _,ag.trans (zeb (by left) (by left) (by left) (by left)),λ i j c1 c2 c3=>?_⟩
   rw[e,e]
   have ekl:lo+k-(k-l)=lo+l:=by left
   rw[ekl]
   by_cases i1:i=lo+l
   ·rw[uhd i1]
    by_cases j1:j=lo+l
    ·rw[uhd j1];exact v6 _
    ·rw[uhe j1,uhd (by left)]
     have:=a5 (j-1-lo) (by left) (by left)
     rw[show lo+(j-1-lo)=j-1 by left] at this
     exact uap this
   ·rw[uhe i1]
    by_cases i2:lo+l<i/\i<=lo+k
    ·rw[uhd i2,uhe (by left),uhd (by left)]
     exact u' _ _ (by left) (by left) (by left)
    ·rw[uhe i2]
     by_cases j1:j=lo+l
     ·rw[uhd j1]
      have:=a4 (i-lo) (by left)
      rw[show lo+(i-lo)=i by left] at this
      exact this
     ·rw[uhe j1]
      by_cases j2:lo+l<j/\j<=lo+k
      ·rw[uhd j2];exact u' _ _ (by left) (by left) (by left)
      ·rw[uhe j2];exact u' _ _ (by left) (by left) (by left)
 ·obtain⟨p',rfl,rfl,g',ag,u'⟩:=hI
  rw[Nat.max_eq_right hn] at u'
  exact⟨p',rfl,rfl,g',ag,u'⟩
 ·obtain⟨p',rfl,rfl,g',ag,u'⟩:=hI
  exact wpS_pure (z p' g' u' ag)
end
end Ts
namespace Ts
open PySem PySem.W PyProof.Rows Srt
theorem wY (i:Nat):mergeAt' i=(do
 let s ← get
 let (some (sa,na,power),some (sb,nb,_)):=((pendingOf s)[i]?,(pendingOf s)[i+1]?) | liftM (unsupported "internal:list.sort.pending":Sem Bool)
 set (setPending s (((pendingOf s).setIfInBounds i (sa,na+nb,power)).eraseIdxIfInBounds (i+1)))
 let some k ← gallop' false (← elem' (arrOf s) sb) (arrOf s) sa na 0 | return false
 let (sa,na):=(sa+k,na-k)
 if na==0 then return true
 let some nb ← gallop' true (← elem' (arrOf s) (sa+na-1)) (arrOf s) sb nb (nb-1) | return false
 if nb==0 then return true
 let x:=(arrOf s).extract sa sb
 let y:=(arrOf s).extract sb (sb+nb)
 let merged ← if na<=nb then mergeLo' x y else mergeHi' x y
 modify λ s=>setArr s (merged.toList.zipIdx.foldl (λ a (p,j)=>a.setIfInBounds (sa+j) p) (arrOf s))
 return (failedOf (← get)).isNone):=rfl
theorem zC {a:Array Nat}{k:Nat}:a.getD k 0=(a[k]?).getD 0:=by by_cases hk:k<a.size <;> simp [ud4,hk]
theorem jE {a:Array Nat}{k:Nat}:a.toList.getD k 0=a.getD k 0:=by rw[zC,a8,ua5]
def seg (p:Array Nat)(a n:Nat):List Nat:=(p.toList.drop a).take n
theorem eQ {p:Array Nat}{a n:Nat}(h:a+n<=p.size):(seg p a n).length=n:=by
 unfold seg;rw[u5,ua2,u6];left
theorem fS {p:Array Nat}{a n i:Nat}(hi:i<n)(h:a+n<=p.size):(seg p a n).getD i 0=p.getD (a+i) 0:=by
 unfold seg
 rw[← jE,a8,a8,ueo hi,udm]
theorem fR {p:Array Nat}{a n x:Nat}(h:a+n<=p.size)(hx:x∈seg p a n):∃ i,a<=i/\i<a+n/\x=p.getD i 0:=by
 obtain⟨i,hi,e⟩:=ufi.mp hx
 rw[eQ h] at hi
 refine⟨a+i,by left,by left,?_⟩
 rw[← fS hi h,a8,c7 (by rw[eQ h];exact hi),← e];rfl
theorem zb5 {p:Array Nat}{a n m:Nat}:seg p a n++seg p (a+n) m=seg p a (n+m):=by
 unfold seg;rw[List.take_add,ufm]
theorem pC {it:KA}{p:Array Nat}{a b:Nat}:(p.map (kas_item it)).extract a b=arr it (seg p a (b-a)):=by
 have e:p.map (kas_item it)=arr it p.toList:=by unfold arr;simp
 rw[e,cG];rfl
def wb (q:Array Nat)(c:Nat)(M:List Nat):Array Nat:=(q.toList.take c++M++q.toList.drop (c+M.length)).toArray
theorem oT {it:KA}{b:Nat}:∀ (M:List Nat)(j:Nat)(q:Array Nat),b+j+M.length<=q.size->((arr it M).toList.zipIdx j).foldl (λ a x=>a.setIfInBounds (b+x.2) x.1) (q.map (kas_item it))=(wb q (b+j) M).map (kas_item it)
 | [],j,q,_=>by
  have e:wb q (b+j) []=q:=by
   unfold wb
   rw[ud6,Nat.add_zero,uay,ua6]
  rw[e];unfold arr;simp
 | x::t,j,q,h=>by
  rw[l6] at h
  have e1:(arr it (x::t)).toList=kas_item it x::(arr it t).toList:=by unfold arr;simp
  have e2:(q.map (kas_item it)).setIfInBounds (b+j) (kas_item it x)=(q.setIfInBounds (b+j) x).map (kas_item it):=by
   rw[Array.map_setIfInBounds]
  rw[e1,udy,List.foldl_cons]
  show uff _ ((q.map (kas_item it)).setIfInBounds (b+j) (kas_item it x)) _=_
  rw[e2,oT t (j+1) (q.setIfInBounds (b+j) x) (by rw[Array.size_setIfInBounds];left)]
  congr 1
  unfold wb
  congr 1
  rw[ugh,← Nat.add_assoc,l6,List.drop_set_of_lt (by left),List.take_set,uen]
  have hl:b+j<q.toList.length:=by rw[u6];left
  rw[c7 hl,Option.toList_some,List.set_append_right _ _ (by rw[u5];left),u5,ugo (by left),ueh,List.set_cons_zero,show b+j+(t.length+1)=b+j+1+t.length by left]
  simp
theorem zda {q:Array Nat}{c i:Nat}{M:List Nat}(h:c+M.length<=q.size):(wb q c M).getD i 0=if c<=i/\i<c+M.length then M.getD (i-c) 0 else q.getD i 0:=by
 have lq:=u6 (xs:=q)
 rw[← jE,← jE (a:=q),a8,a8,a8]
 show ((q.toList.take c++M++q.toList.drop (c+M.length))[i]?).getD 0=_
 have l1:(q.toList.take c).length=c:=by rw[u5];left
 by_cases h1:i<c
 ·rw[uhe (by left),z0 (by rw[i6];left),z0 (by left),ueo h1]
 ·by_cases h2:i<c+M.length
  ·rw[uhd ⟨by left,h2⟩,z0 (by rw[i6];left),v8 (by left),l1]
  ·rw[uhe (by left),v8 (by rw[i6];left),i6,l1,udm,show c+M.length+(i-(c+M.length))=i by left]
theorem zbr {q:Array Nat}{c:Nat}{M:List Nat}(h:M.Perm (seg q c M.length)):(wb q c M).Perm q:=by
 rw[ugi]
 have e:q.toList=q.toList.take c++seg q c M.length++q.toList.drop (c+M.length):=by
  unfold seg
  rw[uax,← ufm,ua6,ua6]
 show (q.toList.take c++M++q.toList.drop (c+M.length)).Perm q.toList
 conv=>rhs;rw[e]
 exact ((ud5 _).append h).append (ud5 _)
section
variable {prog:l9}{w:uak}{A:uae}{E:c9->d7->Prop}{s:d7}{κ:SortKind}{it:Array Keyed}{N:Nat}{r:Nat->Int}{p p' p'':Array Nat}{pd:Array (Nat × Nat × Nat)}{gl:Nat}
theorem zbq {M:Model}{σ:Type}{x st:σ}{Q:PUnit->σ->Prop}(h:Q ⟨⟩ x):wpS M A E s (set x:StateT σ Sem PUnit) Q st:=by
 unfold wpS;rw[StateT.run_set];exact f9 ⟨rfl,h⟩
theorem qP {a n:Nat}(h:a+n<=p.size)(u:Rn r p a n):Sd r (seg p a n):=by
 refine ua8.mpr λ i j hi hj hij=>?_
 have hi':=hi;have hj':=hj
 rw[eQ h] at hi' hj'
 have e:∀ k (hk:k<(seg p a n).length),(seg p a n)[k]=p.getD (a+k) 0:=λ k hk=>by
  rw[← fS (by rwa [eQ h] at hk) h,a8,c7 hk];rfl
 rw[e i hi,e j hj]
 exact u (a+i) (a+j) (by left) (by left) (by left)
theorem yT (h:Srt.Ask N r (kas_cmp prog w A κ it) s)(g:Gd N p){i sa na nb pw pw2:Nat}{Q:Bool->SortSt->Prop}(e1:pd[i]?=some (sa,na,pw))(e2:pd[i+1]?=some (sa+na,nb,pw2))(n1:1<=na)(n2:1<=nb)(hl:sa+na+nb<=N)(u1:Rn r p sa na)(u2:Rn r p (sa+na) nb)
  (z:∀ p' g',Gd N p'->Rn r p' sa (na+nb)->Ag p p' sa (sa+na+nb)->Q true (SP κ it p' ((pd.setIfInBounds i (sa,na+nb,pw)).eraseIdxIfInBounds (i+1)) g')):wpS (o9 prog w) A E s (mergeAt' i) Q (SP κ it p pd gl):=by
 have sz:=g.sz
 have hN:0<N:=by left
 rw[wY]
 dsimp only
 refine wpS_bind (wpS_get ?_)
 rw[show (pendingOf (SP κ it p pd gl))[i]?=some (sa,na,pw) from e1,show (pendingOf (SP κ it p pd gl))[i+1]?=some (sa+na,nb,pw2) from e2]
 dsimp only
 refine wpS_bind (zbq ?_)
 show wpS _ _ _ _ _ _ (SP κ it p ((pd.setIfInBounds i (sa,na+nb,pw)).eraseIdxIfInBounds (i+1)) gl)
 generalize (pd.setIfInBounds i (sa,na+nb,pw)).eraseIdxIfInBounds (i+1)=pd' at z
 have ltN:∀ m,m<p.size->p.getD m 0<N:=λ m _=>g.lt hN m
 refine wpS_bind (eT (by left) ?_)
 refine wpS_bind (jQ h rfl (g.lt hN _) ltN (by left) (by left) (λ a b hab hb=>u1 (sa+a) (sa+b) (by left) (by left) (by left)) λ k k1 k2 k3=>?_)
 dsimp only
 have F1:∀ a,sa<=a->a<sa+k->ky r p a<=ky r p (sa+na):=λ a a1 a2=>by
  have q:=k2 (a-sa) (by left)
  rw[show sa+(a-sa)=a by left] at q
  unfold By at q
  rw[uhe (by simp)] at q
  have:=of_decide_eq_false (by simpa using q:decide (r (p.getD (sa+na) 0)<r (p.getD a 0))=false)
  unfold ky;left
 have F2:∀ a,sa+k<=a->a<sa+na->ky r p (sa+na)<ky r p a:=λ a a1 a2=>by
  have q:=k3 (a-sa) (by left) (by left)
  rw[show sa+(a-sa)=a by left] at q
  unfold By at q
  rw[uhe (by simp)] at q
  exact uhb (by simpa using q:decide (r (p.getD (sa+na) 0)<r (p.getD a 0))=true)
 by_cases c0:na-k=0
 ·rw[uhd (by simpa using c0)]
  refine wpS_pure (z p gl g (λ a b a1 ab b1=>?_) Ag.refl)
  by_cases hb:b<sa+na
  ·exact u1 a b a1 ab hb
  ·by_cases ha:a<sa+na
   ·exact uar (F1 a a1 (by left)) (u2 (sa+na) b (h9 _) (by left) (by left))
   ·exact u2 a b (by left) ab (by left)
 rw[uhe (by simpa using c0)]
 rw[show sa+k+(na-k)-1=sa+na-1 by left]
 refine wpS_bind (eT (by left) ?_)
 refine wpS_bind (jQ h rfl (g.lt hN _) ltN (by left) (by left) (λ a b hab hb=>u2 (sa+na+a) (sa+na+b) (by left) (by left) (by left)) λ m m1 m2 m3=>?_)
 dsimp only
 have G1:∀ a,sa+na<=a->a<sa+na+m->ky r p a<ky r p (sa+na-1):=λ a a1 a2=>by
  have q:=m2 (a-(sa+na)) (by left)
  rw[show sa+na+(a-(sa+na))=a by left] at q
  unfold By at q
  rw[uhd rfl] at q
  exact uhb q
 have G2:∀ a,sa+na+m<=a->a<sa+na+nb->ky r p (sa+na-1)<=ky r p a:=λ a a1 a2=>by
  have q:=m3 (a-(sa+na)) (by left) (by left)
  rw[show sa+na+(a-(sa+na))=a by left] at q
  unfold By at q
  rw[uhd rfl] at q
  have:=of_decide_eq_false q
  unfold ky;left
 by_cases c1:m=0
 ·rw[uhd (by simpa using c1)]
  refine wpS_pure (z p gl g (λ a b a1 ab b1=>?_) Ag.refl)
  by_cases hb:b<sa+na
  ·exact u1 a b a1 ab hb
  ·by_cases ha:a<sa+na
   ·exact uar (u1 a (sa+na-1) a1 (by left) (by left)) (G2 b (by left) (by left))
   ·exact u2 a b (by left) ab (by left)
 rw[uhe (by simpa using c1)]
 have ex:(p.map (kas_item it)).extract (sa+k) (sa+na)=arr it (seg p (sa+k) (na-k)):=by rw[pC,show sa+na-(sa+k)=na-k by left]
 have ey:(p.map (kas_item it)).extract (sa+na) (sa+na+m)=arr it (seg p (sa+na) m):=by rw[pC,show sa+na+m-(sa+na)=m by left]
 have l1:(seg p (sa+k) (na-k)).length=na-k:=eQ (by left)
 have l2:(seg p (sa+na) m).length=m:=eQ (by left)
 have two:Two N r (seg p (sa+k) (na-k)) (seg p (sa+na) m):=by
  refine⟨by left,by left,λ x hx=>?_,λ x hx=>?_,qP (by left) λ a b a1 ab b1=>u1 a b (by left) ab (by left),qP (by left) λ a b a1 ab b1=>u2 a b (by left) ab (by left),?_,λ x hx=>?_⟩
  ·obtain⟨a,a1,a2,rfl⟩:=fR (by left) hx;exact g.lt hN _
  ·obtain⟨a,a1,a2,rfl⟩:=fR (by left) hx;exact g.lt hN _
  ·rw[fS (by left) (by left),fS (by left) (by left)]
   exact uap (F2 (sa+k+0) (by left) (by left))
  ·obtain⟨a,a1,a2,rfl⟩:=fR (by left) hx
   rw[l1,fS (by left) (by left),show sa+k+(na-k-1)=sa+na-1 by left]
   exact uap (G1 a (by left) (by left))
 have fin : ∀ X g', Gm r (seg p (sa+k) (na-k)) (seg p (sa+na) m) X → wpS (o9 prog w) A E s (do
       modify λ s=>setArr s (uff (λ a x=>a.setIfInBounds (sa+k+x.snd) x.fst) (arrOf s) (arr it X).toList.zipIdx)
       let v ← get
       pure (failedOf v).isNone) Q (SS κ (p.map (kas_item it)) pd' g'):=λ X g' gm=>by
  have lX:X.length=na-k+m:=by have:=gm.1.length_eq;rw[i6,l1,l2] at this;exact this
  refine wpS_bind (wpS_modify ?_)
  have e:=oT (it:=it) (b:=sa+k) X 0 p (by left)
  rw[Nat.add_zero] at e
  rw[show setArr (SS κ (p.map (kas_item it)) pd' g') (uff (λ a x=>a.setIfInBounds (sa+k+x.snd) x.fst) (arrOf (SS κ (p.map (kas_item it)) pd' g')) (arr it X).toList.zipIdx)=SP κ it (wb p (sa+k) X) pd' g' from by
   show SortSt.mk' κ _ pd' g' none=SortSt.mk' κ _ pd' g' none
   rw[← e]]
  refine wpS_bind (wpS_get (wpS_pure ?_))
  have sg:seg p (sa+k) (na-k)++seg p (sa+na) m=seg p (sa+k) (na-k+m):=by
   rw[← zb5,show sa+k+(na-k)=sa+na by left]
  have pm:(wb p (sa+k) X).Perm p:=zbr (by rw[lX,← sg];exact gm.1)
  have gt:∀ a,(wb p (sa+k) X).getD a 0=if sa+k<=a/\a<sa+na+m then X.getD (a-(sa+k)) 0 else p.getD a 0:=λ a=>by
   rw[zda (by left),lX,show sa+k+(na-k+m)=sa+na+m by left]
  have key:ky r p (sa+na)<=ky r p (sa+na-1):=uap (F2 _ (by left) (by left))
  have mid:∀ a,sa+k<=a->a<sa+na+m->ky r p (sa+na)<=ky r (wb p (sa+k) X) a/\ky r (wb p (sa+k) X) a<=ky r p (sa+na-1):=λ a a1 a2=>by
   unfold ky
   rw[gt,uhd ⟨a1,a2⟩]
   have hm:=gm.1.mem_iff.mp (fP (l:=X) (i:=a-(sa+k)) (by left))
   rcases u4.mp hm with hm | hm
   ·obtain⟨b,b1,b2,e⟩:=fR (by left) hm
    rw[e]
    exact⟨uap (F2 b (by left) (by left)),u1 b (sa+na-1) (by left) (by left) (by left)⟩
   ·obtain⟨b,b1,b2,e⟩:=fR (by left) hm
    rw[e]
    exact⟨u2 (sa+na) b (h9 _) (by left) (by left),uap (G1 b (by left) (by left))⟩
  have out:∀ a,(a<sa+k\/sa+na+m<=a)->ky r (wb p (sa+k) X) a=ky r p a:=λ a ha=>by
   unfold ky;rw[gt,uhe (by left)]
  refine z _ g' (pm.trans g) (λ a b a1 ab b1=>?_) λ a ha=>by rw[gt,uhe (by left)]
  by_cases ca:a<sa+k
  ·rw[out a (.inl ca)]
   by_cases cb:b<sa+k
   ·rw[out b (.inl cb)];exact u1 a b a1 ab (by left)
   ·by_cases cb2:b<sa+na+m
    ·exact uar (F1 a a1 ca) (mid b (by left) cb2).1
    ·rw[out b (.inr (by left))]
     exact uar (F1 a a1 ca) (uar key (G2 b (by left) (by left)))
  ·by_cases ca2:a<sa+na+m
   ·by_cases cb2:b<sa+na+m
    ·unfold ky
     rw[gt,gt,uhd ⟨by left,ca2⟩,uhd ⟨by left,cb2⟩]
     exact eX gm.2 (by left) (by left)
    ·rw[out b (.inr (by left))]
     exact uar (mid a (by left) ca2).2 (G2 b (by left) (by left))
   ·rw[out a (.inr (by left)),out b (.inr (by left))]
    exact u2 a b (by left) ab (by left)
 split
 ·refine wpS_bind ?_
  show wpS _ _ _ _ (mergeLo' ((p.map (kas_item it)).extract (sa+k) (sa+na)) ((p.map (kas_item it)).extract (sa+na) (sa+na+m))) _ _
  rw[ex,ey]
  exact yR two h fin
 ·refine wpS_bind ?_
  show wpS _ _ _ _ (mergeHi' ((p.map (kas_item it)).extract (sa+k) (sa+na)) ((p.map (kas_item it)).extract (sa+na) (sa+na+m))) _ _
  rw[ex,ey]
  exact yS two h fin
end
end Ts
namespace Ts
open PySem PySem.W PyProof.Rows Srt
abbrev US:=Option Unit × Unit
abbrev RS:=Option Unit × Nat
abbrev PD:=Array (Nat × Nat × Nat)
def cStep (pw:Nat)(_:Nat)(_:US):SM (ForInStep US):=do
 let g ← get
 match (if (pendingOf g).size>1 then (pendingOf g)[(pendingOf g).size-2]? else none) with
 | some (_, _, older) => if older <= pw then pure (.done (none, ())) else do
     let b ← mergeAt' ((pendingOf g).size-2)
     if (!b)=true then pure (.done (some (),())) else pure (.yield (none,()))
 | _=>pure (.done (none,()))
def rPush (size lo n:Nat):SM (ForInStep RS):=do
 let g ← get
 match (pendingOf g).back? with
 | some (s1,n1,_)=>do
  let u ← forIn [0:size] ((none,()):US) (cStep (power' size (2*s1+n1) (2*s1+n1+n1+n) size))
  match u.1 with
  | some r=>pure (.done (some r,lo))
  | none=>do
   modify λ s=>setPending s ((pendingOf s).modify ((pendingOf s).size-1) λ x=>(x.1,x.2.1,power' size (2*s1+n1) (2*s1+n1+n1+n) size))
   modify λ s=>setPending s ((pendingOf s).push (lo,n,0))
   pure (.yield (none,lo+n))
 | _=>do
  modify λ s=>setPending s ((pendingOf s).push (lo,n,0))
  pure (.yield (none,lo+n))
def rFew (size lo found:Nat):SM (ForInStep RS):=do
 liftM (rule "list.sort.binary-insertion")
 let b ← binarySort' lo (min (size-lo) (minRun' size size 0)) found
 if (!b)=true then pure (.done (some (),lo)) else rPush size lo (min (size-lo) (minRun' size size 0))
def rStep (size:Nat)(_:Nat)(s:RS):SM (ForInStep RS) :=
 if s.2 ≥ size then pure (.done (none,s.2)) else do
  let x ← countRun' s.2 (size-s.2)
  match x with
  | some found=>if found<minRun' size size 0 then rFew size s.2 found else rPush size s.2 found
  | _=>pure (.done (some (),s.2))
def pick (p:PD):Nat :=
 if Option.any (λ x=>decide (x<p[p.size-2+1]?.elim 0 λ x=>x.2.1)) (if p.size-2>0 then udu (λ x=>x.2.1) p[p.size-2-1]? else none)=true then p.size-2-1 else p.size-2
def eStep (_:Nat)(_:US):SM (ForInStep US):=do
 let g ← get
 if (pendingOf g).size<=1 then pure (.done (none,())) else do
  let b ← mergeAt' (pick (pendingOf g))
  if (!b)=true then pure (.done (some (),())) else pure (.yield (none,()))
theorem uP:sortRuns'=(do
 let g ← get
 let s ← forIn [0:(arrOf g).size] ((none,0):RS) (rStep (arrOf g).size)
 match s.1 with
 | some r=>pure r
 | none=>do
  let u ← forIn [0:(arrOf g).size] ((none,()):US) eStep
  match u.1 with
  | some r=>pure r
  | none=>pure ()):=by
 rw[sortRuns'_eq]
 dsimp only
 congr 1
 funext g
 have hp : ∀ lo n, (do
     let g' ← get
     match (pendingOf g').back? with
     | some (s1,n1,_)=>do
       let u ← forIn [0:(arrOf g).size] ((none,()):US) (cStep (power' (arrOf g).size (2*s1+n1) (2*s1+n1+n1+n) (arrOf g).size))
       match u.1 with
       | some r=>pure (.done (some r,lo))
       | none=>do
         modify λ s=>setPending s ((pendingOf s).modify ((pendingOf s).size-1) λ x=>(x.1,x.2.1,power' (arrOf g).size (2*s1+n1) (2*s1+n1+n1+n) (arrOf g).size))
         modify λ s=>setPending s ((pendingOf s).push (lo,n,0))
         pure (.yield (none,lo+n))
     | _=>do
       modify λ s=>setPending s ((pendingOf s).push (lo,n,0))
       pure (.yield (none,lo+n)):SM (ForInStep RS))=rPush (arrOf g).size lo n:=λ lo n=>rfl
 congr 1
 ·congr 1
  funext x s
  unfold rStep
  congr 1
  congr 1
  funext o
  cases o with
  | none=>rfl
  | some found =>
   dsimp only
   congr 1
   ·unfold rFew
    congr 1;funext _;congr 1;funext b;congr 1
    rw[← hp]
    congr 1;funext g'
    cases (pendingOf g').back? with
    | none=>rfl
    | some t =>
     obtain⟨s1,n1,k⟩:=t
     dsimp only
     congr 1
     funext u
     obtain⟨o,u⟩:=u
     cases o <;> rfl
   ·rw[← hp]
    congr 1;funext g'
    cases (pendingOf g').back? with
    | none=>rfl
    | some t =>
     obtain⟨s1,n1,k⟩:=t
     dsimp only
     congr 1
     funext u
     obtain⟨o,u⟩:=u
     cases o <;> rfl
 ·funext s
  obtain⟨o,s⟩:=s
  cases o with
  | some r=>rfl
  | none =>
   dsimp only
   congr 1
   funext u
   obtain⟨o,u⟩:=u
   cases o <;> rfl
def Cov (r:Nat->Int)(p:Array Nat):List (Nat × Nat × Nat)->Nat->Nat->Prop
 | [],a,b=>a=b
 | x::t,a,b=>x.1=a/\1<=x.2.1/\Rn r p a x.2.1/\Cov r p t (a+x.2.1) b
section
variable {r:Nat->Int}{p p':Array Nat}
theorem Cov.len:∀ {l:List (Nat × Nat × Nat)}{a b:Nat},Cov r p l a b->a+l.length<=b
 | [],a,b,h=>udx h
 | x::t,a,b,⟨_,h1,_,h2⟩=>by
  have:=Cov.len h2
  rw[l6];left
theorem Cov.app:∀ {l m:List (Nat × Nat × Nat)}{a b:Nat},Cov r p (l++m) a b↔∃ c,Cov r p l a c/\Cov r p m c b
 | [],m,a,b=>⟨λ h=>⟨a,rfl,h⟩,λ ⟨c,e,h⟩=>by cases e;exact h⟩
 | x::t,m,a,b=>⟨λ ⟨e,h1,u,h⟩=>by obtain⟨c,h2,h3⟩:=Cov.app.mp h;exact⟨c,⟨e,h1,u,h2⟩,h3⟩,λ ⟨c,⟨e,h1,u,h2⟩,h3⟩=>⟨e,h1,u,Cov.app.mpr ⟨c,h2,h3⟩⟩⟩
theorem Cov.ag {x y:Nat}(g:Ag p p' x y):∀ {l:List (Nat × Nat × Nat)}{a b:Nat},Cov r p l a b->(b<=x\/y<=a)->Cov r p' l a b
 | [],a,b,h,_=>h
 | z::t,a,b,⟨e,h1,u,h⟩,d=>by
  have:=Cov.len h
  exact⟨e,h1,u.ag g (by left),Cov.ag g h (by left)⟩
theorem Cov.mod (f:Nat × Nat × Nat->Nat × Nat × Nat)(hf:∀ x,(f x).1=x.1/\(f x).2.1=x.2.1):∀ {l:List (Nat × Nat × Nat)}{i a b:Nat},Cov r p l a b->Cov r p (l.modify i f) a b
 | [],i,a,b,h=>by cases i <;> exact h
 | x::t,0,a,b,⟨e,h1,u,h⟩=>by
  obtain⟨f1,f2⟩:=hf x
  show (f x).1=a/\1<=(f x).2.1/\Rn r p a (f x).2.1/\Cov r p t (a+(f x).2.1) b
  rw[f1,f2];exact⟨e,h1,u,h⟩
 | x::t,i+1,a,b,⟨e,h1,u,h⟩=>⟨e,h1,u,Cov.mod f hf h⟩
end
section
variable {prog:l9}{w:uak}{A:uae}{E:c9->d7->Prop}{s:d7}{κ:SortKind}{it:Array Keyed}{N:Nat}{r:Nat->Int}{p p' p'':Array Nat}{pd:PD}{gl lo:Nat}
theorem qO (h:Srt.Ask N r (kas_cmp prog w A κ it) s)(g:Gd N p)(hl:lo<=N)(c:Cov r p pd.toList 0 lo){i:Nat}(hi:i+1<pd.size){Q:Bool->SortSt->Prop}
  (z:∀ p' pd' g',Gd N p'->Cov r p' pd'.toList 0 lo->pd'.size+1=pd.size->Ag p p' 0 lo->Q true (SP κ it p' pd' g')):wpS (o9 prog w) A E s (mergeAt' i) Q (SP κ it p pd gl):=by
 have ln:pd.toList.length=pd.size:=u6
 have e1:pd.toList=pd.toList.take i++(pd.toList[i]::pd.toList[i+1]::pd.toList.drop (i+2)):=by
  rw[← uce,← uce,ua6]
 obtain⟨pre,epre⟩:∃ pre,pre=pd.toList.take i:=⟨_,rfl⟩
 obtain⟨post,epost⟩:∃ post,post=pd.toList.drop (i+2):=⟨_,rfl⟩
 obtain⟨⟨sa,na,pw⟩,ex⟩:∃ x,x=pd.toList[i]:=⟨_,rfl⟩
 obtain⟨⟨sb,nb,pw2⟩,ey⟩:∃ x,x=pd.toList[i+1]:=⟨_,rfl⟩
 rw[← epre,← epost,← ex,← ey] at e1
 have lp:pre.length=i:=by rw[epre,u5];left
 rw[e1] at c
 obtain⟨a,c1,⟨q1,q2,q3,q4,q5,q6,c2⟩⟩:=Cov.app.mp c
 dsimp only at q1 q2 q3 q4 q5 q6 c2
 subst q1
 subst q4
 have lc:=c2.len
 have l1:=c1.len
 have g1:pd[i]?=some (sa,na,pw):=by rw[← ua5,c7 (by left),← ex]
 have g2:pd[i+1]?=some (sa+na,nb,pw2):=by rw[← ua5,c7 (by left),← ey]
 have en:((pd.setIfInBounds i (sa,na+nb,pw)).eraseIdxIfInBounds (i+1)).toList=pre++(sa,na+nb,pw)::post:=by
  rw[Array.toList_eraseIdxIfInBounds,ugh,e1,List.set_append_right _ _ (by left),lp,ueh,List.set_cons_zero,List.eraseIdx_append_of_length_le (by left),lp,show i+1-i=1 by left]
  rfl
 refine yT h g g1 g2 q2 q5 (by left) q3 q6 λ p' g' gd u ag=>z p' _ g' gd ?_ ?_ (ag.wide (p7 _) (by left))
 ·rw[en]
  refine Cov.app.mpr ⟨sa,c1.ag ag (.inl (h9 _)),rfl,by show 1<=na+nb;left,u,?_⟩
  show Cov r p' post (sa+(na+nb)) lo
  rw[← Nat.add_assoc]
  exact c2.ag ag (.inr (h9 _))
 ·have:=congrArg uev en
  rw[u6] at this
  have:=congrArg uev e1
  simp only [i6,l6] at *
  left
theorem qR (h:Srt.Ask N r (kas_cmp prog w A κ it) s)(g:Gd N p){n:Nat}(h1:1<=n)(hl:lo+n<=N)(c:Cov r p pd.toList 0 lo)(u:Rn r p lo n){Q:ForInStep RS->SortSt->Prop}
  (z:∀ p' pd' g',Gd N p'->Cov r p' pd'.toList 0 (lo+n)->Q (.yield (none,lo+n)) (SP κ it p' pd' g')):wpS (o9 prog w) A E s (rPush N lo n) Q (SP κ it p pd gl):=by
 have fin:∀ p' (pd':PD) g',Gd N p'->Cov r p' pd'.toList 0 lo->Ag p p' 0 lo->Q (.yield (none,lo+n)) (SP κ it p' (pd'.push (lo,n,0)) g'):=λ p' pd' g' gd cv ag=>by
  refine z p' _ g' gd ?_
  rw[ufx]
  exact Cov.app.mpr ⟨lo,cv,rfl,h1,u.ag ag (.inr (h9 _)),rfl⟩
 unfold rPush
 refine wpS_bind (wpS_get ?_)
 show wpS _ _ _ _ (match pd.back? with | some (s1,n1,_)=>_ | _=>_) _ _
 cases eb:pd.back? with
 | none =>
  dsimp only
  exact wpS_bind (wpS_modify (wpS_pure (fin p pd gl g c Ag.refl)))
 | some t =>
  obtain⟨s1,n1,k⟩:=t
  dsimp only
  generalize power' N (2*s1+n1) (2*s1+n1+n1+n) N=pw
  refine wpS_bind (wpS_mono (wpS_forRange (I:=λ x c st'=>c=(none,())/\∃ p' pd' g',st'=SP κ it p' pd' g'/\Gd N p'/\Cov r p' pd'.toList 0 lo/\Ag p p' 0 lo) (Q:=λ c st'=>c=(none,())/\∃ p' pd' g',st'=SP κ it p' pd' g'/\Gd N p'/\Cov r p' pd'.toList 0 lo/\Ag p p' 0 lo)
   (λ x c st' _ _ hI=>?_) (λ c st' hI=>hI) ⟨rfl,p,pd,gl,rfl,g,c,Ag.refl⟩) (λ c st' hI=>?_))
  ·obtain⟨rfl,p',pd',g',rfl,gd,cv,ag⟩:=hI
   unfold cStep
   refine wpS_bind (wpS_get ?_)
   show wpS _ _ _ _ (match (if pd'.size>1 then pd'[pd'.size-2]? else none) with | some (_,_,older)=>_ | _=>_) _ _
   by_cases c1:pd'.size>1
   ·rw[uhd c1]
    cases eo:pd'[pd'.size-2]? with
    | none=>exact wpS_pure ⟨rfl,p',pd',g',rfl,gd,cv,ag⟩
    | some t =>
     obtain⟨s2,n2,older⟩:=t
     dsimp only
     by_cases c2:older<=pw
     ·rw[uhd c2]
      exact wpS_pure ⟨rfl,p',pd',g',rfl,gd,cv,ag⟩
     ·rw[uhe c2]
      refine wpS_bind (qO h gd (by left) cv (by show pd'.size-2+1<pd'.size;left) λ p2 pd2 g2 gd2 cv2 _ ag2=>?_)
      rw[uhe (by simp)]
      exact wpS_pure ⟨rfl,p2,pd2,g2,rfl,gd2,cv2,ag.trans ag2⟩
   ·rw[uhe c1]
    exact wpS_pure ⟨rfl,p',pd',g',rfl,gd,cv,ag⟩
  ·obtain⟨rfl,p',pd',g',rfl,gd,cv,ag⟩:=hI
   dsimp only
   refine wpS_bind (wpS_modify (wpS_bind (wpS_modify (wpS_pure (fin p' _ g' gd ?_ ag)))))
   rw[Array.toList_modify]
   exact cv.mod (λ x=>(x.1,x.2.1,pw)) λ x=>⟨rfl,rfl⟩
theorem zcc (h:Srt.Ask N r (kas_cmp prog w A κ it) s)(g:Gd N p){x:Nat}(hl:lo<=N)(c:Cov r p pd.toList 0 lo){Q:ForInStep RS->SortSt->Prop}
  (d:lo=N->Q (.done (none,lo)) (SP κ it p pd gl)) (z:∀ p' pd' g' n,1<=n->lo+n<=N->Gd N p'->Cov r p' pd'.toList 0 (lo+n)->Q (.yield (none,lo+n)) (SP κ it p' pd' g')):wpS (o9 prog w) A E s (rStep N x (none,lo)) Q (SP κ it p pd gl):=by
 unfold rStep
 dsimp only
 by_cases c0:lo ≥ N
 ·rw[uhd c0]
  exact wpS_pure (d (by left))
 rw[uhe c0]
 refine wpS_bind (xE h g (by left) (by left) λ m p1 g1 m1 m2 u ag=>?_)
 dsimp only
 have c1:=c.ag ag (.inl (h9 _))
 generalize hmr:minRun' N N 0=mr
 by_cases c2:m<mr
 ·rw[uhd c2]
  unfold rFew
  rw[hmr]
  refine wpS_bind (wpS_lift (ubz ⟨rfl,?_⟩))
  refine wpS_bind (zbi h g1 (by left) m1 (by left) u λ p2 g2 u2 ag2=>?_)
  rw[uhe (by simp)]
  exact qR h g2 (by left) (by left) (c1.ag ag2 (.inl (h9 _))) u2 λ p' pd' g' gd cv=>z p' pd' g' _ (by left) (by left) gd cv
 ·rw[uhe c2]
  exact qR h g1 m1 (by left) c1 u λ p' pd' g' gd cv=>z p' pd' g' _ m1 (by left) gd cv
theorem zce {pd:PD}(h:1<pd.size):pick pd+1<pd.size:=by
 have:∀ b:Bool,(if b=true then pd.size-2-1 else pd.size-2)+1<pd.size:=λ b=>by
  cases b <;> simp <;> left
 exact this _
theorem runs_w (h:Srt.Ask N r (kas_cmp prog w A κ it) s)(g:Gd N p)(h1:1<=N){Q:Unit->SortSt->Prop}(z:∀ p' pd' g',Gd N p'->Up r p' N->Q () (SP κ it p' pd' g')):wpS (o9 prog w) A E s sortRuns' Q (SP κ it p #[] gl):=by
 rw[uP]
 refine wpS_bind (wpS_get ?_)
 have sz:(arrOf (SP κ it p #[] gl)).size=N:=by show (p.map _).size=N;rw[Array.size_map];exact g.sz
 rw[sz]
 refine wpS_bind (wpS_mono (wpS_forRange (I:=λ x c st'=>∃ p' pd' g' lo,c=(none,lo)/\st'=SP κ it p' pd' g'/\Gd N p'/\Cov r p' pd'.toList 0 lo/\lo<=N/\(x<=lo\/lo=N)) (Q:=λ c st'=>∃ p' pd' g',c=(none,N)/\st'=SP κ it p' pd' g'/\Gd N p'/\Cov r p' pd'.toList 0 N)
  (λ x c st' _ hx hI=>?_) (λ c st' hI=>?_) ⟨p,#[],gl,0,rfl,rfl,g,rfl,p7 _,.inl (h9 _)⟩) (λ c st' hI=>?_))
 ·obtain⟨p',pd',g',lo,rfl,rfl,gd,cv,lN,hx'⟩:=hI
  exact zcc h gd lN cv (λ e=>⟨p',pd',g',by rw[e],rfl,gd,by rw[← e];exact cv⟩) λ p2 pd2 g2 n n1 n2 gd2 cv2=>⟨p2,pd2,g2,lo+n,rfl,rfl,gd2,cv2,n2,.inl (by left)⟩
 ·obtain⟨p',pd',g',lo,rfl,rfl,gd,cv,lN,hx'⟩:=hI
  have e:lo=N:=by left
  subst e
  exact⟨p',pd',g',rfl,rfl,gd,cv⟩
 ·obtain⟨p',pd',g',rfl,rfl,gd,cv⟩:=hI
  dsimp only
  have one:∀ p2 (pd2:PD) g2,Gd N p2->Cov r p2 pd2.toList 0 N->pd2.size<=1->Q () (SP κ it p2 pd2 g2):=λ p2 pd2 g2 gd2 cv2 l1=>by
   refine z p2 pd2 g2 gd2 ?_
   have ln:pd2.toList.length=pd2.size:=u6
   match e:pd2.toList with
   | []=>rw[e] at cv2;have:0=N:=cv2;left
   | [x] =>
    rw[e] at cv2
    obtain⟨_,_,u,f⟩:=cv2
    have f:0+x.2.1=N:=f
    exact λ i j hij hj=>u i j (p7 _) hij (by left)
   | x::y::t=>rw[e,l6,l6] at ln;left
  have lp:=cv.len
  rw[u6] at lp
  refine wpS_bind (wpS_mono (wpS_forRange (I:=λ x c st'=>c=(none,())/\∃ p' pd' g',st'=SP κ it p' pd' g'/\Gd N p'/\Cov r p' pd'.toList 0 N/\pd'.size+x<=N) (Q:=λ c st'=>c=(none,())/\∃ p' pd' g',st'=SP κ it p' pd' g'/\Gd N p'/\Cov r p' pd'.toList 0 N/\pd'.size<=1)
   (λ x c st' _ _ hI=>?_) (λ c st' hI=>?_) ⟨rfl,p',pd',g',rfl,gd,cv,by left⟩) (λ c st' hI=>?_))
  ·obtain⟨rfl,p2,pd2,g2,rfl,gd2,cv2,l2⟩:=hI
   unfold eStep
   refine wpS_bind (wpS_get ?_)
   show wpS _ _ _ _ (if pd2.size<=1 then _ else _) _ _
   by_cases c1:pd2.size<=1
   ·rw[uhd c1]
    exact wpS_pure ⟨rfl,p2,pd2,g2,rfl,gd2,cv2,c1⟩
   ·rw[uhe c1]
    refine wpS_bind (qO h gd2 (h9 _) cv2 (zce (by left)) λ p3 pd3 g3 gd3 cv3 e3 _=>?_)
    rw[uhe (by simp)]
    exact wpS_pure ⟨rfl,p3,pd3,g3,rfl,gd3,cv3,by left⟩
  ·obtain⟨rfl,p2,pd2,g2,rfl,gd2,cv2,l2⟩:=hI
   exact⟨rfl,p2,pd2,g2,rfl,gd2,cv2,by left⟩
  ·obtain⟨rfl,p2,pd2,g2,rfl,gd2,cv2,l2⟩:=hI
   exact wpS_pure (one p2 pd2 g2 gd2 cv2 l2)
end
end Ts
namespace Srt
open PySem PySem.W PyProof.Rows
section
variable {prog:l9}{w:uak}{A:uae}{E:c9->d7->Prop}{s:d7}{κ:SortKind}{it:Array Keyed}
theorem runB {vs:List c9}{r:Nat->Int}{Q:SortSt->d7->Prop}(h1:1<=vs.length)
  (ask:∀ (i j:Nat)(C:Bool->d7->Prop),i<vs.length->j<vs.length->C (decide (r i<r j)) s->kas_ask prog w A κ vs i j C s)
  (hG:∀ p st',arrOf st'=p.map (kas_item (vs.toArray.zip vs.toArray))->failedOf st'=none->Gd vs.length p->Up r p vs.length->Q st' s) :
  j9 (o9 prog w) A ((sortRuns').run (SortSt.mk' κ (vs.toArray.zip vs.toArray) #[] 7 none)) (λ r s'=>Q r.2 s') E s:=by
 have e:=kas_range (vs.toArray.zip vs.toArray)
 rw[show (vs.toArray.zip vs.toArray).size=vs.length by simp] at e
 have e2:SortSt.mk' κ (vs.toArray.zip vs.toArray) #[] 7 none=Ts.SP κ (vs.toArray.zip vs.toArray) (uec (d8 vs.length)) #[] 7:=by
  show _=SortSt.mk' κ (Array.map _ _) #[] 7 none
  rw[e]
 rw[e2]
 refine ub1 (Ts.runs_w (N:=vs.length) (r:=r) (Q:=λ _ st'=>Q st' s) (λ i j C hi hj q=>?_) (ueq _) h1 λ p' pd' g' gd up=>hG p' _ rfl rfl gd up) (λ x s' h=>?_) λ _ _ x=>x
 ·rw[← kat_ask_eq (ks:=vs) (vs:=vs) rfl]
  exact ask i j C hi hj q
 ·obtain⟨rfl,q⟩:=h;exact q
theorem lsortB {a:l7}{vs:List c9}{n:Nat}{P:PySem.Fin->d7->Prop}{r:Nat->Int}{κ:SortKind}(ho:s.heap.get? a=some (seqObj "list" vs.toArray n))(hz:vs.length<=1000)
  (hk:2<=vs.length->∀ (s':d7)(Q:SortKind->d7->Prop),Stay a s.heap s'.heap->Q κ s'->j9 (o9 prog w) A (keyKind' vs.toArray) Q (λ _ _=>False) s')
  (hc:∀ (s':d7)(i j:Nat)(C:Bool->d7->Prop),Stay a s.heap s'.heap->i<vs.length->j<vs.length->C (decide (r i<r j)) s'->kas_ask prog w A κ vs i j C s')
  (h:∀ (p:Array Nat)(h':Heap)(c:Nat),Gd vs.length p->Up r p vs.length->Stay a s.heap h'->h'.get? a=some (seqObj "list" (outOf vs p).toArray c)->P (.done (.ret .none)) { s with heap:=h' }) :
  j9 (o9 prog w) A (Builtin.«list.sort» ⟨[.ref a],[]⟩) P E s:=by
 rw[list_sort_plain]
 have ha:a<s.heap.objs.size:=j0 ho
 have line:(1000:Nat)<=r9:=by rw[ubp];decide
 refine a9 (listItems_at ho rfl (a9 (listUpdate_at ho rfl ?_ (by rw[j5];left) (p7 _))))
 have e1:=get?_update_seq ho λ _=>(#[]:Array c9)
 generalize (if ((λ _=>(#[]:Array c9)) vs.toArray).size==vs.toArray.size then n else n+1)=n1 at e1
 have k1:Stay a s.heap (s.heap.update a (Obj.mapSeq λ _=>(#[]:Array c9))):=λ b o hb q=>(uac s.heap _ (Ne.symm hb)).trans q
 refine a9 (seqEpoch_at e1 rfl (a9 (uew ?_ (by show vs.length<=_;left))))
 refine a9 (uea ?_ (p7 _))
 refine ua0 ?_
 show j9 (o9 prog w) A _ P E { s with heap:=(((s.heap.update a (Obj.mapSeq λ _=>(#[]:Array c9))).push (seqObj "tuple" vs.toArray 0)).push (seqObj "list" #[] 0):Heap) }
 generalize hg:((s.heap.update a (Obj.mapSeq λ _=>(#[]:Array c9))).push (seqObj "tuple" vs.toArray 0)).push (seqObj "list" #[] 0)=g
 have e2:g.get? a=some (seqObj "list" #[] n1):=by rw[← hg];exact c6 _ (c6 _ e1)
 have k2:Stay a s.heap g:=λ b o hb q=>by rw[← hg];exact c6 _ (c6 _ (k1 b o hb q))
 have fin:∀ (p:Array Nat),Gd vs.length p->Up r p vs.length->P (.done (.ret .none)) { s with heap:=g.update a (Obj.mapSeq λ _=>(outOf vs p).toArray) }:=λ p g1 u1 =>
  h p _ _ g1 u1 (λ b o hb q=>(uac g _ (Ne.symm hb)).trans (k2 b o hb q)) (get?_update_seq e2 λ _=>(outOf vs p).toArray)
 by_cases h2:vs.length<2
 ·have h2':vs.toArray.size<2:=by rw[j5];exact h2
  simp only [uhd h2']
  refine a9 (f9 ?_)
  rw[StateT.run_pure]
  refine a9 (f9 ?_)
  have eo:((arrOf (SortSt.mk' general' (vs.toArray.zip vs.toArray) #[] 7 none)).map (·.2))=vs.toArray:=by
   apply Array.toList_inj.mp
   show ((vs.toArray.zip vs.toArray).map (·.2)).toList=_
   rw[Array.toList_map]
   simp only [Array.toList_zip,List.toList_toArray]
   exact uez (h9 _)
  dsimp only
  refine a9 (seqEpoch_at e2 rfl ?_)
  rw[eo]
  refine a9 (listUpdate_at e2 rfl ?_ (p7 _) (by rw[j5];left))
  simp only [bne_self_eq_false,ube,if_false]
  have f:=fin (uec (d8 vs.length)) (ueq _) (λ i j hij hj=>by
   have:i=j:=by left
   subst this;exact v6 _)
  rw[mC] at f
  exact f9 f
 ·have h2':¬ vs.toArray.size<2:=by rw[j5];exact h2
  simp only [uhe h2']
  refine a9 (ub1 (hk (by left) { s with heap:=g } (λ κ' s'=>κ'=κ/\s'={ s with heap:=g }) k2 ⟨rfl,rfl⟩) (λ κ' s' hq=>?_) λ _ _ x=>x.elim)
  obtain⟨rfl,rfl⟩:=hq
  refine a9 (ub1 (runB (r:=r) (Q:=λ st' s'=>∃ p:Array Nat,arrOf st'=p.map (kas_item (vs.toArray.zip vs.toArray))/\failedOf st'=none/\s'={ s with heap:=g }/\Gd vs.length p/\Up r p vs.length)
   (by left) (λ i j C hi hj q=>hc _ i j C k2 hi hj q) (λ p st' b2 b3 b4 b5=>⟨p,b2,b3,rfl,b4,b5⟩)) ?_ λ _ _ e=>e)
  rintro ⟨⟨⟩,st'⟩ s' ⟨p,har,hf,rfl,g1,u1⟩
  have hout:=kat_snds (ks:=vs) (vs:=vs) rfl har
  have ol:(outOf vs p).length=vs.length:=rA g1
  dsimp only
  rw[hout]
  refine a9 (seqEpoch_at e2 rfl ?_)
  refine a9 (listUpdate_at e2 rfl ?_ (p7 _) (by show (outOf vs p).toArray.size<=_;rw[j5];left))
  rw[hf]
  simp only [bne_self_eq_false,ube,if_false]
  exact f9 (fin p g1 u1)
theorem wT {l:l7}{vs:List c9}{Q:c9->d7->Prop}{r:Nat->Int}{κ:SortKind}(hl:s.heap.IsList l vs.toArray)(hz:vs.length<=1000)
  (hk:2<=vs.length->∀ (A':uae)(s':d7)(Q:SortKind->d7->Prop),(∀ b o,s.heap.get? b=some o->s'.heap.get? b=some o)->Q κ s'->j9 (o9 prog w) A' (keyKind' vs.toArray) Q (λ _ _=>False) s')
  (hc:∀ (A':uae)(s':d7)(i j:Nat)(C:Bool->d7->Prop),(∀ b o,s.heap.get? b=some o->s'.heap.get? b=some o)->i<vs.length->j<vs.length->C (decide (r i<r j)) s'->kas_ask prog w A' κ vs i j C s')
  (h:∀ (p:Array Nat)(h':Heap)(c:Nat),Gd vs.length p->Up r p vs.length->(∀ b o,s.heap.get? b=some o->h'.get? b=some o)->h'.get? (s.heap.objs.size+1)=some (seqObj "list" (outOf vs p).toArray c)->Q (.ref (s.heap.objs.size+1)) { s with heap:=h' }) :
  j9 (o9 prog w) A (call (.builtin "sorted") [.ref l]) Q E s:=by
 have line:(1000:Nat)<=r9:=by rw[ubp];decide
 refine Calls.call_function_entry kind_sorted plain_sorted entry_sorted (args_sorted1 _) ?_
 unfold Builtin.«sorted»
 refine a9 (m:=checkCount "sorted" 1 1 _) (f9 (a9 (collect_list hl (a9 (uea ?_ (by left))) (by left))))
 generalize hg:(s.heap.push (seqObj "list" #[] 0)).update s.heap.objs.size (Obj.mapSeq (·++vs.toArray))=g
 have sz:g.objs.size=s.heap.objs.size+1:=by rw[← hg,Heap.size_update,size_push']
 have k1:∀ b o,s.heap.get? b=some o->g.get? b=some o:=λ b o q=>by
  rw[← hg]
  exact (uac _ _ (Ne.symm (j8 (j0 q)))).trans (c6 _ q)
 have hoL:(g.push { cls:=.type "list",data:=.seq vs.toArray }).get? (s.heap.objs.size+1)=some (seqObj "list" vs.toArray 0):=by rw[← sz];exact i7 _ rfl
 have k2:∀ b o,s.heap.get? b=some o->(g.push { cls:=.type "list",data:=.seq vs.toArray }).get? b=some o:=λ b o q=>c6 _ (k1 b o q)
 have ne:∀ b o,s.heap.get? b=some o->b≠s.heap.objs.size+1:=λ b o q=>j8 (ubd (j0 q))
 show j9 _ _ _ _ _ { s with heap:=g.push { cls:=.type "list",data:=.seq vs.toArray } }
 rw[sz]
 refine a9 (ua0 (uab slot_list_sort ⟨_,hoL,rfl⟩ entry_list_sort ?_ (args_list_sort _)))
 refine lsortB (s:={ s with heap:=g.push { cls:=.type "list",data:=.seq vs.toArray } }) (r:=r) (κ:=κ) hoL hz (λ h2 s' Q' st q=>hk h2 _ s' Q' (λ b o e=>st b o (ne b o e) (k2 b o e)) q)
  (λ s' i j C st hi hj q=>hc _ s' i j C (λ b o e=>st b o (ne b o e) (k2 b o e)) hi hj q) λ p h' c g1 u1 st e=>⟨_,rfl,?_⟩
 exact f9 ⟨_,rfl,h p h' c g1 u1 (λ b o e=>st b o (ne b o e) (k2 b o e)) e⟩
end
end Srt
namespace L3
open PySem PySem.Spec PyProof.Rows L2
inductive call_sortedTL_i (K:b8)(xs:List V)(H:Hp)(Q:VK):Prop
 | mk:∀ p ys ks,(xs=[.ref p])->(SqL K H p ys)->(ys.length<=1000)->(Paired (λ (y:V) (k:List Int)=>∃ a,y=.ref a/\SqT K H a (k.map V.int)) ys ks)->((∀ k∈ks,k≠[]))->(∀ qs:List (V × List Int),qs.Perm (ys.zip ks)->qs.Pairwise (λ a b=>Srt.lexI b.2 a.2=false)->∀ l,H l=none->Q (.ref l) (upd H l (.lst (qs.map (·.1)))))->call_sortedTL_i K xs H Q
theorem uF {X:Cx}:CallR X (.builtin "sorted") (call_sortedTL_i X.K):=by
 intro pins s σ H xs us Q I r h
 obtain⟨p,ys,ks,rfl,hq,h64,hp,hne,q⟩:=h
 obtain⟨u,rfl,rx⟩:=vals1 r
 cases rx
 obtain⟨its,rv,pl,hz⟩:=I.list hq
 have hl:=rv.length
 have hlk:ys.length=ks.length:=Paired.length hp
 have line:(1000:Nat)<=r9:=by rw[ubp];decide
 have hT:∀ {ys:List V}{ks:List (List Int)}{its:List c9},Paired (λ (y:V) (k:List Int)=>∃ a,y=.ref a/\SqT X.K H a (k.map V.int)) ys ks->Vals ys its->Paired (Srt.TupI s.heap) its ks:=by
  intro ys ks its hp
  induction hp generalizing its with
  | nil=>intro rv;cases rv;exact .nil
  | cons r t ih =>
   intro rv
   cases rv with
   | cons r1 r2 =>
    refine .cons ?_ (ih r2)
    obtain⟨a,rfl,qa⟩:=r
    cases r1
    obtain⟨its',rv',⟨o,e1,e2,n,e3⟩,_⟩:=I.tuple qa
    exact⟨a,o,its'.toArray,n,rfl,e1,e2,e3,by simpa using dC rv'⟩
 have tp:=hT hp rv
 have mono:∀ {h':Heap},(∀ b o,s.heap.get? b=some o->h'.get? b=some o)->Paired (Srt.TupI h') its ks:=λ k=>Paired.mapP tp λ v k' z=>z.to k
 refine Srt.wT (r:=Srt.rank its.length λ i j=>Srt.lexI (ks.getD i []) (ks.getD j [])) (κ:=tuples' true) pl.isList (by left) (λ h2 A' s' Q' k q'=>Srt.nB (mono k) hne h2 q')
  (λ A' s' i j C k hi hj q'=>Srt.oW (mono k) hi hj (by rw[Srt.hW (lt:=λ i j=>Srt.lexI (ks.getD i []) (ks.getD j [])) (λ i=>Srt.fM _) (λ _ _ _ _ _ _=>Srt.eZ _ _ _) (λ _ _ _ _ _ _=>Srt.fL _ _ _) hi hj] at q';exact q')) λ pp h' c g u kp e=>?fin
 have fr:H (s.heap.objs.size+1)=none:=I.hok.fresh (ub8 _)
 have pm:(pp.toList.map λ i=>(ys.getD i .non,ks.getD i [])).Perm (ys.zip ks):=by
  have h1:=iC g λ i=>(ys.getD i V.non,ks.getD i [])
  have e1:(d8 its.length).map (λ i=>(ys.getD i V.non,ks.getD i []))=ys.zip ks:=by
   refine ud0 (by simp;left) λ i h1 h2=>?_
   have hi:i<its.length:=by simpa using h1
   have a1:i<ys.length:=by left
   have a2:i<ks.length:=by left
   simp [ubn,a1,a2]
  rw[e1] at h1
  exact h1
 have pw:(pp.toList.map λ i=>(ys.getD i V.non,ks.getD i [])).Pairwise (λ a b=>Srt.lexI b.2 a.2=false):=by
  rw[uaw]
  refine gW g u λ i j hi hj z=>?_
  have w:=Srt.hW (n:=its.length) (lt:=λ i j=>Srt.lexI (ks.getD i []) (ks.getD j [])) (λ i=>Srt.fM _) (λ _ _ _ _ _ _=>Srt.eZ _ _ _) (λ _ _ _ _ _ _=>Srt.fL _ _ _) hj hi
  rw[uhc (by left)] at w
  exact w.symm
 have ev:(pp.toList.map λ i=>(ys.getD i V.non,ks.getD i [])).map (·.1)=pp.toList.map λ i=>ys.getD i V.non:=by
  rw[uaj];rfl
 refine⟨.ref (s.heap.objs.size+1),_,I.laid (a:=s.heap.objs.size+1) (o:=.lst ((pp.toList.map λ i=>(ys.getD i V.non,ks.getD i [])).map (·.1))) (t':=s.toks) kp (ub8 _) ⟨?_,Srt.outOf its pp,c,?_,e⟩,rfl,q _ pm pw _ fr⟩
 ·have:=pm.length_eq
  rw[c8,this,List.length_zip];left
 ·rw[ev]
  exact fH rv pp.toList λ i hi=>by have:=eG g i hi;left
inductive call_sortedTB_i  (xs:List V) (H:Hp) (Q:VK):Prop
 | mk:∀ p ys ks,(xs=[.ref p])->(H p=some (.lst ys))->(ys.length<=1000)->(Paired (λ (y:V) (k:List Int)=>∃ a,y=.ref a/\H a=some (.tup (k.map V.int))) ys ks)->((∀ k∈ks,k≠[]))->(∀ qs:List (V × List Int),qs.Perm (ys.zip ks)->qs.Pairwise (λ a b=>Srt.lexI b.2 a.2=false)->∀ l H',Same H H'->H l=none->H' l=some (.lst (qs.map (·.1)))->Q (.ref l) H')->call_sortedTB_i xs H Q
theorem uG {X:Cx}:CallR X (.builtin "sorted") (call_sortedTB_i):=by
 intro pins s σ H xs us Q I r h
 obtain⟨p,ys,ks,rfl,hp,hz,pr,ne,q⟩:=h
 exact uF (X:=X) pins s σ H _ us Q I r ⟨p,ys,ks,rfl,SqL.of hp,hz,Paired.mapP pr λ y k ⟨a,e1,e2⟩=>⟨a,e1,SqT.of e2⟩,ne,λ qs pq wq l hl=>q qs pq wq l _ (aT hl) hl aO⟩
end L3
namespace Far
inductive Walk (A:List (Nat × Nat × Int))(s:Nat):Nat->Int->Prop
 | nil:Walk A s s 0
 | snoc {u v:Nat} {l x:Int}:Walk A s u x->(u,v,l)∈A->Walk A s v (x+l)
variable {A:List (Nat × Nat × Int)}{s:Nat}
def Pos (A:List (Nat × Nat × Int)):Prop:=∀ u v l,(u,v,l)∈A->1<=l
theorem Walk.nonneg (P:Pos A){v:Nat}{x:Int}(h:Walk A s v x):0<=x:=by
 induction h with
 | nil=>exact v6 0
 | snoc _ m ih=>have:=P _ _ _ m;left
def Dst (A:List (Nat × Nat × Int))(s v:Nat)(o:Option Int):Prop:=(∀ y,o=some y->Walk A s v y)/\∀ L,Walk A s v L->∃ y,o=some y/\y<=L
theorem Dst.unique {v:Nat}{o p:Option Int}(h:Dst A s v o)(k:Dst A s v p):o=p:=by
 cases o with
 | none =>
  cases p with
  | none=>rfl
  | some y=>obtain⟨_,e,_⟩:=h.2 y (k.1 y rfl);cases e
 | some x =>
  obtain⟨y,rfl,hy⟩:=k.2 x (h.1 x rfl)
  obtain⟨z,e,hz⟩:=h.2 y (k.1 y rfl)
  cases e
  rw[show x=y by left]
theorem least {P:Nat->Prop}:∀ n,P n->∃ m,P m/\∀ k,P k->m<=k:=by
 intro n
 induction n using ud9 with
 | ind n ih =>
  intro h
  by_cases c:∃ k,k<n/\P k
  ·obtain⟨k,hk,pk⟩:=c;exact ih k hk pk
  ·exact⟨n,h,λ k pk=>by
    by_cases z:k<n
    ·exact absurd ⟨k,z,pk⟩ c
    ·left⟩
theorem iX (P:Pos A)(s v:Nat):∃ o,Dst A s v o:=by
 by_cases c:∃ x,Walk A s v x
 ·obtain⟨x,hx⟩:=c
  have nn:=hx.nonneg P
  obtain⟨m,hm,mn⟩:=least (P:=λ k=>Walk A s v (k:Int)) x.toNat (by rw[uaf nn];exact hx)
  refine⟨some m,λ y e=>by cases e;exact hm,λ L hL=>⟨m,rfl,?_⟩⟩
  have n2:=hL.nonneg P
  have:=mn L.toNat (by rw[uaf n2];exact hL)
  left
 ·exact⟨none,⟨λ y e=>(by cases e),λ L hL=>absurd ⟨L,hL⟩ c⟩⟩
theorem Walk.cons {u v:Nat}{l:Int}(m:(u,v,l)∈A){w:Nat}{x:Int}(h:Walk A v w x):Walk A u w (x+l):=by
 induction h with
 | nil=>exact .snoc .nil m
 | snoc _ m' ih=>rw[ufw];exact .snoc ih m'
def Sym (A:List (Nat × Nat × Int)):Prop:=∀ u v l,(u,v,l)∈A->(v,u,l)∈A
theorem Walk.back (S:Sym A){v:Nat}{x:Int}(h:Walk A s v x):Walk A v s x:=by
 induction h with
 | nil=>exact .nil
 | snoc _ m ih=>exact ih.cons (S _ _ _ m)
theorem Dst.back (S:Sym A){v:Nat}{o:Option Int}(h:Dst A s v o):Dst A v s o:=⟨λ y e=>(h.1 y e).back S,λ L hL=>h.2 L (hL.back S)⟩
def lt2 (e f:Int × Int):Prop:=e.1<f.1\/(e.1=f.1/\e.2<f.2)
def get {α:Type}(cs:List (Option α))(v:Nat):Option α:=cs.getD v none
theorem bA {α:Type}{cs:List (Option α)}{v i:Nat}{x:Option α}(h:v<cs.length):get (cs.set v x) i=if i=v then x else get cs i:=by
 unfold get
 rw[a8,List.getElem?_set,a8]
 by_cases c:v=i
 ·subst c;simp [h]
 ·simp [c,Ne.symm c]
def ct {α:Type}:List (Option α)->Nat
 | []=>0
 | none::r=>ct r
 | some _::r=>ct r+1
theorem gE {α:Type}:∀ cs:List (Option α),ct cs<=cs.length
 | []=>h9 0
 | none::r=>Nat.le_succ_of_le (gE r)
 | some _::r=>ugd (gE r)
theorem iK {α:Type}{c:α}:∀ {cs:List (Option α)}{v:Nat},v<cs.length->ct (cs.set v (some c))=ct cs+(if (get cs v).isSome then 0 else 1)
 | none::r,0,_=>rfl
 | some _::r,0,_=>rfl
 | none::r,v+1,h=>iK (cs:=r) (v:=v) (by simpa using h)
 | some _::r,v+1,h=>by
  have:=iK (c:=c) (cs:=r) (v:=v) (by simpa using h)
  show ct (r.set v (some c))+1=ct r+1+_
  rw[this]
  show _=ct r+1+(if (get r v).isSome then 0 else 1)
  left
theorem rG {α:Type}:∀ {cs:List (Option α)}{v:Nat}{c:α},get cs v=some c->1<=ct cs
 | [],v,c,h=>by cases h
 | some _::r,_,_,_=>ugd (p7 _)
 | none::r,0,c,h=>by cases h
 | none::r,v+1,c,h=>rG (cs:=r) (v:=v) (c:=c) h
def WM:Int:=2^130
def mW:Option (Int × Int)->Nat
 | none=>(2^250)
 | some c=>(c.1*WM+c.2).toNat
def mu:List (Option (Int × Int))->Nat
 | []=>0
 | c::r=>mW c+mu r
theorem qV {x:Option (Int × Int)}:∀ {cs:List (Option (Int × Int))}{v:Nat},v<cs.length->mW x<mW (get cs v)->mu (cs.set v x)<mu cs
 | c::r,0,_,h=>Nat.add_lt_add_right (k:=mu r) h
 | c::r,v+1,hl,h=>Nat.add_lt_add_left (k:=mW c) (qV (cs:=r) (v:=v) (by simpa using hl) h)
structure Good (A:List (Nat × Nat × Int))(n s:Nat)(cs:List (Option (Int × Int))):Prop where
 len:cs.length=n
 walk:∀ v c,get cs v=some c->Walk A s v c.1
 w0:∀ v c,get cs v=some c->0<=c.2/\c.2<=c.1*2^60
 top:∀ v c,get cs v=some c->c.1<=((ct cs:Nat)-1:Int)*10^18
 start:∃ c,get cs s=some c/\c.1<=0
theorem Good.step {n u v:Nat}{l w:Int}{cs:List (Option (Int × Int))}{c:Int × Int}(P:Pos A)(n24:n<=24)(g:Good A n s cs)(arc:(u,v,l)∈A)(l1:l<=10^18)(w0:0<=w)(w1:w<=2^60)(hv:v<n)(hu:get cs u=some c)
  (h:get cs v=none\/∃ c',get cs v=some c'/\lt2 (c.1+l,c.2+w) c'):Good A n s (cs.set v (some (c.1+l,c.2+w)))/\mu (cs.set v (some (c.1+l,c.2+w)))<mu cs:=by
 have hv':v<cs.length:=by rw[g.len];exact hv
 have l0:=P _ _ _ arc
 have wk:=Walk.snoc (g.walk _ _ hu) arc
 have c0:=(g.walk _ _ hu).nonneg P
 obtain⟨cw0,cw1⟩:=g.w0 _ _ hu
 have ct24:ct cs<=24:=by have:=gE cs;rw[g.len] at this;left
 have ctp:=rG hu
 have es:=iK (c:=(c.1+l,c.2+w)) hv'
 have topc:=g.top _ _ hu
 have wbound:c.2+w<=(c.1+l)*2^60:=by rw[Int.add_mul];left
 have big:c.1+l<=((ct (cs.set v (some (c.1+l,c.2+w))):Nat)-1:Int)*10^18:=by
  rw[es]
  rcases h with h | ⟨c',h,hlt⟩
  ·rw[h]
   show _<=(((ct cs+1:Nat):Int)-1)*10^18
   left
  ·rw[h]
   show _<=(((ct cs+0:Nat):Int)-1)*10^18
   have:=g.top _ _ h
   unfold lt2 at hlt
   simp only at hlt
   left
 have ctm:ct cs<=ct (cs.set v (some (c.1+l,c.2+w))):=by rw[es];exact uby _ _
 refine⟨⟨by rw[ubt];exact g.len,λ v' d e=>?_,λ v' d e=>?_,λ v' d e=>?_,?_⟩,?_⟩
 ·rw[bA hv'] at e
  split at e
  ·rename_i z;subst z;cases e;exact wk
  ·exact g.walk _ _ e
 ·rw[bA hv'] at e
  split at e
  ·cases e;exact⟨by show 0<=c.2+w;left,wbound⟩
  ·exact g.w0 _ _ e
 ·rw[bA hv'] at e
  split at e
  ·cases e;exact big
  ·have:=g.top _ _ e
   left
 ·obtain⟨d,hd,hd0⟩:=g.start
  rw[bA hv']
  split
  ·rename_i z;subst z
   refine⟨_,rfl,?_⟩
   rcases h with h | ⟨c',h,hlt⟩
   ·rw[h] at hd;cases hd
   ·rw[h] at hd;cases hd
    unfold lt2 at hlt
    simp only at hlt
    show c.1+l<=0
    left
  ·exact⟨d,hd,hd0⟩
 ·refine qV hv' ?_
  have ctb:ct (cs.set v (some (c.1+l,c.2+w)))<=24:=by have:=gE (cs.set v (some (c.1+l,c.2+w)));rw[ubt,g.len] at this;left
  have x23:c.1+l<=23*10^18:=by left
  have y23:c.2+w<=23*10^18*2^60:=by left
  have WMe:WM=1361129467683753853853498429727072845824:=by decide
  rcases h with h | ⟨c',h,hlt⟩
  ·rw[h]
   show ((c.1+l)*WM+(c.2+w)).toNat<2^250
   have:(c.1+l)*WM+(c.2+w)<2^250:=by rw[WMe];left
   left
  ·rw[h]
   obtain⟨d0,d1⟩:=g.w0 _ _ h
   have t0:=(g.walk _ _ h).nonneg P
   have tt:=g.top _ _ h
   show ((c.1+l)*WM+(c.2+w)).toNat<(c'.1*WM+c'.2).toNat
   unfold lt2 at hlt
   simp only at hlt
   have:(c.1+l)*WM+(c.2+w)<c'.1*WM+c'.2:=by
    rw[WMe]
    rcases hlt with z | ⟨z,z'⟩
    ·left
    ·rw[z];left
   have p0:0<=(c.1+l)*WM+(c.2+w):=by rw[WMe];left
   left
def Stab (A:List (Nat × Nat × Int))(cs:List (Option (Int × Int))):Prop:=∀ u v l c,(u,v,l)∈A->get cs u=some c->∃ c',get cs v=some c'/\c'.1<=c.1+l
theorem Good.dst {n:Nat}{cs:List (Option (Int × Int))}(g:Good A n s cs)(st:Stab A cs)(v:Nat):Dst A s v ((get cs v).map (·.1)):=by
 refine⟨λ y e=>?_,λ L hL=>?_⟩
 ·cases h:get cs v with
  | none=>rw[h] at e;cases e
  | some c=>rw[h] at e;cases e;exact g.walk _ _ h
 ·have:∃ c,get cs v=some c/\c.1<=L:=by
   induction hL with
   | nil=>exact g.start
   | snoc _ m ih =>
    obtain⟨c,hc,hle⟩:=ih
    obtain⟨c',hc',hle'⟩:=st _ _ _ _ m hc
    exact⟨c',hc',by left⟩
  obtain⟨c,hc,hle⟩:=this
  exact⟨c.1,by rw[hc];rfl,hle⟩
structure Snd (A:List (Nat × Nat × Int))(n s:Nat)(D:List (Option Int)):Prop where
 len:D.length=n
 walk:∀ v x,get D v=some x->Walk A s v x
 start:∃ x,get D s=some x/\x<=0
structure Rnd (A:List (Nat × Nat × Int))(n s:Nat)(δ:Nat->Option Int)(D0:List (Option Int))(B:(Nat × Nat × Int)->Prop)(D:List (Option Int)):Prop where
 snd:Snd A n s D
 keep:∀ v,get D0 v=δ v->get D v=δ v
 arc:∀ u v l x,B (u,v,l)->get D0 u=δ u->δ u=some x->∃ y,get D v=some y/\y<=x+l
section
variable {n:Nat}{δ:Nat->Option Int}{D0 D:List (Option Int)}{B:(Nat × Nat × Int)->Prop}{u v:Nat}{l:Int}
def plus (B:(Nat × Nat × Int)->Prop)(a:Nat × Nat × Int):(Nat × Nat × Int)->Prop:=λ b=>B b\/b=a
theorem Rnd.no (r:Rnd A n s δ D0 B D)(hu:get D u=none):Rnd A n s δ D0 (plus B (u,v,l)) D:=by
 refine⟨r.snd,r.keep,λ u' v' l' x b e1 e2=>?_⟩
 rcases b with b | b
 ·exact r.arc _ _ _ _ b e1 e2
 ·cases b
  have:=r.keep _ e1
  rw[hu,e2] at this;cases this
theorem Rnd.old (r:Rnd A n s δ D0 B D){x' y:Int}(hu:get D u=some x')(hv:get D v=some y)(hy:y<=x'+l):Rnd A n s δ D0 (plus B (u,v,l)) D:=by
 refine⟨r.snd,r.keep,λ u' v' l' x b e1 e2=>?_⟩
 rcases b with b | b
 ·exact r.arc _ _ _ _ b e1 e2
 ·cases b
  have:=r.keep _ e1
  rw[hu,e2] at this;cases this
  exact⟨y,hv,hy⟩
theorem Rnd.put (dd:∀ v,Dst A s v (δ v))(m:(u,v,l)∈A)(hn:v<n)(r:Rnd A n s δ D0 B D){x':Int}(hu:get D u=some x')(hv:get D v=none\/∃ y,get D v=some y/\x'+l<y)(P:Pos A):Rnd A n s δ D0 (plus B (u,v,l)) (D.set v (some (x'+l))):=by
 have hl:v<D.length:=by rw[r.snd.len];exact hn
 have wk:=Walk.snoc (r.snd.walk _ _ hu) m
 obtain⟨d,hd,hdl⟩:=(dd v).2 _ wk
 have bad:get D0 v=δ v->False:=λ e=>by
  have e':=r.keep _ e
  rcases hv with hv | ⟨y,hv,hy⟩
  ·rw[hv,hd] at e';cases e'
  ·rw[hv,hd] at e';cases e';left
 refine⟨⟨by rw[ubt];exact r.snd.len,λ i x e=>?_,?_⟩,λ i e=>?_,λ u' v' l' x b e1 e2=>?_⟩
 ·rw[bA hl] at e
  split at e
  ·rename_i z;subst z;cases e;exact wk
  ·exact r.snd.walk _ _ e
 ·rw[bA hl]
  split
  ·rename_i z;subst z
   obtain⟨x,hx,hx0⟩:=r.snd.start
   rcases hv with hv | ⟨y,hv,hy⟩
   ·rw[hv] at hx;cases hx
   ·rw[hv] at hx;cases hx
    exact⟨_,rfl,by left⟩
  ·exact r.snd.start
 ·rw[bA hl]
  split
  ·rename_i z;subst z;exact absurd e bad
  ·exact r.keep _ e
 ·rw[bA hl]
  rcases b with b | b
  ·obtain⟨y',hy',hle⟩:=r.arc _ _ _ _ b e1 e2
   split
   ·rename_i z;subst z
    refine⟨_,rfl,?_⟩
    rcases hv with hv | ⟨y,hv,hy⟩
    ·rw[hv] at hy';cases hy'
    ·rw[hv] at hy';cases hy';left
   ·exact⟨y',hy',hle⟩
  ·cases b
   have:=r.keep _ e1
   rw[hu,e2] at this;cases this
   rw[uhd rfl]
   exact⟨_,rfl,v6 _⟩
theorem Rnd.next (dd:∀ v,Dst A s v (δ v))(P:Pos A)(inn:∀ u v l,(u,v,l)∈A->u<n/\v<n)(s0:Snd A n s D0)(r:Rnd A n s δ D0 B D)(all:∀ a∈A,B a):∀ (k:Nat)(v:Nat),v<n->get D0 v≠δ v->(∀ d,δ v=some d->d.toNat<=k)->∃ v,v<n/\get D0 v≠δ v/\get D v=δ v:=by
 intro k
 induction k using ud9 with
 | ind k ih =>
  intro v hv hne hk
  cases e:δ v with
  | none =>
   cases e2:get D0 v with
   | none=>exact absurd (e2.trans e.symm) hne
   | some x =>
    obtain⟨y,hy,_⟩:=(dd v).2 _ (s0.walk _ _ e2)
    rw[e] at hy;cases hy
  | some d =>
   have wk:=(dd v).1 _ e
   have hkd:=hk _ e
   cases hw:wk with
   | nil =>
    obtain⟨x,hx,hx0⟩:=s0.start
    have:=(s0.walk _ _ hx).nonneg P
    have:x=0:=by left
    subst this
    exact absurd (hx.trans e.symm) hne
   | @snoc u _ l x w m =>
    obtain⟨y,hy,hyx⟩:=(dd u).2 _ w
    obtain⟨d',hd',hle⟩:=(dd v).2 _ (Walk.snoc ((dd u).1 _ hy) m)
    rw[e] at hd';cases hd'
    have yx:y=x:=by left
    subst yx
    by_cases c:get D0 u=δ u
    ·obtain⟨y',hy',hle'⟩:=r.arc _ _ _ _ (all _ m) c hy
     obtain⟨d',hd',hle2⟩:=(dd v).2 _ (r.snd.walk _ _ hy')
     rw[e] at hd';cases hd'
     have:y'=y+l:=by left
     subst this
     exact⟨v,hv,hne,hy'.trans e.symm⟩
    ·have l1:=P _ _ _ m
     have y0:=((dd u).1 _ hy).nonneg P
     refine ih (k-1) (by left) u (inn _ _ _ m).1 c λ d hd=>?_
     rw[hy] at hd;cases hd;left
end
theorem eK {α:Type}{p q:α->Bool}:∀ {xs:List α},(∀ x∈xs,p x=true->q x=true)->(∃ x∈xs,q x=true/\p x=false)->xs.countP p<xs.countP q
 | [],_,⟨x,h,_⟩=>by cases h
 | a::r,h,⟨x,hx,e1,e2⟩=>by
  rw[ue1,ue1]
  have le:r.countP p<=r.countP q:=ufa λ x hx=>h x (i9 _ hx)
  rcases j4.mp hx with rfl | hx
  ·rw[e1,e2];simp;left
  ·have:=eK (xs:=r) (λ x hx=>h x (i9 _ hx)) ⟨x,hx,e1,e2⟩
   have:=h a i5
   cases e:p a <;> cases e':q a <;> simp_all <;> left
def cnt (n:Nat)(δ:Nat->Option Int)(D:List (Option Int)):Nat:=(d8 n).countP λ v=>decide (get D v=δ v)
def Done (n:Nat)(δ:Nat->Option Int)(D:List (Option Int))(k:Nat):Prop:=(∀ v,v<n->get D v=δ v)\/k+1<=cnt n δ D
theorem Done.round {n:Nat}{δ:Nat->Option Int}{D0 D:List (Option Int)}{B:(Nat × Nat × Int)->Prop}{k:Nat}(dd:∀ v,Dst A s v (δ v))(P:Pos A)(inn:∀ u v l,(u,v,l)∈A->u<n/\v<n)(s0:Snd A n s D0)(r:Rnd A n s δ D0 B D)(all:∀ a∈A,B a)(h:Done n δ D0 k):Done n δ D (k+1):=by
 by_cases c:∀ v,v<n->get D0 v=δ v
 ·exact .inl λ v hv=>r.keep v (c v hv)
 ·rcases h with h | h
  ·exact absurd h c
  ·have ⟨v,z⟩:=Classical.not_forall.mp c
   have ⟨hv,hne⟩:=Classical.not_imp.mp z
   obtain⟨v',hv',n0,n1⟩:=r.next dd P inn s0 all ((δ v).getD 0).toNat v hv hne λ d e=>by rw[e];exact h9 _
   refine .inr (ucy h (eK (λ x _ e=>?_) ⟨v',o8.mpr hv',uha n1,uhc n0⟩))
   exact uha (r.keep x (uhb e))
theorem Done.first {n:Nat}{δ:Nat->Option Int}{D:List (Option Int)}{v:Nat}(hv:v<n)(h:get D v=δ v):Done n δ D 0:=by
 refine .inr ?_
 exact List.countP_pos_iff.mpr ⟨v,o8.mpr hv,uha h⟩
theorem Done.all {n:Nat}{δ:Nat->Option Int}{D:List (Option Int)}(h:Done n δ D n):∀ v,v<n->get D v=δ v:=by
 rcases h with h | h
 ·exact h
 ·have:cnt n δ D<=n:=by
   have:=List.countP_le_length (p:=λ v=>decide (get D v=δ v)) (l:=d8 n)
   rw[v4] at this;exact this
  left
def PSt (c0:List (Option (Int × Int)))(B:(Nat × Nat × Int)->Prop)(cs:List (Option (Int × Int)))(ag:Bool):Prop :=
 (ag=false/\cs=c0/\∀ u v l c,B (u,v,l)->get c0 u=some c->∃ c',get c0 v=some c'/\c'.1<=c.1+l)\/(ag=true/\mu cs<mu c0)
section
variable {c0 cs:List (Option (Int × Int))}{B B':(Nat × Nat × Int)->Prop}{ag:Bool}{u v:Nat}{l w:Int}
end
theorem dX {α:Type}(n v:Nat):get (l8 n (none:Option α)) v=none:=by
 unfold get
 rw[a8,udl]
 split <;> rfl
theorem rF {α:Type}:∀ n:Nat,ct (l8 n (none:Option α))=0
 | 0=>rfl
 | n+1=>rF n
theorem Good.first {n:Nat}(hs:s<n):Good A n s ((l8 n none).set s (some (0,0))):=by
 have hl:s<(l8 n (none:Option (Int × Int))).length:=by rw[uaa];exact hs
 have cases':∀ v c,get ((l8 n (none:Option (Int × Int))).set s (some (0,0))) v=some c->v=s/\c=(0,0):=λ v c e=>by
  rw[bA hl,dX] at e
  split at e
  ·rename_i z;cases e;exact⟨z,rfl⟩
  ·cases e
 refine⟨by rw[ubt,uaa],λ v c e=>?_,λ v c e=>?_,λ v c e=>?_,⟨(0,0),?_,v6 _⟩⟩
 ·obtain⟨rfl,rfl⟩:=cases' _ _ e;exact .nil
 ·obtain⟨rfl,rfl⟩:=cases' _ _ e;exact⟨v6 _,by decide⟩
 ·obtain⟨rfl,rfl⟩:=cases' _ _ e
  rw[iK hl,rF,dX];decide
 ·rw[bA hl,uhd rfl]
theorem Snd.first {n:Nat}(hs:s<n):Snd A n s ((l8 n none).set s (some 0)):=by
 have hl:s<(l8 n (none:Option Int)).length:=by rw[uaa];exact hs
 refine⟨by rw[ubt,uaa],λ v c e=>?_,⟨0,?_,v6 _⟩⟩
 ·rw[bA hl,dX] at e
  split at e
  ·rename_i z;subst z;cases e;exact .nil
  ·cases e
 ·rw[bA hl,uhd rfl]
theorem Rnd.start {n:Nat}{δ:Nat->Option Int}{D:List (Option Int)}(h:Snd A n s D):Rnd A n s δ D (λ _=>False) D:=⟨h,λ _ e=>e,λ _ _ _ _ z=>z.elim⟩
theorem Rnd.less {n:Nat}{δ:Nat->Option Int}{D0 D:List (Option Int)}{B B':(Nat × Nat × Int)->Prop}(h:Rnd A n s δ D0 B D)(k:∀ a,B' a->B a):Rnd A n s δ D0 B' D:=⟨h.snd,h.keep,λ u v l x z=>h.arc u v l x (k _ z)⟩
theorem wS {n:Nat}{δ:Nat->Option Int}{D:List (Option Int)}(P:Pos A)(hs:s<n)(dd:∀ v,Dst A s v (δ v))(h:Snd A n s D):Done n δ D 0:=by
 obtain⟨x,hx,hx0⟩:=h.start
 obtain⟨y,hy,hyl⟩:=(dd s).2 0 .nil
 have:=((dd s).1 _ hy).nonneg P
 have:=(h.walk _ _ hx).nonneg P
 exact Done.first hs (by rw[hx,hy,show x=y by left])
end Far
namespace Far
variable {A:List (Nat × Nat × Int)}{s:Nat}
structure Ahd (A:List (Nat × Nat × Int))(s:Nat)(cs:List (Option (Int × Int)))(as:List (Option Nat)):Prop where
 len:as.length=cs.length
 root:get as s=none
 has:∀ v c,get cs v=some c->v≠s->get as v≠none
 arc:∀ v u,get as v=some u->∃ l cu cv,(u,v,l)∈A/\get cs u=some cu/\get cs v=some cv/\cu.1+l<=cv.1
inductive Tr (A:List (Nat × Nat × Int))(a:Nat):List Nat->Nat->Int->Prop
 | one:Tr A a [a] a 0
 | snoc {ws:List Nat} {u v:Nat} {x l:Int}:Tr A a ws u x->(u,v,l)∈A->Tr A a (ws++[v]) v (x+l)
def beyond (n:Nat)(cs:List (Option (Int × Int)))(d:Int):Nat:=(d8 n).countP λ v=>match get cs v with | none=>false | some c=>decide (d<=c.1)
theorem zO {n u:Nat}{cs:List (Option (Int × Int))}{cu:Int × Int}{d:Int}(hu:u<n)(e:get cs u=some cu)(h:cu.1<d):beyond n cs d<beyond n cs cu.1:=by
 refine eK (λ v _ hv=>?_) ⟨u,o8.mpr hu,?_,?_⟩
 ·cases e2:get cs v with
  | none=>rw[e2] at hv;cases hv
  | some c=>rw[e2] at hv;have:=uhb hv;exact uha (by left)
 ·rw[e];exact uha (v6 _)
 ·rw[e];exact uhc (by left)
theorem mS (n:Nat)(cs:List (Option (Int × Int)))(d:Int):beyond n cs d<=n:=by
 have:=List.countP_le_length (p:=λ v=>match get cs v with | none=>false | some c=>decide (d<=c.1)) (l:=d8 n)
 rw[v4] at this;exact this
theorem xI {n u:Nat}{cs:List (Option (Int × Int))}{cu:Int × Int}(hu:u<n)(e:get cs u=some cu):1<=beyond n cs cu.1 :=
 List.countP_pos_iff.mpr ⟨u,o8.mpr hu,by rw[e];exact uha (v6 _)⟩
end Far
namespace Far
def sumP:List Nat->Nat
 | []=>0
 | k::r=>2^k+sumP r
theorem gK {S S':List Nat}(h:S.Perm S'):sumP S=sumP S':=by
 induction h with
 | nil=>rfl
 | cons x _ ih=>show _+_=_+_;rw[ih]
 | swap x y l=>show 2^y+(2^x+sumP l)=2^x+(2^y+sumP l);left
 | trans _ _ h1 h2=>exact h1.trans h2
theorem vP (S:List Nat):∀ T:List Nat,sumP (S++T)=sumP S+sumP T:=by
 intro T
 induction S with
 | nil=>show sumP T=0+sumP T;left
 | cons k r ih=>show 2^k+sumP (r++T)=2^k+sumP r+sumP T;rw[ih];left
theorem gY:∀ (m:Nat){S:List Nat},S.Nodup->(∀ k∈S,k<m)->sumP S<2^m
 | 0,S,_,h=>by
  cases S with
  | nil=>exact Nat.zero_lt_one
  | cons k r=>exact absurd (h k i5) (udq _)
 | m+1,S,nd,h=>by
  have e:2^(m+1)=2^m+2^m:=by rw[Nat.pow_succ];left
  by_cases c:m∈S
  ·have p:=uc6 c
   have nd':(m::S.erase m).Nodup:=p.nodup_iff.mp nd
   have:=gY m (S:=S.erase m) (ua3.mp nd').2 λ k hk=>by
    have h1:=h k (ue9 hk)
    have h2:k≠m:=λ z=>(ua3.mp nd').1 (z ▸ hk)
    left
   rw[gK p,e]
   show 2^m+sumP (S.erase m)<_
   left
  ·have:=gY m nd λ k hk=>by
    have h1:=h k hk
    have h2:k≠m:=λ z=>c (z ▸ hk)
    left
   left
theorem jK:∀ (m:Nat){S S':List Nat},S.Nodup->S'.Nodup->(∀ k∈S,k<m)->(∀ k∈S',k<m)->sumP S=sumP S'->∀ k,k∈S->k∈S'
 | 0,S,S',_,_,h,_,_,k,hk=>absurd (h k hk) (udq _)
 | m+1,S,S',nd,nd',h,h',e,k,hk=>by
  have lower:∀ {T:List Nat},T.Nodup->(∀ k∈T,k<m+1)->m∉T->sumP T<2^m:=λ {T} n1 n2 n3=>gY m n1 λ j hj=>by
   have h1:=n2 j hj
   have h2:j≠m:=λ z=>n3 (z ▸ hj)
   left
  by_cases c:m∈S
  ·have p:=uc6 c
   have ndp:(m::S.erase m).Nodup:=p.nodup_iff.mp nd
   have e1:sumP S=2^m+sumP (S.erase m):=gK p
   by_cases c':m∈S'
   ·have p':=uc6 c'
    have ndp':(m::S'.erase m).Nodup:=p'.nodup_iff.mp nd'
    have e2:sumP S'=2^m+sumP (S'.erase m):=gK p'
    by_cases z:k=m
    ·rw[z];exact c'
    ·have lt:∀ {T:List Nat},(m::T.erase m).Nodup->(∀ k∈T,k<m+1)->∀ j∈T.erase m,j<m:=λ {T} n1 n2 j hj=>by
      have h1:=n2 j (ue9 hj)
      have h2:j≠m:=λ y=>(ua3.mp n1).1 (y ▸ hj)
      left
     have:=jK m (ua3.mp ndp).2 (ua3.mp ndp').2 (lt ndp h) (lt ndp' h') (by left) k ((ufj z).mpr hk)
     exact ue9 this
   ·have:=lower nd' h' c'
    left
  ·by_cases c':m∈S'
   ·have e2:sumP S'=2^m+sumP (S'.erase m):=gK (uc6 c')
    have:=lower nd h c
    left
   ·have lt:∀ {T:List Nat},(∀ k∈T,k<m+1)->m∉T->∀ j∈T,j<m:=λ {T} n1 n2 j hj=>by
     have h1:=n1 j hj
     have h2:j≠m:=λ y=>n2 (y ▸ hj)
     left
    exact jK m nd nd' (lt h c) (lt h' c') e k hk
abbrev Arc:=Nat × Nat × Int × Nat
inductive Rt (B:List Arc)(a:Nat):List Nat->List Nat->Nat->Int->Int->Prop
 | one:Rt B a [a] [] a 0 0
 | snoc {ws S:List Nat} {u v:Nat} {x y l:Int} {k:Nat}:Rt B a ws S u x y->(u,v,l,k)∈B->v∉ws->Rt B a (ws++[v]) (S++[k]) v (x+l) (y+2^k)
structure Keys (B:List Arc):Prop where
 sym:∀ u v l k,(u,v,l,k)∈B->(v,u,l,k)∈B
 key:∀ u v l u' v' l' k,(u,v,l,k)∈B->(u',v',l',k)∈B->l'=l/\((u'=u/\v'=v)\/(u'=v/\v'=u))
 ne:∀ u v l k,(u,v,l,k)∈B->u≠v
 pos:∀ u v l k,(u,v,l,k)∈B->1<=l
 few:∀ u v l k,(u,v,l,k)∈B->k<60
variable {B:List Arc}{a b:Nat}{ws S:List Nat}{x y:Int}
theorem Rt.last (h:Rt B a ws S b x y):b∈ws:=by
 cases h with
 | one=>exact k8.mpr rfl
 | snoc _ _ _=>exact t5 _ (k8.mpr rfl)
theorem Rt.ends (K:Keys B)(h:Rt B a ws S b x y):∀ k∈S,∃ u v l,(u,v,l,k)∈B/\u∈ws/\v∈ws:=by
 induction h with
 | one=>intro k hk;cases hk
 | @snoc ws S u v x y l k r m nv ih =>
  intro j hj
  rcases u4.mp hj with hj | hj
  ·obtain⟨p,q,l',h1,h2,h3⟩:=ih j hj
   exact⟨p,q,l',h1,ubw _ h2,ubw _ h3⟩
  ·rw[k8.mp hj]
   exact⟨u,v,l,m,ubw _ r.last,t5 _ (k8.mpr rfl)⟩
theorem Rt.fresh (K:Keys B)(h:Rt B a ws S b x y){u v:Nat}{l:Int}{k:Nat}(m:(u,v,l,k)∈B)(nv:v∉ws):k∉S:=λ hk=>by
 obtain⟨p,q,l',m',hp,hq⟩:=h.ends K k hk
 rcases (K.key _ _ _ _ _ _ _ m m').2 with ⟨e1,e2⟩ | ⟨e1,e2⟩
 ·exact nv (e2 ▸ hq)
 ·exact nv (e1 ▸ hp)
theorem Rt.nodup (K:Keys B)(h:Rt B a ws S b x y):S.Nodup:=by
 induction h with
 | one=>exact ug0
 | @snoc ws S u v x y l k r m nv ih =>
  refine ubm.mpr ⟨ih,by simp,λ p hp q hq z=>?_⟩
  rw[k8.mp hq] at z
  exact r.fresh K m nv (z ▸ hp)
theorem Rt.small (K:Keys B)(h:Rt B a ws S b x y):∀ k∈S,k<60:=λ k hk=>let ⟨u,v,l,m,_⟩:=h.ends K k hk;K.few u v l k m
theorem Rt.sum (h:Rt B a ws S b x y):y=(sumP S:Nat):=by
 induction h with
 | one=>rfl
 | @snoc ws S u v x y l k r m nv ih =>
  rw[vP,ih]
  show ((sumP S:Nat):Int)+2^k=((sumP S+(2^k+0):Nat):Int)
  have:((2^k:Nat):Int)=(2:Int)^k:=by norm_cast
  left
theorem Rt.lt (K:Keys B)(h:Rt B a ws S b x y):0<=y/\y<2^60:=by
 have e:=h.sum
 have:=gY 60 (h.nodup K) (h.small K)
 have e2:((2^60:Nat):Int)=(2:Int)^60:=by norm_cast
 left
theorem Rt.unique (K:Keys B)(h:Rt B a ws S b x y):∀ {ws' S':List Nat}{x':Int},Rt B a ws' S' b x' y->ws'=ws/\x'=x:=by
 induction h with
 | one =>
  intro ws' S' x' r
  generalize ey:(0:Int)=yy at r
  cases r with
  | one=>exact⟨rfl,rfl⟩
  | @snoc ws0 S0 u _ x0 y0 l k r m nv =>
   have p:=r.lt K
   have:(0:Int)<2^k:=Int.pow_pos (by decide)
   left
 | @snoc ws0 S0 u v x0 y0 l k r m nv ih =>
  intro ws' S' x' r'
  have full:Rt B a (ws0++[v]) (S0++[k]) v (x0+l) (y0+2^k):=.snoc r m nv
  have se:sumP S'=sumP (S0++[k]):=by
   have e1:=r'.sum
   have e2:=full.sum
   left
  have sub:=jK 60 (r'.nodup K) (full.nodup K) (r'.small K) (full.small K) se
  generalize ey:y0+2^k=yy at r'
  cases r' with
  | one =>
   have p:=r.lt K
   have:(0:Int)<2^k:=Int.pow_pos (by decide)
   left
  | @snoc ws1 S1 u1 _ x1 y1 l1 k1 r1 m1 nv1 =>
   have in1:=sub k1 (t5 _ (k8.mpr rfl))
   have k1k:k1=k:=by
    rcases u4.mp in1 with z | z
    ·exact absurd z (r.fresh K m1 nv)
    ·exact k8.mp z
   subst k1k
   obtain⟨el,eu⟩:=K.key _ _ _ _ _ _ _ m m1
   have uu:u1=u:=by
    rcases eu with ⟨e,_⟩ | ⟨e,e'⟩
    ·exact e
    ·exact absurd e' (K.ne _ _ _ _ m).symm
   subst uu
   have yy1:y1=y0:=by left
   subst yy1
   obtain⟨e1,e2⟩:=ih r1
   exact⟨by rw[e1],by rw[e2,el]⟩
theorem Rt.cons (K:Keys B){u:Nat}{l:Int}{k:Nat}(m:(u,a,l,k)∈B)(h:Rt B a ws S b x y):u∉ws->Rt B u (u::ws) (k::S) b (x+l) (y+2^k):=by
 induction h with
 | one =>
  intro nu
  have:Rt B u ([u]++[a]) ([]++[k]) a (0+l) (0+2^k):=.snoc .one m (λ z=>nu (by rw[k8] at z ⊢;exact z.symm))
  exact this
 | @snoc ws S w v x y l' k' r m' nv ih =>
  intro nu
  have r2:=ih λ z=>nu (ubw _ z)
  have:Rt B u ((u::ws)++[v]) ((k::S)++[k']) v (x+l+l') (y+2^k+2^k'):=.snoc r2 m' λ z=>by
   rcases j4.mp z with z | z
   ·exact nu (t5 _ (k8.mpr z.symm))
   ·exact nv z
  rw[ufw x l l',ufw y] at this
  exact this
theorem Rt.back (K:Keys B)(h:Rt B a ws S b x y):Rt B b ws.reverse S.reverse a x y:=by
 induction h with
 | one=>exact .one
 | @snoc ws S u v x y l k r m nv ih =>
  rw[ubk,ubk]
  exact ih.cons K (K.sym _ _ _ _ m) (λ z=>nv (ubi.mp z))
end Far
namespace Far
structure Best (B:List Arc)(n s:Nat)(cs:List (Option (Int × Int)))(as:List (Option Nat)):Prop where
 len:cs.length=n
 alen:as.length=n
 start:get cs s=some (0,0)
 root:get as s=none
 has:∀ v c,get cs v=some c->v≠s->get as v≠none
 nn:∀ v c,get cs v=some c->0<=c.1
 stab:∀ u v l k c,(u,v,l,k)∈B->get cs u=some c->∃ c',get cs v=some c'/\¬ lt2 (c.1+l,c.2+2^k) c'
 arc:∀ v u,get as v=some u->∃ l k cu,(u,v,l,k)∈B/\get cs u=some cu/\get cs v=some (cu.1+l,cu.2+2^k)
inductive TPw (as:List (Option Nat))(s:Nat):List Nat->Nat->Prop
 | root:TPw as s [s] s
 | step {ws:List Nat} {u v:Nat}:get as v=some u->TPw as s ws u->TPw as s (ws++[v]) v
section
variable {B:List Arc}{n s:Nat}{cs:List (Option (Int × Int))}{as:List (Option Nat)}
theorem Best.route (K:Keys B)(h:Best B n s cs as):∀ (m:Nat)(v:Nat)(c:Int × Int),get cs v=some c->c.1.toNat<=m->∃ ws S,Rt B s ws S v c.1 c.2/\TPw as s ws v/\∀ w∈ws,∃ cw,get cs w=some cw/\cw.1<=c.1:=by
 intro m
 induction m using ud9 with
 | ind m ih =>
  intro v c e hm
  by_cases vs:v=s
  ·subst vs
   rw[h.start] at e;cases e
   exact⟨[v],[],.one,.root,λ w hw=>by rw[k8.mp hw];exact⟨_,h.start,v6 _⟩⟩
  ·cases ea:get as v with
   | none=>exact absurd ea (h.has v c e vs)
   | some u =>
    obtain⟨l,k,cu,ma,eu,ev⟩:=h.arc v u ea
    rw[e] at ev;cases ev
    have l1:=K.pos _ _ _ _ ma
    have c0:=h.nn _ _ eu
    simp only at hm
    obtain⟨ws,S,r,tp,all⟩:=ih cu.1.toNat (by left) u cu eu (h9 _)
    have nv:v∉ws:=λ z=>by
     obtain⟨cw,e1,h1⟩:=all v z
     rw[e] at e1;cases e1
     simp only at h1;left
    refine⟨ws++[v],S++[k],.snoc r ma nv,.step ea tp,λ w hw=>?_⟩
    rcases u4.mp hw with hw | hw
    ·obtain⟨cw,e1,h1⟩:=all w hw
     exact⟨cw,e1,by show cw.1<=cu.1+l;left⟩
    ·rw[k8.mp hw]
     exact⟨_,e,v6 _⟩
theorem Best.small (K:Keys B)(h:Best B n s cs as){v:Nat}{c:Int × Int}(e:get cs v=some c):0<=c.2/\c.2<2^60:=by
 obtain⟨ws,S,r,_⟩:=h.route K _ v c e (h9 _)
 exact r.lt K
theorem Best.least (h:Best B n s cs as){ws S:List Nat}{v:Nat}{x y:Int}(r:Rt B s ws S v x y):∃ c,get cs v=some c/\¬ lt2 (x,y) c:=by
 induction r with
 | one=>exact⟨_,h.start,λ z=>by unfold lt2 at z;simp only at z;left⟩
 | @snoc ws S u v x y l k r m nv ih =>
  obtain⟨c,e,hc⟩:=ih
  obtain⟨c',e',hc'⟩:=h.stab _ _ _ _ _ m e
  refine⟨c',e',λ z=>?_⟩
  unfold lt2 at *
  simp only at *
  left
end
def comb (c:Int × Int):Int:=c.1*2^61+c.2
def arcsC (B:List Arc):List (Nat × Nat × Int):=B.map λ b=>(b.1,b.2.1,b.2.2.1*2^61+2^b.2.2.2)
theorem arcsC_mem {B:List Arc}{u v:Nat}{L:Int}:(u,v,L)∈arcsC B↔∃ l k,(u,v,l,k)∈B/\L=l*2^61+2^k:=by
 unfold arcsC
 rw[uau]
 constructor
 ·rintro ⟨⟨a,b,l,k⟩,h,e⟩
  cases e
  exact⟨l,k,h,rfl⟩
 ·rintro ⟨l,k,h,rfl⟩
  exact⟨(u,v,l,k),h,rfl⟩
section
variable {B:List Arc}{n s:Nat}{cs:List (Option (Int × Int))}{as:List (Option Nat)}
theorem oU (k:Nat):(1:Int)<=2^k:=Int.pow_pos (by decide)
theorem mT (K:Keys B):Sym (arcsC B):=λ u v L h=>by
 obtain⟨l,k,m,rfl⟩:=arcsC_mem.mp h
 exact arcsC_mem.mpr ⟨l,k,K.sym _ _ _ _ m,rfl⟩
theorem Best.dst (K:Keys B)(h:Best B n s cs as)(v:Nat):Dst (arcsC B) s v ((get cs v).map comb):=by
 refine⟨λ y e=>?_,λ L w=>?_⟩
 ·cases ec:get cs v with
  | none=>rw[ec] at e;cases e
  | some c =>
   rw[ec] at e;cases e
   obtain⟨ws,S,r,_⟩:=h.route K _ v c ec (h9 _)
   have go:∀ {ws S:List Nat}{v:Nat}{x y:Int},Rt B s ws S v x y->Walk (arcsC B) s v (comb (x,y)):=by
    intro ws S v x y r
    induction r with
    | one=>exact .nil
    | @snoc ws S u v x y l k r m nv ih =>
     have:=Walk.snoc ih (arcsC_mem.mpr ⟨l,k,m,rfl⟩)
     have e:comb (x+l,y+2^k)=comb (x,y)+(l*2^61+2^k):=by unfold comb;simp only;left
     rw[e];exact this
   exact go r
 ·have:∃ c,get cs v=some c/\comb c<=L:=by
   induction w with
   | nil=>exact⟨_,h.start,by decide⟩
   | @snoc u v l x w m ih =>
    obtain⟨c,e,hc⟩:=ih
    obtain⟨l',k,m',rfl⟩:=arcsC_mem.mp m
    obtain⟨c',e',hc'⟩:=h.stab _ _ _ _ _ m' e
    refine⟨c',e',?_⟩
    have s1:=h.small K e
    have s2:=h.small K e'
    have:=oU k
    unfold comb at *
    unfold lt2 at hc'
    simp only at hc'
    left
  obtain⟨c,e,hc⟩:=this
  exact⟨comb c,by rw[e];rfl,hc⟩
theorem zbc {c d:Int × Int}(hc:0<=c.2/\c.2<2^61)(hd:0<=d.2/\d.2<2^61)(e:comb c=comb d):c=d:=by
 unfold comb at e
 exact Prod.ext (by left) (by left)
end
end Far
namespace Far
def arcsF (B:List Arc):List (Nat × Nat × Int):=B.map λ b=>(b.1,b.2.1,b.2.2.1)
theorem arcsF_mem {B:List Arc}{u v:Nat}{l:Int}:(u,v,l)∈arcsF B↔∃ k,(u,v,l,k)∈B:=by
 unfold arcsF
 rw[uau]
 constructor
 ·rintro ⟨⟨a,b,l',k⟩,h,e⟩
  cases e
  exact⟨k,h⟩
 ·rintro ⟨k,h⟩
  exact⟨(u,v,l,k),h,rfl⟩
section
variable {B:List Arc}{n s:Nat}{cs:List (Option (Int × Int))}{as:List (Option Nat)}{a b:Nat}{ws S:List Nat}{x y:Int}
theorem xW {v:Nat}{ws ws':List Nat}(hr:get as s=none)(t:TPw as s ws v):TPw as s ws' v->ws'=ws:=by
 induction t generalizing ws' with
 | root =>
  intro t'
  cases t' with
  | root=>rfl
  | step e _=>rw[hr] at e;cases e
 | step e t ih =>
  intro t'
  cases t' with
  | root=>rw[hr] at e;cases e
  | step e' t'=>rw[e] at e';cases e';rw[ih t']
theorem Best.rt (K:Keys B)(h:Best B n s cs as){v:Nat}{c:Int × Int}(t:TPw as s ws v)(e:get cs v=some c):∃ S,Rt B s ws S v c.1 c.2:=by
 obtain⟨w1,S1,r1,p1,_⟩:=h.route K _ v c e (h9 _)
 rw[xW h.root p1 t]
 exact⟨S1,r1⟩
theorem Rt.walk (r:Rt B a ws S b x y):Walk (arcsF B) a b x:=by
 induction r with
 | one=>exact .nil
 | snoc r m nv ih=>exact .snoc ih (arcsF_mem.mpr ⟨_,m⟩)
theorem Rt.tr (r:Rt B a ws S b x y):Tr (arcsF B) a ws b x:=by
 induction r with
 | one=>exact .one
 | snoc r m nv ih=>exact .snoc ih (arcsF_mem.mpr ⟨_,m⟩)
theorem Best.dst1 (K:Keys B)(h:Best B n s cs as)(v:Nat):Dst (arcsF B) s v ((get cs v).map (·.1)):=by
 refine⟨λ y e=>?_,λ L w=>?_⟩
 ·cases ec:get cs v with
  | none=>rw[ec] at e;cases e
  | some c =>
   rw[ec] at e;cases e
   obtain⟨ws,S,r,_⟩:=h.route K _ v c ec (h9 _)
   exact r.walk
 ·have:∃ c,get cs v=some c/\c.1<=L:=by
   induction w with
   | nil=>exact⟨_,h.start,v6 _⟩
   | @snoc u v l x w m ih =>
    obtain⟨c,e,hc⟩:=ih
    obtain⟨k,m'⟩:=arcsF_mem.mp m
    obtain⟨c',e',hc'⟩:=h.stab _ _ _ _ _ m' e
    refine⟨c',e',?_⟩
    unfold lt2 at hc'
    simp only at hc'
    left
  obtain⟨c,e,hc⟩:=this
  exact⟨c.1,by rw[e];rfl,hc⟩
theorem Rt.len (r:Rt B a ws S b x y):ws.length=S.length+1:=by
 induction r with
 | one=>rfl
 | snoc r m nv ih=>rw[i6,i6,ih];rfl
theorem Rt.unlike (r:Rt B a ws S b x y):ws.Nodup:=by
 induction r with
 | one=>simp
 | snoc r m nv ih =>
  refine ubm.mpr ⟨ih,by simp,λ p hp q hq z=>?_⟩
  rw[k8.mp hq] at z
  exact nv (z ▸ hp)
theorem Rt.foot (r:Rt B a ws S b x y):∃ q,ws=q++[b]:=by
 cases r with
 | one=>exact⟨[],rfl⟩
 | snoc r m nv=>exact⟨_,rfl⟩
theorem Rt.step (r:Rt B a ws S b x y):∀ {i k:Nat},S[i]?=some k->∃ u v l,ws[i]?=some u/\ws[i+1]?=some v/\(u,v,l,k)∈B:=by
 induction r with
 | one=>intro i k h;cases h
 | @snoc ws S u v x y l k r m nv ih =>
  intro i j h
  have len:=r.len
  by_cases c:i<S.length
  ·rw[z0 c] at h
   obtain⟨p,q,l',h1,h2,h3⟩:=ih h
   exact⟨p,q,l',by rw[z0 (by left)];exact h1,by rw[z0 (by left)];exact h2,h3⟩
  ·have hi:i<(S++[k]).length:=(j7.mp h).1
   rw[i6,t6] at hi
   have e:i=S.length:=by left
   subst e
   rw[v8 (h9 _),ueh] at h
   cases h
   obtain⟨q,rfl⟩:=r.foot
   rw[i6,t6] at len
   refine⟨u,v,l,?_,?_,m⟩
   ·rw[z0 (by rw[i6,t6];left),v8 (by left)]
    rw[show S.length-q.length=0 by left];rfl
   ·rw[v8 (by rw[i6,t6];left),i6,t6]
    rw[show S.length+1-(q.length+1)=0 by left];rfl
structure Uni (B:List Arc)(a b:Nat)(ws S:List Nat)(x y:Int):Prop where
 rt:Rt B a ws S b x y
 least:∀ ws' S' x' y',Rt B a ws' S' b x' y'->¬ lt2 (x',y') (x,y)
theorem Best.uni (K:Keys B)(h:Best B n s cs as){v:Nat}{c:Int × Int}(t:TPw as s ws.reverse v)(e:get cs v=some c):∃ S,Uni B v s ws S c.1 c.2:=by
 obtain⟨S,r⟩:=h.rt K t e
 have rb:=r.back K
 rw[ubv] at rb
 refine⟨_,rb,λ ws' S' x' y' r' z=>?_⟩
 obtain⟨c',e',n'⟩:=h.least (r'.back K)
 rw[e] at e';cases e'
 exact n' z
end
end Far
namespace Far
variable {A:List (Nat × Nat × Int)}{s:Nat}
theorem Walk.trans {u v:Nat}{x y:Int}(h:Walk A s u x)(k:Walk A u v y):Walk A s v (x+y):=by
 induction k with
 | nil=>rw[Int.add_zero];exact h
 | snoc _ m ih=>rw[← Int.add_assoc];exact .snoc ih m
def Con (A:List (Nat × Nat × Int))(s v:Nat):Prop:=∃ x,Walk A s v x
noncomputable def rB (A:List (Nat × Nat × Int))(s v:Nat):Bool:=@decide (Con A s v) (Classical.propDecidable _)
theorem Con.symm (S:Sym A){v:Nat}(h:Con A s v):Con A v s:=let ⟨x,w⟩:=h;⟨x,w.back S⟩
noncomputable def rN (A:List (Nat × Nat × Int))(n s:Nat):List Nat:=(d8 n).filter (rB A s)
noncomputable def isHd (A:List (Nat × Nat × Int))(n p:Nat):Bool:=decide ((rN A n p).head?=some p)
noncomputable def pcs (A:List (Nat × Nat × Int))(n:Nat):List (List Nat):=((d8 n).filter (isHd A n)).map (rN A n)
end Far
namespace Far
section
variable {B:List Arc}{n s a b:Nat}{ws S:List Nat}{x y:Int}{cs:List (Option (Int × Int))}{as:List (Option Nat)}
theorem Rt.walkC (r:Rt B a ws S b x y):Walk (arcsC B) a b (comb (x,y)):=by
 induction r with
 | one=>exact .nil
 | @snoc ws S u v x y l k r m nv ih =>
  have:=Walk.snoc ih (arcsC_mem.mpr ⟨l,k,m,rfl⟩)
  have e:comb (x+l,y+2^k)=comb (x,y)+(l*2^61+2^k):=by unfold comb;simp only;left
  rw[e];exact this
theorem Rt.split (r:Rt B a ws S b x y):∀ {p q:List Nat}{u:Nat},ws=p++u::q->∃ S1 S2 x1 x2 y1 y2,Rt B a (p++[u]) S1 u x1 y1/\Rt B u (u::q) S2 b x2 y2/\x=x1+x2/\y=y1+y2:=by
 induction r with
 | one =>
  intro p q u e
  cases p with
  | nil =>
   injection e with e1 e2
   subst e1 e2
   exact⟨[],[],0,0,0,0,.one,.one,rfl,rfl⟩
  | cons z p=>injection e with e1 e2;cases p <;> cases e2
 | @snoc ws S u0 v x y l k r m nv ih =>
  intro p q u e
  rcases List.eq_nil_or_concat q with rfl | ⟨q',v',rfl⟩
  ·have e':ws++[v]=p++[u]:=e
   obtain⟨e1,e2⟩:=List.append_inj' e' rfl
   cases e2
   subst e1
   exact⟨S++[k],[],x+l,0,y+2^k,0,r.snoc m nv,.one,by left,by left⟩
  ·have e':ws++[v]=(p++u::q')++[v']:=by rw[e,uax];simp
   obtain⟨e1,e2⟩:=List.append_inj' e' rfl
   cases e2
   obtain⟨S1,S2,x1,x2,y1,y2,r1,r2,ex,ey⟩:=ih e1
   have nv2:v∉u::q':=λ h=>nv (by rw[e1];exact t5 _ h)
   have r3:=r2.snoc m nv2
   refine⟨S1,S2++[k],x1,x2+l,y1,y2+2^k,r1,?_,by left,by left⟩
   simpa using r3
def MinW (B:List Arc)(a b:Nat)(ws:List Nat):Prop:=∃ S x y,Rt B a ws S b x y/\∀ L,Walk (arcsC B) a b L->comb (x,y)<=L
theorem MinW.unique (K:Keys B){ws':List Nat}(h:MinW B a b ws)(h':MinW B a b ws'):ws'=ws:=by
 obtain⟨S,x,y,r,l⟩:=h
 obtain⟨S',x',y',r',l'⟩:=h'
 have e1:=l _ r'.walkC
 have e2:=l' _ r.walkC
 have b1:=r.lt K
 have b2:=r'.lt K
 have e:=zbc (c:=(x,y)) (d:=(x',y')) ⟨b1.1,Int.lt_trans b1.2 (by decide)⟩ ⟨b2.1,Int.lt_trans b2.2 (by decide)⟩ (by left)
 injection e with ex ey
 subst ey
 exact (r.unique K r').1
theorem oG (x1 x2 y1 y2:Int):comb (x1+x2,y1+y2)=comb (x1,y1)+comb (x2,y2):=by unfold comb;simp only;left
theorem MinW.sub (h:MinW B a b ws){p m q:List Nat}{u v:Nat}{m1 m2:List Nat}(e:ws=p++m++q)(e1:m=u::m1)(e2:m=m2++[v]):MinW B u v m:=by
 obtain⟨S,x,y,r,l⟩:=h
 obtain⟨S1,S2,x1,x2,y1,y2,r1,r2,ex,ey⟩:=r.split (p:=p) (u:=u) (q:=m1++q) (by rw[e,e1,uax];rfl)
 obtain⟨S3,S4,x3,x4,y3,y4,r3,r4,ex2,ey2⟩:=r2.split (p:=m2) (u:=v) (q:=q) (by
  have:u::(m1++q)=m++q:=by rw[e1];rfl
  rw[this,e2,uax];rfl)
 rw[← e2] at r3
 refine⟨S3,x3,y3,r3,λ L w=>?_⟩
 have:=l _ ((r1.walkC.trans w).trans r4.walkC)
 subst ex ey ex2 ey2
 rw[oG,oG] at this
 left
theorem MinW.back (K:Keys B)(h:MinW B a b ws):MinW B b a ws.reverse:=by
 obtain⟨S,x,y,r,l⟩:=h
 exact⟨S.reverse,x,y,r.back K,λ L w=>l L (w.back (mT K))⟩
theorem Best.minw (K:Keys B)(h:Best B n s cs as){v:Nat}{c:Int × Int}(t:TPw as s ws.reverse v)(e:get cs v=some c):MinW B v s ws:=by
 obtain⟨S,r⟩:=h.rt K t e
 have rb:=r.back K
 rw[ubv] at rb
 refine⟨_,_,_,rb,λ L w=>?_⟩
 obtain⟨z,ez,le⟩:=(h.dst K v).2 L (w.back (mT K))
 rw[e] at ez
 cases ez
 exact le
theorem MinW.nodup (h:MinW B a b ws):ws.Nodup:=by
 obtain⟨S,x,y,r,l⟩:=h
 exact r.unlike
end
theorem iR {P:Nat->Prop}:∀ {l:List Nat},(∃ x∈l,P x)->∃ p u r,l=p++u::r/\(∀ x∈p,¬ P x)/\P u
 | [],h=>by obtain⟨x,hx,_⟩:=h;cases hx
 | z::l,h=>by
  by_cases c:P z
  ·exact⟨[],z,l,rfl,(λ x hx=>absurd hx m8),c⟩
  ·obtain⟨p,u,r,e,hp,hu⟩:=iR (P:=P) (l:=l) (by
    obtain⟨x,hx,px⟩:=h
    rcases j4.mp hx with rfl | hx
    ·exact absurd px c
    ·exact⟨x,hx,px⟩)
   refine⟨z::p,u,r,by rw[e];rfl,λ x hx=>?_,hu⟩
   rcases j4.mp hx with rfl | hx
   ·exact c
   ·exact hp x hx
def Shr (W1 W2:List Nat):Prop:=(∀ x∈W1,x∉W2)\/∃ p m q p2 q2,W1=p++m++q/\m≠[]/\(∀ x∈p,x∉W2)/\(∀ x∈q,x∉W2)/\(W2=p2++m++q2\/W2=p2++m.reverse++q2)
theorem MinW.share {B:List Arc}(K:Keys B){a1 b1 a2 b2:Nat}{W1 W2:List Nat}(h1:MinW B a1 b1 W1)(h2:MinW B a2 b2 W2):Shr W1 W2:=by
 by_cases c:∃ x∈W1,x∈W2
 ·apply Or.inr
  obtain⟨p,u,r,e1,hp,hu⟩:=iR c
  obtain⟨q',v,r',e2,hq,hv⟩:=iR (P:=λ x=>x∈W2) (l:=(u::r).reverse) ⟨u,by simp,hu⟩
  have e3:u::r=(r'.reverse++[v])++q'.reverse:=by
   have:=congrArg List.reverse e2
   rw[ubv] at this
   rw[this];simp
  have hm:∃ m1,r'.reverse++[v]=u::m1:=by
   cases er:r'.reverse with
   | nil=>rw[er] at e3;injection e3 with z1 z2;exact⟨[],by rw[z1];rfl⟩
   | cons z zs=>rw[er] at e3;injection e3 with z1 z2;exact⟨zs++[v],by rw[z1];rfl⟩
  obtain⟨m1,em1⟩:=hm
  have e4:W1=p++(r'.reverse++[v])++q'.reverse:=by rw[e1,e3];simp
  have mm:=h1.sub e4 em1 rfl
  obtain⟨p2,r2,e5⟩:=udo hu
  have hv2:v∈W2:=hv
  rw[e5] at hv2
  refine⟨p,r'.reverse++[v],q'.reverse,?_⟩
  rcases u4.mp hv2 with hv3 | hv3
  ·obtain⟨s1,t1,e6⟩:=udo hv3
   have e7:W2=s1++(v::t1++[u])++r2:=by rw[e5,e6];simp
   have m3:=(h2.sub (m1:=t1++[u]) (m2:=v::t1) e7 rfl rfl).back K
   have e8:=mm.unique K m3
   refine⟨s1,r2,e4,by simp,hp,λ x hx=>hq x (ubi.mp hx),.inr ?_⟩
   rw[← e8,ubv,e7]
  ·obtain⟨s1,t1,e6⟩:=udo hv3
   have e7:W2=p2++(s1++[v])++t1:=by rw[e5,e6];simp
   have hm2:∃ m2,s1++[v]=u::m2:=by
    cases s1 with
    | nil=>injection e6 with z1 z2;exact⟨[],by rw[z1];rfl⟩
    | cons z zs=>injection e6 with z1 z2;exact⟨zs++[v],by rw[z1];rfl⟩
   obtain⟨m2,em2⟩:=hm2
   have m3:=h2.sub e7 em2 rfl
   have e8:=mm.unique K m3
   refine⟨p2,t1,e4,by simp,hp,λ x hx=>hq x (ubi.mp hx),.inl ?_⟩
   rw[← e8,e7]
 ·apply m9
  exact λ x hx hx2=>c ⟨x,hx,hx2⟩
end Far
namespace Far
inductive W2 (B:List Arc)(s:Nat):Nat->Int->Int->Prop
 | nil:W2 B s s 0 0
 | snoc {u v:Nat} {x y l:Int} {k:Nat}:W2 B s u x y->(u,v,l,k)∈B->W2 B s v (x+l) (y+2^k)
theorem W2.nonneg {B:List Arc}(K:Keys B){s v:Nat}{x y:Int}(h:W2 B s v x y):0<=x/\0<=y:=by
 induction h with
 | nil=>exact⟨v6 _,v6 _⟩
 | @snoc u v x y l k h m ih =>
  have h1:=K.pos _ _ _ _ m
  have h2:=oU k
  left
theorem mK {P:Nat->Prop}:∀ n,P n->∃ m,P m/\∀ i,P i->m<=i:=by
 intro n
 induction n using ud9 with
 | ind n ih =>
  intro h
  by_cases c:∃ i,P i/\i<n
  ·obtain⟨i,hi,lt⟩:=c
   exact ih i lt hi
  ·exact⟨n,h,λ i hi=>Nat.le_of_not_lt λ z=>c ⟨i,hi,z⟩⟩
theorem yV {P:Int->Int->Prop}(nn:∀ x y,P x y->0<=x/\0<=y){x y:Int}(h:P x y):∃ x y,P x y/\∀ x' y',P x' y'->¬ lt2 (x',y') (x,y):=by
 obtain⟨m,⟨y0,hm⟩,lm⟩:=mK (P:=λ m=>∃ y,P (m:Int) y) x.toNat ⟨y,by rw[uaf (nn x y h).1];exact h⟩
 obtain⟨k,hk,lk⟩:=mK (P:=λ k=>P (m:Int) (k:Int)) y0.toNat (by rw[uaf (nn _ _ hm).2];exact hm)
 refine⟨m,k,hk,λ x' y' h' z=>?_⟩
 have n':=nn x' y' h'
 have h1:=lm x'.toNat ⟨y',by rw[uaf n'.1];exact h'⟩
 unfold lt2 at z
 simp only at z
 rcases z with z | ⟨z1,z2⟩
 ·left
 ·have h2:=lk y'.toNat (by rw[← z1,uaf n'.2];exact h')
  left
theorem wI {B:List Arc}(K:Keys B){n s:Nat}(inn:∀ u v l k,(u,v,l,k)∈B->u<n/\v<n)(hs:s<n):∃ cs as,Best B n s cs as:=by
 have ex:∀ v,∃ o:Option (Int × Int),(o=none->∀ x y,¬ W2 B s v x y)/\∀ c,o=some c->W2 B s v c.1 c.2/\∀ x' y',W2 B s v x' y'->¬ lt2 (x',y') c:=λ v=>by
  by_cases c:∃ x y,W2 B s v x y
  ·obtain⟨x,y,h⟩:=c
   obtain⟨x,y,h,l⟩:=yV (P:=W2 B s v) (λ x y h=>h.nonneg K) h
   exact⟨some (x,y),(λ e=>by cases e),λ c e=>by cases e;exact⟨h,l⟩⟩
  ·exact⟨none,λ _ x y h=>c ⟨x,y,h⟩,λ c e=>by cases e⟩
 let f:Nat->Option (Int × Int):=λ v=>Classical.choose (ex v)
 have hf:∀ v,(f v=none->∀ x y,¬ W2 B s v x y)/\∀ c,f v=some c->W2 B s v c.1 c.2/\∀ x' y',W2 B s v x' y'->¬ lt2 (x',y') c:=λ v=>Classical.choose_spec (ex v)
 have eA:∀ v,∃ o:Option Nat,(v=s->o=none)/\(v≠s->f v≠none->o≠none)/\∀ u,o=some u->∃ l k cu,(u,v,l,k)∈B/\f u=some cu/\f v=some (cu.1+l,cu.2+2^k):=λ v=>by
  by_cases c1:v=s
  ·exact⟨none,λ _=>rfl,λ z=>absurd c1 z,λ u e=>by cases e⟩
  ·cases ev:f v with
   | none=>exact⟨none,λ z=>absurd z c1,λ _ z=>absurd rfl z,λ u e=>by cases e⟩
   | some c =>
    obtain⟨w,lw⟩:=(hf v).2 c ev
    obtain⟨cx,cy⟩:=c
    have w':W2 B s v cx cy:=w
    cases w' with
    | nil=>exact absurd rfl c1
    | @snoc u _ x y l k w1 m =>
     cases eu:f u with
     | none=>exact absurd w1 ((hf u).1 eu x y)
     | some cu =>
      obtain⟨wu,lu⟩:=(hf u).2 cu eu
      have n1:=lu x y w1
      have n2:=lw _ _ (wu.snoc m)
      refine⟨some u,λ z=>absurd z c1,(λ _ _ z=>by cases z),λ u' e=>?_⟩
      cases e
      refine⟨l,k,cu,m,eu,?_⟩
      unfold lt2 at n1 n2
      simp only at n1 n2
      have:cu=(x,y):=Prod.ext (by simp only;left) (by simp only;left)
      rw[this]
 let g:Nat->Option Nat:=λ v=>Classical.choose (eA v)
 have hg:∀ v,(v=s->g v=none)/\(v≠s->f v≠none->g v≠none)/\∀ u,g v=some u->∃ l k cu,(u,v,l,k)∈B/\f u=some cu/\f v=some (cu.1+l,cu.2+2^k):=λ v=>Classical.choose_spec (eA v)
 have wn:∀ {v x y},W2 B s v x y->v<n:=λ {v x y} h=>by
  cases h with
  | nil=>exact hs
  | snoc _ m=>exact (inn _ _ _ _ m).2
 have fo:∀ v,n<=v->f v=none:=λ v hv=>by
  cases e:f v with
  | none=>rfl
  | some c=>exact absurd (wn ((hf v).2 c e).1) (by left)
 have getf:∀ v,get ((d8 n).map f) v=f v:=λ v=>by
  unfold get
  by_cases hv:v<n
  ·simp [hv]
  ·rw[fo v (by left)]
   simp [hv]
 have go:∀ v,n<=v->g v=none:=λ v hv=>by
  cases e:g v with
  | none=>rfl
  | some u =>
   obtain⟨l,k,cu,m,_⟩:=(hg v).2.2 u e
   exact absurd (inn _ _ _ _ m).2 (by left)
 have getg:∀ v,get ((d8 n).map g) v=g v:=λ v=>by
  unfold get
  by_cases hv:v<n
  ·simp [hv]
  ·rw[go v (by left)]
   simp [hv]
 refine⟨(d8 n).map f,(d8 n).map g,by simp,by simp,?_,?_,?_,?_,?_,?_⟩
 ·rw[getf]
  cases e:f s with
  | none=>exact absurd W2.nil ((hf s).1 e 0 0)
  | some c =>
   obtain⟨w,l⟩:=(hf s).2 c e
   have nn:=w.nonneg K
   have:=l 0 0 .nil
   unfold lt2 at this
   simp only at this
   have:c=(0,0):=Prod.ext (by simp only;left) (by simp only;left)
   rw[this]
 ·rw[getg];exact (hg s).1 rfl
 ·intro v c e ne
  rw[getf] at e
  rw[getg]
  exact (hg v).2.1 ne (by rw[e];exact λ z=>by cases z)
 ·intro v c e
  rw[getf] at e
  exact (((hf v).2 c e).1.nonneg K).1
 ·intro u v l k c m e
  rw[getf] at e
  have w:=((hf u).2 c e).1.snoc m
  cases ev:f v with
  | none=>exact absurd w ((hf v).1 ev _ _)
  | some c' =>
   refine⟨c',by rw[getf,ev],((hf v).2 c' ev).2 _ _ w⟩
 ·intro v u e
  rw[getg] at e
  obtain⟨l,k,cu,m,e1,e2⟩:=(hg v).2.2 u e
  exact⟨l,k,cu,m,by rw[getf];exact e1,by rw[getf];exact e2⟩
end Far
namespace Stb
open PySem
def Asc (xs:Array Nat):Prop:=∀ i j,i<j->j<xs.size->xs.getD i 0<xs.getD j 0
theorem kB (xs:Array Nat)(j:Nat)(asc:Asc xs):∀ (fuel lo hi:Nat),lo<=hi->hi<=xs.size->hi-lo<=fuel->(∀ i,i<lo->xs.getD i 0<j)->(∀ i,hi<=i->i<xs.size->j<=xs.getD i 0) ->
  (∀ i,i<SetTable.below.go xs j fuel lo hi->xs.getD i 0<j)/\(∀ i,SetTable.below.go xs j fuel lo hi<=i->i<xs.size->j<=xs.getD i 0)/\SetTable.below.go xs j fuel lo hi<=xs.size
 | 0,lo,hi,h1,h2,h3,a,b=>by
  have e:lo=hi:=by left
  subst e
  exact⟨a,b,h2⟩
 | fuel+1,lo,hi,h1,h2,h3,a,b=>by
  unfold SetTable.below.go
  by_cases c:lo<hi
  ·rw[uhd c]
   have hm:(lo+hi) / 2<xs.size:=by left
   have eg:xs.getD ((lo+hi) / 2) j=xs.getD ((lo+hi) / 2) 0:=by rw[ub5,ub5,ubf hm];rfl
   by_cases d:xs.getD ((lo+hi) / 2) j<j
   ·simp only [uhd d]
    refine kB xs j asc fuel _ hi (by left) h2 (by left) (λ i hi'=>?_) b
    rcases ufv (Nat.le_of_lt_succ hi') with z | z
    ·have:=asc i _ z hm;left
    ·rw[z];left
   ·simp only [uhe d]
    refine kB xs j asc fuel lo _ (by left) (by left) (by left) a (λ i hi' hs=>?_)
    rcases ufv hi' with z | z
    ·have:=asc _ i z hs;left
    ·rw[← z];left
  ·rw[uhe c]
   have e:lo=hi:=by left
   subst e
   exact⟨a,b,h2⟩
theorem jA (xs:Array Nat)(j:Nat)(asc:Asc xs):(∀ i,i<SetTable.below xs j->xs.getD i 0<j)/\(∀ i,SetTable.below xs j<=i->i<xs.size->j<=xs.getD i 0)/\SetTable.below xs j<=xs.size:=by
 unfold SetTable.below
 exact kB xs j asc _ 0 xs.size (p7 _) (h9 _) (by left) (λ i h=>by left) (λ i h1 h2=>by left)
theorem xK (xs:Array Nat)(asc:Asc xs){i p:Nat}(h:xs[i]?=some p):SetTable.below xs (p+1)=i+1:=by
 obtain⟨hi,e⟩:=ugj.mp h
 have eg:xs.getD i 0=p:=by rw[ub5,h];rfl
 obtain⟨h1,h2,h3⟩:=jA xs (p+1) asc
 rcases uer (SetTable.below xs (p+1)) (i+1) with z | z | z
 ·have:=h2 i (by left) hi;left
 ·exact z
 ·have a:=h1 (i+1) z
  have b:=asc i (i+1) (by left) (by left)
  left
theorem xJ (xs:Array Nat)(asc:Asc xs):SetTable.below xs 0=0:=by
 obtain⟨h1,_,_⟩:=jA xs 0 asc
 rcases Nat.eq_zero_or_pos (SetTable.below xs 0) with z | z
 ·exact z
 ·have:=h1 0 z;left
theorem Asc.list {xs:Array Nat}:Asc xs↔xs.toList.Pairwise (·<·):=by
 rw[ua8]
 have g:∀ i (h:i<xs.toList.length),xs.getD i 0=xs.toList[i]:=λ i h=>by
  have h':i<xs.size:=by simpa using h
  rw[ub5,ubf h'];simp
 constructor
 ·intro a i j hi hj ij
  have:=a i j ij (by simpa using hj)
  rw[g i hi,g j hj] at this
  exact this
 ·intro a i j ij hj
  have hj':j<xs.toList.length:=by simpa using hj
  have:=a i j (by left) hj' ij
  rw[g i (by left),g j hj']
  exact this
theorem xN {xs:Array Nat}{j:Nat}(asc:Asc xs)(new:xs[SetTable.below xs j]?≠some j):Asc (SetTable.insertAt xs (SetTable.below xs j) j):=by
 obtain⟨h1,h2,h3⟩:=jA xs j asc
 rw[Asc.list,SetTable.toList_insertAt]
 have al:=Asc.list.mp asc
 have g:∀ i (h:i<xs.size),xs.getD i 0=xs[i]:=λ i h=>by rw[ub5,ubf h];rfl
 have lo:∀ x∈xs.toList.take (SetTable.below xs j),x<j:=λ x hx=>by
  obtain⟨i,hi,e⟩:=ufo hx
  rw[u5] at hi
  have hs:i<xs.size:=by simp at hi;left
  have:=h1 i (by left)
  rw[g i hs] at this
  rw[List.getElem_take] at e
  have e':xs[i]=x:=by simpa using e
  left
 have hi:∀ x∈xs.toList.drop (SetTable.below xs j),j<x:=λ x hx=>by
  obtain⟨i,hi,e⟩:=ufo hx
  rw[ua2] at hi
  have hs:SetTable.below xs j+i<xs.size:=by simp at hi;left
  have:=h2 (SetTable.below xs j+i) (by left) hs
  rw[g _ hs] at this
  rw[uf2] at e
  have e':xs[SetTable.below xs j+i]=x:=by simpa using e
  rcases ufv this with z | z
  ·left
  ·exfalso
   rcases Nat.eq_zero_or_pos i with i0 | i0
   ·subst i0
    apply new
    rw[ubf (by left)]
    simp at z
    rw[← z]
   ·have b0:SetTable.below xs j<xs.size:=by left
    have q1:=h2 (SetTable.below xs j) (h9 _) b0
    have q2:=asc (SetTable.below xs j) (SetTable.below xs j+i) (by left) hs
    rw[g _ hs] at q2
    left
 refine uch.mpr ⟨al.sublist (uf0 _ _),ucx.mpr ⟨λ x hx=>hi x hx,al.sublist (udw _ _)⟩,λ a ha b hb=>?_⟩
 rcases j4.mp hb with z | z
 ·rw[z];exact lo a ha
 ·have:=lo a ha;have:=hi b z;left
theorem zR (n:Nat):Asc (Array.range n):=by
 rw[Asc.list]
 simpa using ucw
def TI (b:Bool)(t:SetTable):Prop:=Asc t.place/\t.led=b
theorem zaf (b:Bool):TI b (.fresh 0 0 b):=⟨λ i j _ h=>by simp [SetTable.fresh] at h,rfl⟩
theorem gH {b:Bool}{t:SetTable}(h:TI b t)(n:Nat):TI b (t.standIn n):=⟨zR n,h.2⟩
theorem zee {b:Bool}{t:SetTable}(h:TI b t)(n:Nat):TI b (t.orStandIn n):=by
 unfold SetTable.orStandIn
 split
 ·exact h
 ·exact gH h n
theorem zae {b:Bool}{t:SetTable}(h:TI b t):TI b { t with plain:=false }:=h
theorem nH {t:SetTable}{j:Nat}(h:t.slot j=.empty\/t.slot j=.dummy):t.place[SetTable.below t.place j]?≠some j:=λ e=>by
 unfold SetTable.slot at h
 have c:(t.place[SetTable.below t.place j]?==some j)=true:=by rw[e];simp
 simp only [c,if_true] at h
 rcases h with h | h <;> cases h
theorem iU (t:SetTable)(hashAt:Nat->Int)(h:Int):∀ (f:Nat)(p:SetTable.Probe),(∀ d,p.dummy=some d->t.slot d=.dummy)->∀ j dm,SetTable.probe.go t hashAt h f p=some (.empty j dm)->t.slot j=.empty/\∀ d,dm=some d->t.slot d=.dummy
 | 0,p,_,j,dm,e=>by cases e
 | f+1,p,hp,j,dm,e=>by
  have adv:∀ q:SetTable.Probe,(t.advance q).dummy=q.dummy:=λ q=>by
   unfold SetTable.advance
   split <;> rfl
  unfold SetTable.probe.go at e
  split at e
  ·rename_i hs
   injection e with e
   injection e with e1 e2
   subst e1;subst e2
   exact⟨hs,hp⟩
  ·rename_i hs
   refine iU t hashAt h f _ (λ d hd=>?_) j dm e
   rw[adv] at hd
   have:p.j=d:=by simpa using hd
   rw[← this];exact hs
  ·split at e
   ·cases e
   ·refine iU t hashAt h f _ (λ d hd=>?_) j dm e
    rw[adv] at hd
    exact hp d hd
theorem za3 {t:SetTable}{h:Int}{s:Nat}{w:Bool}(e:t.freeSlot h=some (s,w)):t.place[SetTable.below t.place s]?≠some s:=by
 unfold SetTable.freeSlot at e
 split at e
 ·rename_i j dm hm
  unfold SetTable.probe at hm
  obtain⟨h1,h2⟩:=iU t _ h _ _ (λ d hd=>by cases hd) j dm hm
  injection e with e
  injection e with e1 _
  cases dm with
  | none=>exact nH (.inl (by rw[← e1];exact h1))
  | some d=>exact nH (.inr (by rw[← e1];exact h2 d rfl))
 ·cases e
theorem xY {b:Bool}{t:SetTable}(h:TI b t)(es:Array (Int × c9))(k:Int)(x:c9):TI b (layNew t es k x).2.1:=by
 unfold layNew
 split
 ·rename_i s w e
  exact zee (t:=(t.put s).1) ⟨xN h.1 (za3 e),h.2⟩ _
 ·exact gH h _
theorem kK {f:Nat->Option Nat}(hf:∀ j y,f j=some y->y=j):∀ l:List Nat,(l.filterMap f).Sublist l
 | []=>.slnil
 | j::l=>by
  rw[ucq]
  cases e:f j with
  | none=>exact (kK hf l).cons j
  | some y=>rw[hf j y e];exact (kK hf l).cons₂ j
theorem zad {b:Bool}{t:SetTable}(h:TI b t)(es:Array (Int × c9))(wanted:Nat):TI b (relayAll t es wanted).2.1:=by
 unfold relayAll
 split
 ·rename_i t' order e
  dsimp only
  split
  ·unfold SetTable.relaid SetTable.laid at e
   simp only [Option.bind_eq_bind,ugz] at e
   obtain⟨owner,_,e⟩:=e
   injection e with e
   injection e with e1 _
   rw[← e1]
   refine⟨?_,h.2⟩
   rw[Asc.list]
   simp only [List.map_filterMap]
   refine ucw.sublist (kK (λ j y hy=>?_) _)
   cases c:owner.getD j none with
   | none=>rw[c] at hy;cases hy
   | some z=>rw[c] at hy;exact (uav hy).symm
  ·exact gH h _
 ·exact gH h _
end Stb
namespace Stb
open PySem PyProof.Rows
def ledOf (w:uak):Bool:=!w.params.followText "set-order"
def TIat (w:uak)(h:Heap)(a:l7):Prop:=∃ o es ep t,h.get? a=some o/\o.data=.set es ep t/\TI (ledOf w) t
abbrev SetT (P:l9)(w:uak)(h:Heap)(a:l7)(S:Int->Bool)(n:Nat):Prop:=h.SetOf (intKind P w) a S n/\TIat w h a
section
variable {prog:l9}{w:uak}{A:uae}{E:c9->d7->Prop}{s:d7}
theorem SetT.keep {h h':Heap}{a:l7}{S:Int->Bool}{n:Nat}(x:SetT prog w h a S n)(k:∀ o,h.get? a=some o->h'.get? a=some o):SetT prog w h' a S n:=by
 obtain⟨⟨o,es,ep,t,ho,r⟩,o',es',ep',t',ho',r'⟩:=x
 exact⟨⟨o,es,ep,t,k _ ho,r⟩,o',es',ep',t',k _ ho',r'⟩
theorem nU {g:Bool->Sem Unit}(gp:∀ (b:Bool) (z:d7) (U:Unit->d7->Prop),U () z->j9 (o9 prog w) A (g b) U E z){S':Int->Bool}
  {a:l7} {o:Obj} {es es1:Array (Int × c9)} {ep:Nat} {t t2:SetTable} (ho:s.heap.get? a=some o) (ox:o.ExactSet) (od:o.data=.set es ep t)
  (el:ElemsOf (intKind prog w) es1.toList) (me:∀ k,S' k=true↔∃ e∈es1.toList,(intKind prog w).is k e.2=true) (small:es1.size<scanBound) (fit:t2.fits es1.size=true) (ti:TI (ledOf w) t2) {dum:Bool} {R:Option Bool->d7->Prop}
  (fin:∀ h',Heap.SameBut a s.heap h'->SetT prog w h' a S' es1.size->R (some true) { s with heap:=h' }) :
  j9 (o9 prog w) A (do
      storeSet a es1 t2
      if (!dum&&t2.tooFull) = true then do
          g (relayAll t2 es1 (SetTable.grown es1.size)).2.2
          storeSet a (relayAll t2 es1 (SetTable.grown es1.size)).1 (relayAll t2 es1 (SetTable.grown es1.size)).2.1
          pure (some true)
        else pure (some true)) R E s:=by
 refine a9 (wpAny_storeSet_of ho od ?_ (ugk small))
 obtain⟨g1,s1⟩:=SetOf_store (knd:=intKind prog w) ho ox od el me small fit
 have sb:=ubr s.heap a (Obj.putSet es1 t2)
 split
 ·have pm:=relayAll_perm t2 es1 (SetTable.grown es1.size)
  have fr:=relayAll_fits t2 es1 (SetTable.grown es1.size)
  have tr:=zad ti es1 (SetTable.grown es1.size)
  generalize relayAll t2 es1 (SetTable.grown es1.size)=Rl at pm fr tr ⊢
  obtain⟨es2,t3,gv⟩:=Rl
  dsimp only at pm fr tr ⊢
  have sz:es2.size=es1.size:=by rw[← u6,pm.length_eq,u6]
  have sm2:es2.size<scanBound:=sz ▸ small
  refine a9 (gp _ _ _ (a9 (wpAny_storeSet_of g1 rfl ?_ (ugk sm2))))
  obtain⟨g2,s2⟩:=SetOf_store (knd:=intKind prog w) g1 ox rfl (el.perm pm) (λ k=>(me k).trans ⟨λ ⟨e,he,q⟩=>⟨e,pm.mem_iff.mpr he,q⟩,λ ⟨e,he,q⟩=>⟨e,pm.mem_iff.mp he,q⟩⟩) sm2 fr
  rw[sz] at s2
  exact f9 (fin _ (sb.trans (ubr _ a _)) ⟨s2,_,_,_,_,g2,rfl,tr⟩)
 ·exact f9 (fin _ sb ⟨s1,_,_,_,_,g1,rfl,ti⟩)
theorem zen {a:l7}{S:Int->Bool}{n:Nat}{k:Int}{x:c9}{Q:Bool->d7->Prop}(kx:(intKind prog w).is k x=true)(sx:x.scannable=true)(st:SetT prog w s.heap a S n)(room:n+1<scanBound)
  (fin:∀ h',Heap.SameBut a s.heap h'->SetT prog w h' a (λ y=>S y||decide (y=k)) (if S k then n else n+1)->Q (!S k) { s with heap:=h' }) :
  j9 (o9 prog w) A (setAddHashed a x ((intKind prog w).hash k)) Q E s:=by
 obtain⟨⟨o,es,ep,t,ho,ox,od,el,me,small,fit,en⟩,o',es',ep',t',ho',od',ti⟩:=st
 rw[ho] at ho';cases ho'
 rw[od] at od';cases od'
 have small1:es.size+1<scanBound:=en ▸ room
 unfold setAddHashed setAddHashedIn
 refine ua0 (a9 (udb ho od fit ?_))
 dsimp only
 rw[byScan_of sx small el,uhd rfl]
 unfold setAddByScan
 refine a9 (a9 (ubz (a9 (wpAny_setScan_of kx ho od fit el ?_))))
 cases fd:List.findIdx? (λ e=>(intKind prog w).is k e.2) es.toList with
 | some j =>
  dsimp only
  obtain⟨jl,jp,_⟩:=List.findIdx?_eq_some_iff_getElem.mp fd
  have sk:S k=true:=(me k).mpr ⟨es.toList[j],ue0 jl,jp⟩
  refine f9 (f9 ?_)
  have es0:s={ s with heap:=s.heap }:=by cases s;rfl
  have q:=fin s.heap (ugv a s.heap) ⟨⟨o,es,ep,t,ho,ox,od,el,λ y=>by
   rw[ub6,decide_eq_true_eq,← me y]
   exact⟨λ z=>z.elim id (λ e=>e ▸ sk),.inl⟩,small,fit,by rw[sk];exact en⟩,o,es,ep,t,ho,od,ti⟩
  rw[sk] at q;rw[es0];exact q
 | none =>
  dsimp only
  have sk:S k=false:=by
   cases c:S k with
   | false=>rfl
   | true=>obtain⟨e,he,hp⟩:=(me k).mp c;have:=List.findIdx?_eq_none_iff.mp fd e he;rw[hp] at this;cases this
  have pm:=layNew_perm t es ((intKind prog w).hash k) x
  have ft:=layNew_fits t es ((intKind prog w).hash k) x
  have tl:=xY ti es ((intKind prog w).hash k) x
  generalize layNew t es ((intKind prog w).hash k) x=L at pm ft tl ⊢
  obtain⟨es1,t1,dum,gv⟩:=L
  dsimp only at pm ft tl ⊢
  rw[ufx] at pm
  have el1:ElemsOf (intKind prog w) es1.toList:=(el.push kx sx).perm pm
  have me1:∀ y,(S y||decide (y=k))=true↔∃ e∈es1.toList,(intKind prog w).is y e.2=true:=mem_push_iff kx me pm
  have ez:es1.size=es.size+1:=by rw[← u6,pm.length_eq,i6,u6];rfl
  have small2:es1.size<scanBound:=ez ▸ small1
  have gw:∀ (b:Bool)(z:d7)(U:Unit->d7->Prop),U () z->j9 (o9 prog w) A (match b with | true=>rule "set.scan.the-table-gave-way" | false=>pure ()) U E z :=
   λ b z U hq=>by cases b <;> first | exact f9 hq | exact ubz hq
  refine a9 (gw _ _ _ ?_)
  have last:∀ h',Heap.SameBut a s.heap h'->SetT prog w h' a (λ y=>S y||decide (y=k)) es1.size->Q true { s with heap:=h' }:=λ h' sb z=>by
   have q:=fin h' sb;rw[sk] at q;rw[ez,en] at z;exact q z
  split
  ·refine a9 ?_
   rw[hashByValue_scannable 8 sx]
   refine f9 (nU (λ b z U hq=>?_) ho ox od el1 me1 small2 ?_ ?_ λ h' sb z=>?_)
   ·cases b <;> first | exact f9 hq | exact ubz hq
   ·split
    ·exact ft
    ·exact SetTable.fits_plain_off ft
   ·split
    ·exact tl
    ·exact zae tl
   ·dsimp only;exact f9 (last h' sb z)
  ·refine a9 (f9 ?_)
   simp only [↓reduceIte]
   refine nU (λ b z U hq=>?_) ho ox od el1 me1 small2 ft tl λ h' sb z=>?_
   ·cases b <;> first | exact f9 hq | exact ubz hq
   ·dsimp only;exact f9 (last h' sb z)
theorem zd1 {R:Result->d7->Prop}{I:l7}{fp wr:List l7}{G:Array GenState->Array GenState->Prop}{n:Nat}{P:Nat->c9->Prop}{St:Nat->d7->Prop}(W:WalksS prog w A.in1 I fp wr G n P St)(a:l7)(af:a∉fp)
  (val:Nat->Int) (hv:∀ i v,P i v->∃ t,v=.int (val i) t) (hb:n+1<scanBound) :
  ∀ (k i:Nat)(s:d7),n-i=k->i<=n->St i s->SetT prog w s.heap a (λ y=>(firstMet val i).any (·==y)) (firstMet val i).length ->
   (∀ s',Moved (a::wr) G s s'->SetT prog w s'.heap a (λ y=>(firstMet val n).any (·==y)) (firstMet val n).length->R (.ok (.ret .none)) s') ->
   codeAny (o9 prog w) A (.builtin "set.update.loop" ⟨[.ref a,.ref I],[]⟩) R s:=by
 have aw:a∉wr:=λ h=>af (W.sub _ h)
 have up:∀ b∈wr,b∈a::wr:=λ b hb=>i9 _ hb
 intro k
 induction k with
 | zero =>
  intro i s hk hi st x fin
  obtain rfl:i=n:=by left
  refine uca uem ?_
  rw[Around.under_plainId ucv _]
  show j9 _ A.in1 (pyNext (.ref I) >>= _) _ _ s
  refine a9 (W.done s _ _ st λ s' hm=>?_)
  show j9 _ A.in1 (ret Value.none) _ _ s'
  exact f9 (fin s' (hm.mono up) (x.keep λ o e=>hm.heap a o aw e))
 | succ k ih =>
  intro i s hk hi st x fin
  have lt:i<n:=by left
  refine uca uem ?_
  rw[Around.under_plainId ucv _]
  show j9 _ A.in1 (pyNext (.ref I) >>= _) _ _ s
  refine a9 (W.item i s _ _ lt st λ v s' hP st' hm=>?_)
  obtain⟨t,rfl⟩:=hv i v hP
  have x':=x.keep (prog:=prog) λ o e=>hm.heap a o aw e
  show j9 _ A.in1 (holding [Value.int (val i) t] (setAdd a (.int (val i) t)) >>= _) _ _ s'
  refine a9 (ua0 ?_)
  unfold setAdd
  refine ua0 (a9 ((intKind prog w).pyHash (k:=val i) (intKind_is _ _ _ _) ?_))
  refine zen (s:={ s' with toks:=s'.toks+1 }) (intKind_is _ _ _ _) rfl x' (by have:=firstMet_length_le val i;left) λ h' sb x2=>?_
  have x3:SetT prog w h' a (λ y=>(firstMet val (i+1)).any (·==y)) (firstMet val (i+1)).length :=
   ⟨SetOf_congr x2.1 (λ y=>by rw[firstMet_succ,step_any]) (by rw[firstMet_succ,step_length]),x2.2⟩
  refine f9 ⟨ufb ucv _,ih (i+1) _ (by left) lt (W.frame _ s' _ _ st' (ub8 _) λ b hb o e=>?_) x3 λ s'' hm2 x4=>?_⟩
  ·rw[sb.2 b (λ h:b=a=>af (by rw[← h];exact hb))];exact e
  ·refine fin s'' (Moved.trans W.gtrans ((hm.mono up).then_heap (ub8 _) λ b o hb e=>?_) hm2) x4
   rw[sb.2 b (λ h:b=a=>hb (by rw[h];exact i5))];exact e
end
end Stb
namespace HT
open PySem PyProof.Rows
section
variable {prog:l9}{w:uak}{A:uae}{E:c9->d7->Prop}{s:d7}
abbrev setS (ns:List Int)(m:Nat):Int->Bool:=λ x=>(firstMet (λ i=>ns.getD i 0) m).any λ y=>y==x
abbrev setN (ns:List Int)(m:Nat):Nat:=(firstMet (λ i=>ns.getD i 0) m).length
theorem zZ {h:Heap}{t:l7}{xs:Array c9}(it:h.IsTuple t xs)(o:Obj):(h.push o).IsTuple t xs:=let ⟨ob,e,r⟩:=it;⟨ob,c6 _ e,r⟩
abbrev seto (led:Bool):Obj:={ cls:=.type "set",dict:=none,data:=.set #[] 0 (.fresh 0 0 led) }
theorem vC {t:l7}{xs:Array c9}{ns:List Int}{Q:c9->d7->Prop}(hh:A.handled=none)(ht:s.heap.IsTuple t xs)(hi:IntsAre xs.toList ns)(hb:xs.size+1<scanBound)
  (h:∀ (h':Heap)(tk:Nat),h'.SetOf (intKind prog w) s.heap.objs.size (setS ns xs.size) (setN ns xs.size)->(∀ b o,b<s.heap.objs.size->s.heap.get? b=some o->h'.get? b=some o)->Q (.ref s.heap.objs.size) { s with heap:=h',toks:=tk }) :
  j9 (o9 prog w) A (call (.type "set") [.ref t]) Q E s:=by
 obtain⟨c,tl,hmro⟩:=uad.mro
 have hmade:=uad.made;have hsub:=uad.sub
 refine wpAny_call (codeAny_of_tree ?_);show j9 _ _ (callAny (.type "set") _) _ _ _
 refine f9 ⟨Code.quiet_builtin _ (by symm),uca ugm ?_⟩
 rw[Around.under_plain (uga "set" [.ref t] []) rfl]
 have h1:=uad.notType;have h2:=uad.canCreate;have hct:=ugw (.ref t)
 repeat (any_goals (first | assumption | wp_step))
 refine udr (PySem.code_set_new_1 (.ref t) (E:=E) (Q₁:=λ obj s₁=>∃ led:Bool,obj=.ref s.heap.objs.size/\s₁={ s with heap:=s.heap.push (seto led) }) λ led=>⟨led,rfl,rfl⟩) λ r s₁ hr=>?_
 match r,hr with
 | .error e,hr=>exact hr
 | .ok .next,hr=>exact hr.elim
 | .ok .brk,hr=>exact hr.elim
 | .ok .cont,hr=>exact hr.elim
 | .ok (.ret obj),hr =>
  obtain⟨led,rfl,rfl⟩:=hr
  have gS:(s.heap.push (seto led)).get? s.heap.objs.size=some (seto led):=i7 _ rfl
  have hT:Shared.TypeIs { s with heap:=s.heap.push (seto led) } (.ref s.heap.objs.size) "set":=⟨_,gS,rfl⟩
  have hli:=uad.init.lookup;have hbi:=uad.init.bind (.ref s.heap.objs.size)
  repeat (any_goals (first | assumption | wp_step))
  refine udr (codeAny_call_builtin (R:=wants (λ r s₂=>r=.none/\∃ h' tk,s₂={ s with heap:=h',toks:=tk }/\h'.SetOf (intKind prog w) s.heap.objs.size (setS ns xs.size) (setN ns xs.size)/\(∀ b o,b<s.heap.objs.size->s.heap.get? b=some o->h'.get? b=some o)) E) uad.init.plain ugx (ug7 hT ?_)) λ r₂ s₂ hr₂=>?_
  ·obtain⟨ot,ho,hc,m,hd⟩:=id ht
   obtain⟨ocls,odict,odata,oslots⟩:=ot
   simp only at hc hd;subst hc hd
   have ho':(s.heap.push (seto led)).get? t=some { cls:=.type "tuple",dict:=odict,data:=.seq xs m,slots:=oslots }:=c6 _ ho
   have f1:=PySem.F.sub_tuple_set;have f2:=PySem.F.sub_tuple_frozenset
   have f3:(Value.type "tuple"==Value.type "dict")=false:=by decide
   have it1:(s.heap.push (seto led)).IsTuple t xs:=⟨_,ho',rfl,m,rfl⟩
   unfold Builtin.«set.__init__» noKeywords Builtin.Frozenset.updateFrom
   generalize hPI:pyIter=PI
   wp_walk;subst hPI
   refine uf8 it1 (a9 (ufy ?_))
   have lt:t<s.heap.objs.size:=j0 ho
   have hh3:A.in1.in1.in1.handled=none:=by simp [hh]
   have sz1:(s.heap.push (seto led)).objs.size=s.heap.objs.size+1:=w8 ..
   have tI:t≠(s.heap.push (seto led)).objs.size:=by rw[sz1];exact j8 (ubd lt)
   have Sfp:s.heap.objs.size∉[(s.heap.push (seto led)).objs.size,t]:=by
    rw[sz1];simp only [j4,m8,or_false,not_or];exact⟨j8 (ucu _),(j8 lt).symm⟩
   have vals:∀ (i:Nat)(v:c9),xs[i]?=some v->∃ u,v=.int ((λ i=>ns.getD i 0) i) u:=λ i v hv=>IntsAre.int_at hi i v (by rw[ua5];exact hv)
   refine codeAny_set_update_loopS ((Walks.tuple hh3 _ t tI xs).toS) s.heap.objs.size Sfp (λ i=>ns.getD i 0) vals hb (xs.size-0) 0 _ (by left) (p7 _) ?st ?s0 ?fin
   case st=>exact⟨⟨_,i7 _ rfl,rfl,rfl⟩,zZ it1 _⟩
   case s0=>exact SetOf_congr ((setObjOf_fresh (knd:=intKind prog w) led).setOf (c6 _ gS) (by unfold scanBound;left)) (λ _=>rfl) rfl
   case fin =>
    rintro ⟨h',g',d',tk',os'⟩ hm hS'
    obtain rfl:g'=s.gens:=hm.gens
    obtain rfl:d'=s.drawn:=hm.drawn
    obtain rfl:os'=s.os:=hm.os
    refine f9 (f9 ⟨rfl,h',tk',rfl,hS',λ b o hlt e=>hm.heap b o ?_ (c6 _ (c6 _ e))⟩)
    rw[sz1];simp only [j4,m8,or_false,not_or]
    exact⟨j8 hlt,j8 (ubd hlt)⟩
  ·match r₂,hr₂ with
   | .error e,hr₂=>exact hr₂
   | .ok .next,hr₂=>exact hr₂.elim
   | .ok .brk,hr₂=>exact hr₂.elim
   | .ok .cont,hr₂=>exact hr₂.elim
   | .ok (.ret v),hr₂ =>
    obtain⟨rfl,h',tk,rfl,hS',hk⟩:=hr₂
    repeat (any_goals (first | assumption | wp_step))
    exact h h' tk hS' hk
end
end HT
namespace Stb
open PySem PyProof.Rows
section
variable {prog:l9}{w:uak}{A:uae}{E:c9->d7->Prop}{s:d7}
abbrev emp (w:uak):Obj:={ cls:=.type "set",dict:=none,data:=.set #[] 0 (.fresh 0 0 (ledOf w)) }
theorem zeh (x:c9){U:c9->d7->Prop}(fin:U (.ref s.heap.objs.size) { s with heap:=s.heap.push (emp w) }) :
  codeAny (o9 prog w) A (.call (.builtin "set.__new__") ⟨[.type "set",x],[]⟩) (wants U E) s:=by
 refine codeAny_of_tree ?_
 show j9 _ A.in1 (checkBuiltinCall "set.__new__" ⟨[.type "set",x],[]⟩ >>= λ _=>again (.builtin "set.__new__" ⟨[.type "set",x],[]⟩)) _ _ s
 refine a9 (wpAny_of_eq (PySem.F.newCall_set_1 x) (f9 ⟨ufb ug3 _,uca PySem.F.entry_set_new ?_⟩))
 rw[Around.under_plainId ug3 _]
 unfold Builtin.«set.__new__» Builtin.Frozenset.newClass
 have sub1:=PySem.sub_set_self
 obtain⟨hp,g,d,tk,os⟩:=s
 dsimp only
 wp_walk
 refine udk (f9 ?_)
 simp only [newObj]
 exact a9 (wpAny_alloc (f9 (f9 fin)))
theorem zej (h:Heap):SetT prog w (h.push (emp w)) h.objs.size (λ y=>(firstMet (λ i=>([]:List Int).getD i 0) 0).any (·==y)) 0 :=
 ⟨SetOf_congr ((setObjOf_fresh (knd:=intKind prog w) (ledOf w)).setOf (i7 _ rfl) (by unfold scanBound;left)) (λ _=>rfl) rfl,_,_,_,_,i7 _ rfl,rfl,zaf _⟩
end
end Stb
namespace Stb
open PySem PyProof.Rows
theorem sl_next:Slot "set_iterator" "__next__" "set_iterator.__next__":=.of (owner:="set_iterator") (n:="__next__") (by rw[typeLookup_type,builtinLookup_eq_fast];kernel_rfl) (by symm) (by symm) (by symm) (by first | exact .inl (by symm) | exact .inr (by symm)) (by rw[isSubtype_type];kernel_rfl)
theorem iD:entryFor table "set_iterator.__next__"=some Builtin.«set_iterator.__next__»:=entryFor_of_tree (by kernel_rfl)
theorem pI:Manifest.owners.lookup (String.ofList ['r','o','t','a','r','e','t','i','_','t','e','s'].reverse)=some Manifest.sig_set_iterator:=by kernel_rfl
theorem iI (a:c9):argsOk "set_iterator.__next__" ⟨[a],[]⟩:=by
 unfold argsOk;rw[signature?_of (id:="set_iterator.__next__") (n:=['_','_','t','x','e','n','_','_']) (o:=['r','o','t','a','r','e','t','i','_','t','e','s']) (by kernel_rfl) pI];kernel_rfl
theorem zc0:entryFor table "set.__iter__"=some Builtin.«frozenset.__iter__»:=entryFor_alias (id':="frozenset.__iter__") (by kernel_rfl) rfl (by symm) (by kernel_rfl)
theorem qT {α:Type}{l:List α}{i:Nat}(h:i<l.length):(l[i]::l.eraseIdx i).Perm l:=by
 rw[List.eraseIdx_eq_take_drop_succ]
 refine List.perm_middle.symm.trans ?_
 rw[← uce h,ua6]
theorem pG {α:Type}(next:Nat->Nat):∀ (f k:Nat)(left:List α)(out:Array α),left.length=f->(pickOrder.go next f k left out).toList.Perm (out.toList++left)
 | 0,k,left,out,h=>by
  have:left=[]:=ueu.mp h
  subst this
  unfold pickOrder.go
  simp
 | f+1,k,left,out,h=>by
  have lt:next k%left.length<left.length:=Nat.mod_lt _ (by left)
  unfold pickOrder.go
  rw[c7 lt]
  dsimp only
  refine (pG next f (k+1) _ _ (by rw[ugp lt];left)).trans ?_
  rw[ufx,uax]
  refine ugq _ ?_
  exact qT lt
theorem yH {α:Type}(next:Nat->Nat)(xs:Array α):(pickOrder next xs).toList.Perm xs.toList:=by
 unfold pickOrder
 simpa using pG next xs.size 0 xs.toList #[] (by simp)
section
variable {prog:l9}{w:uak}{A:uae}{E:c9->d7->Prop}{s:d7}
theorem xR {M:Model}{src:Source}{n:Nat}{Q:Nat->d7->Prop}(hn:n≠0)(h:∀ i,i<n->Q i { s with drawn:=s.drawn.bump src }):j9 M A (choose src n) Q E s:=λ Γ p hΓ=>by
 unfold choose
 rw[Sem.wp_choose]
 exact⟨hn,by exact h _ (Nat.mod_lt _ (Nat.pos_of_ne_zero hn))⟩
theorem uO {α:Type}{M:Model}(n:Nat):∀ (xs:List α)(s:d7)(Q:List α->d7->Prop),xs.length=n->(∀ ys d',ys.Perm xs->Q ys { s with drawn:=d' })->j9 M A (drawOrder n xs) Q E s:=by
 induction n with
 | zero =>
  intro xs s Q h hQ
  have:xs=[]:=ueu.mp h
  subst this
  unfold drawOrder
  exact f9 (hQ [] s.drawn .nil)
 | succ n ih =>
  intro xs s Q h hQ
  cases xs with
  | nil=>cases h
  | cons x xs =>
   unfold drawOrder
   refine a9 (xR (by simp) λ i hi=>?_)
   rw[c7 hi]
   refine a9 (ih _ _ _ (by rw[ugp hi];simp at h ⊢;left) λ ys d' pm=>f9 (hQ _ d' ?_))
   exact (List.Perm.cons _ pm).trans (qT hi)
end
end Stb
namespace Stb
open PySem PyProof.Rows
inductive Knd where
 | text
 | drawn (p:l7) (pl:List Nat)
 | places
def First (w:uak)(a:l7)(es:Array (Int × c9))(ep:Nat)(t:SetTable)(ord:List (Int × c9))(i:Nat)(h:Heap)(first:c9):Knd->Prop
 | .text=>ledOf w=false/\ord=(pickOrder (w.params.setOrder a ep) es).toList/\∃ z:Nat,first=.int z 0
 | .drawn p pl=>first=.ref p/\h.IsTuple p (pl.map λ i=>rawInt (i:Nat)).toArray/\ord.length=pl.length/\∀ j k:Nat,pl[j]?=some k->∃ e,es[k]?=some e/\ord[j]?=some e
 | .places=>ledOf w=true/\(t.plain=true\/es.size<=1)/\ord=es.toList/\∃ z:Nat,first=.int z 0/\SetTable.below t.place z=i
def IsSet (h:Heap)(a:l7)(es:Array (Int × c9))(ep:Nat)(t:SetTable):Prop:=∃ o,h.get? a=some o/\o.cls=.type "set"/\o.data=.set es ep t
def IsIt (h:Heap)(I a:l7)(n ep i:Nat)(first:c9):Prop:=∃ o,h.get? I=some o/\o.cls=.type "set_iterator"/\o.data=.fields #[first,.int i 0,.ref a,.int n 0,.int ep 0]
section
variable {prog:l9}{w:uak}{A:uae}{E:c9->d7->Prop}{s:d7}{a I:l7}{es:Array (Int × c9)}{ep:Nat}{t:SetTable}
theorem mD {Q:Option (c9 × Nat)->d7->Prop}{z i:Nat}(hs:IsSet s.heap a es ep t)(fit:t.fits es.size=true)(hl:ledOf w=false)
  (h:Q (((pickOrder (w.params.setOrder a ep) es)[i]?).map λ e=>(e.2,z)) s):j9 (o9 prog w) A (setNext a z i ep) Q E s:=by
 obtain⟨o,ho,_,od⟩:=hs
 have ft:w.params.followText "set-order"=true:=by simpa [ledOf] using hl
 unfold setNext setsByText
 refine a9 (udb ho od fit ?_)
 refine a9 (a9 (udk (f9 ?_)))
 show j9 _ _ (if w.params.followText "set-order"=true then _ else _) _ _ _
 rw[uhd ft]
 dsimp only
 rw[uhe (by simp)]
 refine a9 ?_
 unfold setWalk setsByText
 refine a9 (udb ho od fit ?_)
 refine a9 (a9 (udk (f9 ?_)))
 show j9 _ _ (if w.params.followText "set-order"=true then _ else _) _ _ _
 rw[uhd ft]
 exact a9 (udk (f9 (f9 h)))
theorem lG {Q:Option (c9 × Nat)->d7->Prop}{z i:Nat}(hs:IsSet s.heap a es ep t)(fit:t.fits es.size=true)(ti:TI (ledOf w) t)(hl:ledOf w=true)(hp:t.plain=true\/es.size<=1)
  (h:Q (match es[SetTable.below t.place z]?,t.place[SetTable.below t.place z]? with | some (_,x),some j=>some (x,j+1) | _,_=>none) s):j9 (o9 prog w) A (setNext a z i ep) Q E s:=by
 obtain⟨o,ho,_,od⟩:=hs
 have ft:w.params.followText "set-order"=false:=by simpa [ledOf] using hl
 unfold setNext setsByText
 refine a9 (udb ho od fit ?_)
 refine a9 (a9 (udk (f9 ?_)))
 show j9 _ _ (if w.params.followText "set-order"=true then _ else _) _ _ _
 rw[uhe (by rw[ft];exact j6)]
 dsimp only
 show j9 _ _ (if (!t.plain&&decide (es.size>1))=true then _ else _) _ _ _
 rw[uhe (by rcases hp with z | z <;> simp [z])]
 show j9 _ _ ((if (!t.led&&!es.isEmpty)=true then unsupported "set:maker-not-led" else pure ()) >>= _) _ _ _
 rw[uhe (by rw[ti.2,hl];simp)]
 exact a9 (f9 (f9 h))
theorem IsIt.set0 {h:Heap}{n ep i:Nat}{first:c9}(x:IsIt h I a n ep i first)(v:c9):IsIt (h.update I (Obj.mapFields (·.setIfInBounds 0 v))) I a n ep i v:=by
 obtain⟨o,ho,hc,hd⟩:=x
 exact⟨_,ub0 _ ho (Obj.isFreed_of_fields (Obj.data_mapFields hd _)),(Obj.cls_mapFields ..).trans hc,by rw[Obj.data_mapFields hd];simp⟩
theorem IsIt.set1 {h:Heap}{n ep i:Nat}{first:c9}(x:IsIt h I a n ep i first):IsIt (h.update I (Obj.mapFields (·.setIfInBounds 1 (rawInt ((i:Int)+1))))) I a n ep (i+1) first:=by
 obtain⟨o,ho,hc,hd⟩:=x
 exact⟨_,ub0 _ ho (Obj.isFreed_of_fields (Obj.data_mapFields hd _)),(Obj.cls_mapFields ..).trans hc,by rw[Obj.data_mapFields hd];simp [rawInt]⟩
theorem nG {Q:PySem.Fin->d7->Prop}(hh:A.handled=none)(hE:∀ (e:c9) (h':Heap),(∀ b o,s.heap.get? b=some o->h'.get? b=some o)->Shared.TypeIs { s with heap:=h' } e "StopIteration"->E e { s with heap:=h' }) :
  j9 (o9 prog w) A (newExc (.type "StopIteration") [] >>= λ e=>raiseNew e) Q E s:=by
 refine a9 ?_
 simp only [newExc,newTuple]
 refine a9 (ua4 ?_ (by size_fits))
 refine a9 (m:=firstArgMember _ _) (wpAny_of_eq (a:=Value.none) (by first | rfl | (simp only [firstArgMember];rfl)) (ua4 ?_ (by size_fits)))
 simp only [raiseNew]
 refine a9 (wpAny_handled ?_)
 rw[hh]
 refine a9 (f9 (wpAny_throw ?_))
 refine hE _ _ (λ b o e=>c6 _ (c6 _ e)) ?_
 exact⟨_,i7 _ rfl,rfl⟩
section
variable {Q:Option c9->d7->Prop}{i:Nat}
theorem nX {x:c9}{z nx:Nat}(hs:IsSet s.heap a es ep t)(fit:t.fits es.size=true)(hit:IsIt s.heap I a es.size ep i (.int z 0))
  (hn:∀ (A':uae)(Q':Option (c9 × Nat)->d7->Prop)(E':c9->d7->Prop),Q' (some (x,nx)) s->j9 (o9 prog w) A' (setNext a z i ep) Q' E' s)
  (hQ:∀ h',IsIt h' I a es.size ep (i+1) (.int nx 0)->Heap.SameBut I s.heap h'->Q (some x) { s with heap:=h' }):j9 (o9 prog w) A (pyNext (.ref I)) Q E s:=by
 obtain⟨oi,hi,ci,di⟩:=id hit
 obtain⟨o,ho,_,od⟩:=hs
 unfold pyNext
 refine a9 (ub7 (v7 (name:=v9 "__next__") ⟨oi,hi,ci⟩ sl_next (uab sl_next ⟨oi,hi,ci⟩ iD ?_ (iI _))))
 show j9 _ _ (fieldsOf (.ref I) >>= _) _ _ s
 refine a9 (ufz hi di ?_)
 show j9 _ _ (setEntries a >>= _) _ _ s
 refine a9 (udp ho od fit ?_)
 dsimp only
 rw[uhe (by simp)]
 show j9 _ _ (setNext a z i ep >>= _) _ _ s
 refine a9 (hn _ _ _ ?_)
 dsimp only
 refine a9 (uc0 hi di (by simp) ?_)
 obtain⟨o1,hi1,ci1,di1⟩:=id (hit.set0 (rawInt nx))
 refine a9 (uc0 hi1 di1 (by simp) (f9 ⟨x,rfl,f9 (hQ _ ?_ ((ubr ..).trans (ubr ..)))⟩))
 exact (hit.set0 (rawInt nx)).set1
theorem pP {z:Nat}(hh:A.handled=none)(hs:IsSet s.heap a es ep t)(fit:t.fits es.size=true)(hit:IsIt s.heap I a es.size ep i (.int z 0))
  (hn:∀ (A':uae)(Q':Option (c9 × Nat)->d7->Prop)(E':c9->d7->Prop),Q' none s->j9 (o9 prog w) A' (setNext a z i ep) Q' E' s)
  (hQ:∀ h',(∀ b o,b≠I->s.heap.get? b=some o->h'.get? b=some o)->Q none { s with heap:=h' }):j9 (o9 prog w) A (pyNext (.ref I)) Q E s:=by
 obtain⟨oi,hi,ci,di⟩:=id hit
 obtain⟨o,ho,_,od⟩:=hs
 unfold pyNext
 refine a9 (ub7 (v7 (name:=v9 "__next__") ⟨oi,hi,ci⟩ sl_next (uab sl_next ⟨oi,hi,ci⟩ iD ?_ (iI _))))
 show j9 _ _ (fieldsOf (.ref I) >>= _) _ _ s
 refine a9 (ufz hi di ?_)
 show j9 _ _ (setEntries a >>= _) _ _ s
 refine a9 (udp ho od fit ?_)
 dsimp only
 rw[uhe (by simp)]
 show j9 _ _ (setNext a z i ep >>= _) _ _ s
 refine a9 (hn _ _ _ ?_)
 dsimp only
 refine a9 (uc0 hi di (by simp) (nG hh λ e h' hk ty=>?_))
 refine a9 (udj (T:="StopIteration") (b:=true) ty uex (f9 (hQ _ λ b o hb e=>hk b o ?_)))
 exact (uac _ _ (Ne.symm hb)).trans e
theorem zaj {x:c9}{p:l7}{pl:List Nat}{k:Nat}{hx:Int}(hs:IsSet s.heap a es ep t)(fit:t.fits es.size=true)(hit:IsIt s.heap I a es.size ep i (.ref p))(hp:s.heap.IsTuple p (pl.map λ i=>rawInt (i:Nat)).toArray)
  (hk:pl[i]?=some k) (he:es[k]?=some (hx,x)) (hQ:∀ h',IsIt h' I a es.size ep (i+1) (.ref p)->Heap.SameBut I s.heap h'->Q (some x) { s with heap:=h' }):j9 (o9 prog w) A (pyNext (.ref I)) Q E s:=by
 obtain⟨oi,hi,ci,di⟩:=id hit
 obtain⟨o,ho,_,od⟩:=hs
 obtain⟨ol,hol,_,nl,hdl⟩:=hp
 unfold pyNext
 refine a9 (ub7 (v7 (name:=v9 "__next__") ⟨oi,hi,ci⟩ sl_next (uab sl_next ⟨oi,hi,ci⟩ iD ?_ (iI _))))
 show j9 _ _ (fieldsOf (.ref I) >>= _) _ _ s
 refine a9 (ufz hi di ?_)
 show j9 _ _ (setEntries a >>= _) _ _ s
 refine a9 (udp ho od fit ?_)
 dsimp only
 rw[uhe (by simp)]
 show j9 _ _ (seqItems? (.ref p) >>= _) _ _ s
 refine a9 (ua7 hol hdl ?_)
 have ek:(pl.map λ i=>rawInt (i:Nat)).toArray[i]?=some (.int k 0):=by rw[List.getElem?_toArray,i8,hk];rfl
 simp only [v5,ek]
 show j9 _ _ (setNextDrawn a k ep >>= _) _ _ s
 refine a9 ?_
 unfold setNextDrawn
 refine a9 (udb ho od fit ?_)
 dsimp only
 rw[uhe (by simp),he]
 refine f9 (a9 (uc0 hi di (by simp) (f9 ⟨x,rfl,f9 (hQ _ hit.set1 (ubr ..))⟩)))
theorem zcb {p:l7}{pl:List Nat}(hh:A.handled=none)(hs:IsSet s.heap a es ep t)(fit:t.fits es.size=true)(hit:IsIt s.heap I a es.size ep i (.ref p))(hp:s.heap.IsTuple p (pl.map λ i=>rawInt (i:Nat)).toArray)
  (hk:pl[i]?=none) (hQ:∀ h',(∀ b o,b≠I->s.heap.get? b=some o->h'.get? b=some o)->Q none { s with heap:=h' }):j9 (o9 prog w) A (pyNext (.ref I)) Q E s:=by
 obtain⟨oi,hi,ci,di⟩:=id hit
 obtain⟨o,ho,_,od⟩:=hs
 obtain⟨ol,hol,_,nl,hdl⟩:=hp
 unfold pyNext
 refine a9 (ub7 (v7 (name:=v9 "__next__") ⟨oi,hi,ci⟩ sl_next (uab sl_next ⟨oi,hi,ci⟩ iD ?_ (iI _))))
 show j9 _ _ (fieldsOf (.ref I) >>= _) _ _ s
 refine a9 (ufz hi di ?_)
 show j9 _ _ (setEntries a >>= _) _ _ s
 refine a9 (udp ho od fit ?_)
 dsimp only
 rw[uhe (by simp)]
 show j9 _ _ (seqItems? (.ref p) >>= _) _ _ s
 refine a9 (ua7 hol hdl ?_)
 have ek:(pl.map λ i=>rawInt (i:Nat)).toArray[i]?=none:=by rw[List.getElem?_toArray,i8,hk];rfl
 simp only [v5,ek]
 refine a9 (uc0 hi di (by simp) ?_)
 obtain⟨o1,hi1,ci1,di1⟩:=id (hit.set0 (rawInt 0))
 refine a9 (uc0 hi1 di1 (by simp) (nG hh λ e h' hk ty=>?_))
 refine a9 (udj (T:="StopIteration") (b:=true) ty uex (f9 (hQ _ λ b o hb e=>hk b o ?_)))
 exact (uac _ _ (Ne.symm hb)).trans ((uac _ _ (Ne.symm hb)).trans e)
end
end
end Stb
namespace Stb
open PySem PyProof.Rows
theorem oZ:Slot "set_iterator" "__iter__" "set_iterator.__iter__":=.of (owner:="set_iterator") (n:="__iter__") (by rw[typeLookup_type,builtinLookup_eq_fast];kernel_rfl) (by symm) (by symm) (by symm) (by first | exact .inl (by symm) | exact .inr (by symm)) (by rw[isSubtype_type];kernel_rfl)
theorem za7:entryFor table "set_iterator.__iter__"=some Builtin.«dict_keyiterator.__iter__»:=entryFor_alias (id':="dict_keyiterator.__iter__") (by kernel_rfl) (by first | rfl | decide +kernel | (unfold String.splitOn;simp +decide [String.splitOnAux])) (by symm) (by kernel_rfl)
theorem zc7 (a:c9):argsOk "set_iterator.__iter__" ⟨[a],[]⟩:=by
 unfold argsOk;rw[signature?_of (id:="set_iterator.__iter__") (n:=['_','_','r','e','t','i','_','_']) (o:=['r','o','t','a','r','e','t','i','_','t','e','s']) (by kernel_rfl) pI];kernel_rfl
section
variable {prog:l9}{w:uak}{A:uae}{E:c9->d7->Prop}{s:d7}{a I:l7}{es:Array (Int × c9)}{ep:Nat}{t:SetTable}
theorem yX {Q:c9->d7->Prop}{n i:Nat}{f:c9}(hit:IsIt s.heap I a n ep i f)(h:Q (.ref I) s):j9 (o9 prog w) A (pyIter (.ref I)) Q E s:=by
 obtain⟨oi,hi,ci,di⟩:=id hit
 refine wpAny_pyIter_slot ⟨oi,hi,ci⟩ oZ (uab oZ ⟨oi,hi,ci⟩ za7 ?_ (zc7 _))
 show j9 _ _ (ret (.ref I)) _ _ s
 exact f9 ⟨_,rfl,"set_iterator",_,⟨oi,hi,ci⟩,sl_next.lookup,h⟩
def fpK (I a:l7):Knd->List l7
 | .drawn p _=>[I,a,p]
 | _=>[I,a]
def StK (w:uak)(a I:l7)(es:Array (Int × c9))(ep:Nat)(t:SetTable)(ord:List (Int × c9))(kd:Knd)(i:Nat)(h:Heap):Prop :=
 IsSet h a es ep t/\∃ first,IsIt h I a es.size ep i first/\First w a es ep t ord i h first kd
theorem kT (I a:l7):∀ kd,I∈fpK I a kd/\a∈fpK I a kd
 | .text=>by simp [fpK]
 | .drawn _ _=>by simp [fpK]
 | .places=>by simp [fpK]
theorem zX {ord:List (Int × c9)}{kd:Knd}(hh:A.handled=none)(aI:a≠I)(fit:t.fits es.size=true)(ti:TI (ledOf w) t)(hpI:∀ p pl,kd=.drawn p pl->p≠I)(pm:ord.Perm es.toList) :
  Walks prog w A I (fpK I a kd) [I] ord.length (λ i v=>∃ e,ord[i]?=some e/\v=e.2) (StK w a I es ep t ord kd) where
 sub:=λ b hb=>by simp at hb;rw[hb];exact (kT I a kd).1
 frame:=λ i h h' st hk=>by
  obtain⟨⟨o,ho,r⟩,f,⟨oi,hi,ri⟩,fk⟩:=st
  refine⟨⟨o,hk a (kT I a kd).2 o ho,r⟩,f,⟨oi,hk I (kT I a kd).1 oi hi,ri⟩,?_⟩
  cases kd with
  | text=>exact fk
  | places=>exact fk
  | drawn p pl =>
   obtain⟨e,⟨op,hp,rp⟩,rest⟩:=fk
   exact⟨e,⟨op,hk p (by simp [fpK]) op hp,rp⟩,rest⟩
 self:=λ i s Q E st hQ=>by
  obtain⟨_,f,hit,_⟩:=st
  exact yX hit hQ
 item:=λ i s Q E hi st hQ=>by
  obtain⟨hs,f,hit,fk⟩:=st
  have hsK:∀ h',Heap.SameBut I s.heap h'->IsSet h' a es ep t:=λ h' sb=>by
   obtain⟨o,ho,r⟩:=hs
   exact⟨o,sb.extBut a o aI ho,r⟩
  have kp:∀ h',Heap.SameBut I s.heap h'->∀ b o,b∉[I]->s.heap.get? b=some o->h'.get? b=some o:=λ h' sb b o hb e=>sb.extBut b o (λ z=>hb (by simp [z])) e
  have oi:ord[i]?=some ord[i]:=c7 hi
  cases kd with
  | text =>
   obtain⟨hl,eo,z,rfl⟩:=fk
   have ei:(pickOrder (w.params.setOrder a ep) es)[i]?=some ord[i]:=by rw[← ua5,← eo];exact oi
   refine nX (x:=ord[i].2) (nx:=z) hs fit hit (λ A' Q' E' q=>mD hs fit hl ?_) λ h' hit' sb=>hQ _ h' s.toks ⟨_,oi,rfl⟩ ⟨hsK h' sb,_,hit',hl,eo,z,rfl⟩ (kp h' sb)
   rw[ei];exact q
  | places =>
   obtain⟨hl,hp,eo,z,rfl,eb⟩:=fk
   have ei:es[i]?=some ord[i]:=by rw[← ua5,← eo];exact oi
   have szp:t.place.size=es.size:=by
    simp only [SetTable.fits,o7,beq_iff_eq] at fit
    exact fit.1
   have il:i<t.place.size:=by rw[szp];exact (ugj.mp ei).1
   have ep':t.place[i]?=some t.place[i]:=ubf il
   refine nX (x:=ord[i].2) (nx:=t.place[i]+1) hs fit hit (λ A' Q' E' q=>lG hs fit ti hl hp ?_) λ h' hit' sb=>hQ _ h' s.toks ⟨_,oi,rfl⟩ ⟨hsK h' sb,_,hit',hl,hp,eo,_,rfl,xK _ ti.1 ep'⟩ (kp h' sb)
   rw[eb,ei,ep'];exact q
  | drawn p pl =>
   obtain⟨rfl,hp,el,hj⟩:=fk
   have il:i<pl.length:=el ▸ hi
   obtain⟨e,ek,eo⟩:=hj i _ (c7 il)
   obtain⟨hx,x⟩:=e
   refine zaj (x:=x) hs fit hit hp (c7 il) ek λ h' hit' sb=>hQ _ h' s.toks ⟨_,eo,rfl⟩ ⟨hsK h' sb,_,hit',rfl,?_,el,hj⟩ (kp h' sb)
   obtain⟨op,hop,rp⟩:=hp
   exact⟨op,sb.extBut p op (hpI p pl rfl) hop,rp⟩
 done:=λ s Q E st hQ=>by
  obtain⟨hs,f,hit,fk⟩:=st
  have lo:ord.length=es.size:=by rw[pm.length_eq,u6]
  have kp:∀ h':Heap,(∀ b o,b≠I->s.heap.get? b=some o->h'.get? b=some o)->∀ b o,b∉[I]->s.heap.get? b=some o->h'.get? b=some o:=λ h' k b o hb e=>k b o (λ z=>hb (by simp [z])) e
  cases kd with
  | text =>
   obtain⟨hl,eo,z,rfl⟩:=fk
   refine pP hh hs fit hit (λ A' Q' E' q=>mD hs fit hl ?_) λ h' k=>hQ h' s.toks (kp h' k)
   have:(pickOrder (w.params.setOrder a ep) es)[ord.length]?=none:=by rw[← ua5,← eo,r6 (h9 _)]
   rw[this];exact q
  | places =>
   obtain⟨hl,hp,eo,z,rfl,eb⟩:=fk
   refine pP hh hs fit hit (λ A' Q' E' q=>lG hs fit ti hl hp ?_) λ h' k=>hQ h' s.toks (kp h' k)
   have:es[ord.length]?=none:=by rw[lo];simp
   rw[eb,this];exact q
  | drawn p pl =>
   obtain⟨rfl,hp,el,hj⟩:=fk
   exact zcb hh hs fit hit hp (by rw[el,r6 (h9 _)]) λ h' k=>hQ h' s.toks (kp h' k)
end
end Stb
namespace Stb
open PySem PyProof.Rows
section
variable {prog:l9}{w:uak}{A:uae}{E:c9->d7->Prop}{s:d7}{a:l7}{es:Array (Int × c9)}{ep:Nat}{t:SetTable}
theorem zax {Q:Bool->d7->Prop}(hs:IsSet s.heap a es ep t)(fit:t.fits es.size=true)(h:Q (ledOf w&&(!t.plain&&decide (es.size>1))) s):j9 (o9 prog w) A (setDrawn a) Q E s:=by
 obtain⟨o,ho,_,od⟩:=hs
 unfold setDrawn setsByText
 refine a9 (udb ho od fit ?_)
 exact a9 (a9 (udk (f9 (f9 h))))
theorem zaw {Q:c9->d7->Prop}(hs:IsSet s.heap a es ep t)(fit:t.fits es.size=true)(ti:TI (ledOf w) t)(small:es.size<=4096)
  (h:∀ (I:l7)(h':Heap)(d':Drawn)(ord:List (Int × c9))(kd:Knd),(∀ b o,s.heap.get? b=some o->h'.get? b=some o)->s.heap.objs.size<=I->(∀ p pl,kd=.drawn p pl->p≠I/\s.heap.objs.size<=p)->ord.Perm es.toList->StK w a I es ep t ord kd 0 h' ->
   Q (.ref I) { s with heap:=h',drawn:=d' }):j9 (o9 prog w) A (pyIter (.ref a)) Q E s:=by
 obtain⟨o,ho,oc,od⟩:=id hs
 refine wpAny_pyIter_slot ⟨o,ho,oc⟩ ug2 (uab ug2 ⟨o,ho,oc⟩ zc0 ?_ (PySem.F.args_set_iter_1 _))
 unfold Builtin.«frozenset.__iter__» Builtin.Frozenset.sizeOf
 show j9 _ _ ((setEntries a >>= λ x=>pure x.size) >>= _) _ _ s
 refine a9 (a9 (udp ho od fit (f9 (a9 (zax hs fit ?_)))))
 have lastT : ∀ (h1 : Heap)(first : c9)(d' : Drawn)(ord : List (Int × c9))(kd : Knd), (∀ b o, s.heap.get? b = some o → h1.get? b = some o) → s.heap.objs.size <= h1.objs.size → (∀ p pl, kd = .drawn p pl → p<h1.objs.size /\ s.heap.objs.size <= p) → ord.Perm es.toList → (∀ h', (∀ b o, h1.get? b = some o → h'.get? b = some o) → First w a es ep t ord 0 h' first kd) →
     j9 (o9 prog w) A.in1 (setEpoch a >>= λ e=>newFields "set_iterator" [first,rawInt 0,.ref a,rawInt es.size,rawInt e] >>= λ v=>ret v) (λ fin s'=>∃ v,fin=.done (.ret v)/\∃ T' r,s'.TypeIs v T'/\typeLookup (.type T') (v9 "__next__")=pure (some r)/\Q v s') E { s with heap:=h1,drawn:=d' }:=λ h1 first d' ord kd hk sz hp pm hf=>by
  refine a9 (wpAny_setEpoch_of (hk a o ho) od fit (a9 (ua4 (f9 ⟨_,rfl,"set_iterator",_,⟨_,i7 _ rfl,rfl⟩,sl_next.lookup,?_⟩))))
  exact h _ _ d' ord kd (λ b o e=>c6 _ (hk b o e)) sz (λ p pl e=>⟨j8 (hp p pl e).1,(hp p pl e).2⟩) pm ⟨⟨o,c6 _ (hk a o ho),oc,od⟩,first,⟨_,i7 _ rfl,rfl,rfl⟩,hf _ λ b o e=>c6 _ e⟩
 dsimp only
 have es0:s={ s with heap:=s.heap,drawn:=s.drawn }:=by cases s;rfl
 by_cases c:(ledOf w&&(!t.plain&&decide (es.size>1)))=true
 ·rw[uhd c]
  refine a9 (uO _ _ _ _ (by simp) λ ys d' pm=>?_)
  have yl:ys.length=es.size:=by rw[pm.length_eq,v4]
  have line:es.size<=r9:=by rw[ubp];left
  refine a9 (ua4 ?_ (by show (ys.map λ i=>rawInt (i:Nat)).toArray.size<=r9;simpa [yl] using line))
  have ordE:∀ k∈ys,∃ e,es[k]?=some e:=λ k hk=>by
   have:k<es.size:=by simpa using pm.mem_iff.mp hk
   exact⟨_,ubf this⟩
  have fm:∀ l:List Nat,(∀ k∈l,∃ e,es[k]?=some e)->(l.filterMap (es[·]?)).length=l.length/\∀ j k:Nat,l[j]?=some k->∃ e,es[k]?=some e/\(l.filterMap (es[·]?))[j]?=some e:=λ l=>by
   induction l with
   | nil=>exact λ _=>⟨rfl,λ j k e=>by simp at e⟩
   | cons x l ih =>
    intro hx
    obtain⟨e,he⟩:=hx x (by simp)
    obtain⟨h1,h2⟩:=ih λ k hk=>hx k (i9 _ hk)
    rw[List.filterMap_cons_some (b:=e) he]
    refine⟨by simp [h1],λ j k ej=>?_⟩
    cases j with
    | zero=>simp at ej;subst ej;exact⟨e,he,rfl⟩
    | succ j=>simp only [List.getElem?_cons_succ] at ej ⊢;exact h2 j k ej
  obtain⟨f1,f2⟩:=fm ys ordE
  refine lastT _ (.ref s.heap.objs.size) d' (ys.filterMap (es[·]?)) (.drawn s.heap.objs.size ys) (λ b o e=>c6 _ e) (by rw[w8];exact ub8 _) (λ p pl e=>by cases e;rw[w8];exact⟨ucu _,h9 _⟩) ?_ λ h' k=>⟨rfl,⟨_,k _ _ (i7 _ rfl),rfl,_,rfl⟩,f1,f2⟩
  exact (pm.filterMap _).trans (by rw[filterMap_getElem?_range])
 ·rw[uhe c]
  refine a9 (f9 ?_)
  cases cl:ledOf w with
  | false =>
   rw[es0]
   exact lastT s.heap (rawInt 0) s.drawn _ .text (λ _ _ e=>e) (h9 _) (λ p pl e=>nomatch e) (yH _ es) λ h' k=>⟨cl,rfl,0,rfl⟩
  | true =>
   rw[es0]
   refine lastT s.heap (rawInt 0) s.drawn es.toList .places (λ _ _ e=>e) (h9 _) (λ p pl e=>nomatch e) (.refl _) λ h' k=>⟨cl,?_,rfl,0,rfl,xJ _ ti.1⟩
   rw[cl] at c
   cases pl:t.plain with
   | true=>exact .inl rfl
   | false=>rw[pl] at c;exact .inr (by simpa using c)
theorem zaz {Q:Bool->d7->Prop}(hT:s.TypeIs (.ref a) "set")(h:Q false s):j9 (o9 prog w) A (Builtin.List.listLengthHint (.ref a)) Q E s:=by
 unfold Builtin.List.listLengthHint
 refine a9 (wpAny_specialOf hT PySem.F.slot_set_len.lookup ?_)
 generalize hid:("set.__len__":String)=id0
 wp_delta
 rw[show splitId id0=some ("set","__len__") from by subst hid;decide +kernel]
 subst hid
 refine a9 (udj (T:="set") (b:=true) hT (by rw[isSubtype_type];kernel_rfl) (wpAny_ite_split (λ z=>absurd z (by decide)) λ _=>?_))
 refine wpAny_ite_split (λ _=>a9 (uet hT (f9 h))) (λ z=>absurd (by symm) z)
theorem iB:∀ l:List (Int × c9),ElemsOf (intKind prog w) l->∃ ks,IntsAre (l.map (·.2)) ks/\ks.length=l.length/\∀ k,k∈ks↔∃ e∈l,(intKind prog w).is k e.2=true
 | [],_=>⟨[],.nil,rfl,λ k=>by simp⟩
 | e::l,h=>by
  obtain⟨ks,h1,h2,h3⟩:=iB l h.tail
  obtain⟨⟨k,hk,_⟩,_⟩:=h.head
  obtain⟨hx,x⟩:=e
  obtain⟨u,rfl⟩:=Value.isInt_shape hk
  refine⟨k::ks,.cons k u h1,by simp [h2],λ y=>?_⟩
  rw[j4,h3 y]
  constructor
  ·rintro (rfl | ⟨e,he,q⟩)
   ·exact⟨_,i5,hk⟩
   ·exact⟨e,i9 _ he,q⟩
  ·rintro ⟨e,he,q⟩
   rcases j4.mp he with rfl | he
   ·exact .inl ((intKind prog w).inj _ _ _ q hk)
   ·exact .inr ⟨e,he,q⟩
theorem zcx {ord:List (Int × c9)}{acc:Array c9}(h:ItemsOf (λ i v=>∃ e,ord[i]?=some e/\v=e.2) acc ord.length):acc.toList=ord.map (·.2):=by
 refine ud0 (by simp [h.1]) λ i h1 h2=>?_
 have hi:i<acc.size:=by simpa using h1
 obtain⟨e,e1,e2⟩:=h.2 i _ (ubf hi)
 have hi2:i<ord.length:=by simpa using h2
 rw[c7 hi2] at e1
 cases e1
 simpa using e2
theorem wG {Q:List c9->d7->Prop}{S:Int->Bool}{n:Nat}(hh:A.handled=none)(st:SetT prog w s.heap a S n)
  (hQ:∀ (h':Heap)(tk:Nat)(d':Drawn)(vs:List c9)(ks:List Int),(∀ b o,s.heap.get? b=some o->h'.get? b=some o)->IntsAre vs ks->ks.length=n->(∀ k,S k=true↔k∈ks)->Q vs { s with heap:=h',toks:=tk,drawn:=d' }) :
  j9 (o9 prog w) A (collect (.ref a)) Q E s:=by
 obtain⟨⟨o,es,ep,t,ho,ox,od,el,me,small,fit,en⟩,o',es',ep',t',ho',od',ti⟩:=st
 rw[ho] at ho';cases ho'
 rw[od] at od';cases od'
 unfold collect
 refine a9 (ufy (uca uf5 ?_))
 rw[Around.under_plainId uf4 _]
 show j9 _ A.in1 (newList [] >>= λ l=>again (.builtin "list.__iadd__" ⟨[l,.ref a],[]⟩)) _ _ s
 refine a9 (ua4 ?_)
 refine f9 ⟨ufb udh _,uca ugn ?_⟩
 rw[Around.under_plainId udh _]
 show j9 _ A.in1 (Builtin.List.listExtendWith (.ref s.heap.objs.size) (.ref a) (.ref s.heap.objs.size)) _ _ _
 have alt:a<s.heap.objs.size:=j0 ho
 have hS:(s.heap.push { cls:=.type "list",data:=.seq ([]:List c9).toArray }).get? s.heap.objs.size=some { cls:=.type "list",data:=.seq #[] }:=i7 _ rfl
 have szL:(s.heap.push { cls:=.type "list",data:=.seq ([]:List c9).toArray }).objs.size=s.heap.objs.size+1:=w8 ..
 unfold Builtin.List.listExtendWith
 have tS:Shared.TypeIs { s with heap:=s.heap.push { cls:=.type "list",data:=.seq ([]:List c9).toArray } } (.ref a) "set":=⟨o,c6 _ ho,ox.1⟩
 refine a9 (uet (T:="set") tS ?_)
 have h1:Builtin.List.listSameRef (.ref s.heap.objs.size) (.ref a)=false:=by simp only [Builtin.List.listSameRef,beq_eq_false_iff_ne];exact ucm alt
 have h2:(Value.type "set"==Value.type "list")=false:=by decide
 have h3:(Value.type "set"==Value.type "tuple")=false:=by decide
 simp only [h1,h2,h3,Bool.or_false,ube,if_false]
 refine a9 (zaw (t:=t) ⟨o,c6 _ ho,ox.1,od⟩ fit ti (ufe small) λ I h1 d1 ord kd hk lI hp pm stk=>?_)
 refine a9 (ua0 (zaz ⟨o,hk a o (c6 _ ho),ox.1⟩ ?_))
 refine wpAny_ite_split (λ _=>?_) (λ z=>absurd (by decide) z)
 refine a9 (ubz ?_)
 refine a9 ?_
 show j9 _ _ (updateSeq s.heap.objs.size (·.push .none) >>= λ _=>updateSeq s.heap.objs.size (·.pop)) _ _ _
 have g1:=hk _ _ hS
 refine a9 (wpAny_updateSeq g1 rfl ?_)
 have g2:=ub0 (Obj.mapSeq (·.push Value.none)) g1 rfl
 refine wpAny_updateSeq (hz:=by seq_fits) g2 rfl ?_
 have g3:=ub0 (Obj.mapSeq (·.pop)) g2 rfl
 have neI:s.heap.objs.size≠I:=j8 (p8 (by rw[szL];exact ucu _) lI)
 have nfp:s.heap.objs.size∉fpK I a kd:=by
  cases kd with
  | text=>simp only [fpK,j4,m8,or_false,not_or];exact⟨neI,ucm alt⟩
  | places=>simp only [fpK,j4,m8,or_false,not_or];exact⟨neI,ucm alt⟩
  | drawn p pl =>
   simp only [fpK,j4,m8,or_false,not_or]
   exact⟨neI,ucm alt,j8 (p8 (by rw[szL];exact ucu _) (hp p pl rfl).2)⟩
 have aI:a≠I:=j8 (p8 (by rw[szL];exact ubd alt) lI)
 have W:=zX (prog:=prog) (w:=w) (A:=A.in1) (ep:=ep) (ord:=ord) (kd:=kd) hh aI fit ti (λ p pl e=>(hp p pl e).1) pm
 have kU:∀ b o,b≠s.heap.objs.size->h1.get? b=some o->((h1.update s.heap.objs.size (Obj.mapSeq (·.push Value.none))).update s.heap.objs.size (Obj.mapSeq (·.pop))).get? b=some o:=λ b o hb e =>
  (uac _ _ (Ne.symm hb)).trans ((uac _ _ (Ne.symm hb)).trans e)
 have st1:=W.frame 0 _ _ stk λ b hb o e=>kU b o (λ z=>nfp (z ▸ hb)) e
 have lo:ord.length=n:=by rw[pm.length_eq,u6,en]
 refine f9 ⟨ufb PySem.F.plain_extend_loop _,codeAny_extend_loopS W.toS (by rw[lo,← en];exact ugk small) s.heap.objs.size nfp _ ord.length 0 _ #[] _ rfl (p7 _) st1 g3 (ItemsOf.nil _) λ s' acc' c' hm hS' hacc=>?_⟩
 rw[Moved.eq_with hm]
 refine a9 (wpAny_load hS' (f9 ?_))
 obtain⟨ks,i1,i2,i3⟩:=iB (prog:=prog) (w:=w) ord (el.perm pm)
 rw[zcx hacc]
 refine hQ _ _ _ _ ks (λ b o e=>hm.heap b o ?_ (kU b o (j8 (j0 e)) (hk b o (c6 _ e)))) i1 (i2.trans lo) λ k=>(me k).trans ?_
 ·simp only [j4,m8,or_false,not_or]
  have:=j0 e
  exact⟨j8 this,j8 (p8 (by rw[szL];exact ubd this) lI)⟩
 ·rw[i3 k]
  exact⟨λ ⟨e,he,q⟩=>⟨e,pm.mem_iff.mpr he,q⟩,λ ⟨e,he,q⟩=>⟨e,pm.mem_iff.mp he,q⟩⟩
end
end Stb
namespace L3
open PySem PySem.Spec PyProof.Rows L2
def tieAt (ts:List Tie)(k:Nat):Tie:=ts.getD k (0,0,0)
def arcs2 (t:Tie):List (Nat × Nat × Int):=[(t.1.toNat,t.2.1.toNat,t.2.2),(t.2.1.toNat,t.1.toNat,t.2.2)]
def arcs (ts:List Tie)(ks:List Nat):List (Nat × Nat × Int):=ks.flatMap λ k=>arcs2 (tieAt ts k)
theorem arcs_mem {ts:List Tie}{ks:List Nat}{a:Nat × Nat × Int}:a∈arcs ts ks↔∃ k,k∈ks/\a∈arcs2 (tieAt ts k):=by
 unfold arcs;rw[ucb]
theorem arcs2_mem {t:Tie}{a:Nat × Nat × Int}:a∈arcs2 t↔a=(t.1.toNat,t.2.1.toNat,t.2.2)\/a=(t.2.1.toNat,t.1.toNat,t.2.2):=by
 unfold arcs2;simp
theorem bF {ts:List Tie}{k:Nat}(h:k<ts.length):ts[k]?=some (tieAt ts k)/\tieAt ts k∈ts:=by
 have e:ts[k]?=some (tieAt ts k):=by unfold tieAt;rw[a8,c7 h];rfl
 exact⟨e,p6 e⟩
theorem oD {s t:Tie}(h:endLt s t)(e1:s.1=t.1)(e2:s.2.1=t.2.1):False:=by
 rcases h with h | h
 ·exact Int.lt_irrefl _ (e1 ▸ h)
 ·exact Int.lt_irrefl _ (e2 ▸ h.2)
theorem zac {n:Int}{ts:List Tie}(ok:WebOk n ts){k k':Nat}(hk:k<ts.length)(hk':k'<ts.length)(e1:(tieAt ts k).1=(tieAt ts k').1)(e2:(tieAt ts k).2.1=(tieAt ts k').2.1):k=k':=by
 have pw:∀ i j (hi:i<ts.length) (hj:j<ts.length),i<j->endLt (tieAt ts i) (tieAt ts j):=λ i j hi hj z=>by
  have q:=ua8.mp ok.rise i j hi hj z
  have g:∀ {i:Nat}(hi:i<ts.length),ts[i]=tieAt ts i:=λ {i} hi=>uav ((c7 hi).symm.trans (bF hi).1)
  rwa [g hi,g hj] at q
 rcases uer k k' with z | z | z
 ·exact (oD (pw k k' hk hk' z) e1 e2).elim
 ·exact z
 ·exact (oD (pw k' k hk' hk z) e1.symm e2.symm).elim
section
variable {n:Int}{ts:List Tie}{ks:List Nat}
theorem zbl:Far.Sym (arcs ts ks):=λ u v l h=>by
 obtain⟨k,hk,h⟩:=arcs_mem.mp h
 refine arcs_mem.mpr ⟨k,hk,arcs2_mem.mpr ?_⟩
 rcases arcs2_mem.mp h with h | h <;> cases h
 ·exact .inr rfl
 ·exact .inl rfl
theorem fQ (ok:WebOk n ts)(ko:KeepOk ts.length ks):Far.Pos (arcs ts ks):=λ u v l h=>by
 obtain⟨k,hk,h⟩:=arcs_mem.mp h
 have:=ok.tie _ (bF (ko.2 k hk)).2
 rcases arcs2_mem.mp h with h | h <;> cases h <;> left
theorem iH (ok:WebOk n ts)(ko:KeepOk ts.length ks):∀ u v l,(u,v,l)∈arcs ts ks->u<n.toNat/\v<n.toNat:=λ u v l h=>by
 obtain⟨k,hk,h⟩:=arcs_mem.mp h
 have:=ok.tie _ (bF (ko.2 k hk)).2
 rcases arcs2_mem.mp h with h | h <;> cases h <;> left
theorem zS {i k:Nat}(h:ks[i]?=some k){a:Nat × Nat × Int}(m:a∈arcs ts (ks.take (i+1))):a∈arcs ts (ks.take i)\/a∈arcs2 (tieAt ts k):=by
 obtain⟨j,hj,m⟩:=arcs_mem.mp m
 rw[jC h] at hj
 rcases u4.mp hj with hj | hj
 ·exact .inl (arcs_mem.mpr ⟨j,hj,m⟩)
 ·rw[k8.mp hj] at m;exact .inr m
end
def CV (H:Hp)(v:V):Option (Int × Int)->Prop
 | none=>v=.non
 | some e=>∃ t,v=.ref t/\H t=some (.tup [.int e.1,.int e.2])
theorem CV.keep {H H':Hp}(k:TupKeep H H'){v:V}:∀ {o:Option (Int × Int)},CV H v o->CV H' v o
 | none,h=>h
 | some e,⟨t,h1,h2⟩=>⟨t,h1,k _ _ h2⟩
def CostL (H:Hp)(vs:List V)(cs:List (Option (Int × Int))):Prop:=vs.length=cs.length/\∀ i v,vs[i]?=some v->CV H v (Far.get cs i)
section
variable {H H' J J':Hp}{vs cvs avs ws:List V}{cs:List (Option (Int × Int))}{lw lc la t:l7}{n k:Nat}{x y:Int}
theorem CostL.keep (h:CostL H vs cs)(k:TupKeep H H'):CostL H' vs cs:=⟨h.1,λ i v e=>(h.2 i v e).keep k⟩
theorem CostL.set {v:V}{c:Int × Int}(h:CostL H vs cs)(hk:k<vs.length)(hv:CV H v (some c)):CostL H (vs.set k v) (cs.set k (some c)):=by
 refine⟨by rw[ubt,ubt];exact h.1,λ i u e=>?_⟩
 rw[Far.bA (by rw[← h.1];exact hk)]
 rw[List.getElem?_set] at e
 by_cases z:k=i
 ·subst z;rw[uhd rfl,uhd hk] at e;cases e;rw[uhd rfl];exact hv
 ·rw[uhe z] at e;rw[uhe (Ne.symm z)];exact h.2 i u e
theorem CostL.first (n:Nat):CostL H (l8 n .non) (l8 n none):=by
 refine⟨by rw[uaa,uaa],λ i v e=>?_⟩
 rw[Far.dX]
 rw[udl] at e
 split at e
 ·cases e;rfl
 ·cases e
theorem fW {p:l7}{xs:List V}{o:HO}(h:J p=some (.lst xs)):TupKeep J (upd J p o):=λ a ys e=>by
 rw[aN (λ z=>by rw[z,h] at e;cases e)];exact e
theorem oX (s:Same J J'):TupKeep J J':=λ a xs e=>s _ _ e
structure RH (H J:Hp)(lw lc la:l7)(ws:List V)(n:Nat)(cs:List (Option (Int × Int))):Prop where
 same:Same H J
 fc:H lc=none
 fa:H la=none
 nwc:lw≠lc
 nwa:lw≠la
 nca:lc≠la
 wl:J lw=some (.lst ws)
 co:∃ cvs,J lc=some (.lst cvs)/\CostL J cvs cs
 ah:∃ avs,J la=some (.lst avs)/\avs.length=n
end
theorem pE {α:Type}(x:α):∀ k:Nat,(l8 k [x]).flatten=l8 k x
 | 0=>rfl
 | k+1=>by rw[ucn,udv,pE x k];rfl
def ov:Option Int->V
 | none=>.non
 | some x=>.int x
theorem gB {D:List (Option Int)}{i:Nat}(h:i<D.length):(D.map ov)[i]?=some (ov (Far.get D i)):=by
 rw[i8,c7 h]
 unfold Far.get
 rw[a8,c7 h];rfl
theorem bQ {α:Type}{xs:List α}{i:Int}{x:α}(h0:0<=i)(h:xs[i.toNat]?=some x):atI xs i=some x:=by
 have hl:=(j7.mp h).1
 unfold atI ixN
 rw[uhd h0,uhd (by left)]
 exact h
theorem dL {n:Nat}{i:Int}(h0:0<=i)(h:i<n):ixN n i=some i.toNat:=by
 unfold ixN;rw[uhd h0,uhd h]
inductive rRep1_i  (x:V) (y:V) (H:Hp) (Q:VK):Prop
 | mk:∀ l k z,(x=.ref l)->(y=.int k)->(H l=some (.lst [z]))->(0<=k)->(k<=1000)->(∀ p H',Same H H'->H p=none->H' p=some (.lst (l8 k.toNat z))->Q (.ref p) H')->rRep1_i x y H Q
def rRep1 :R2:=λ x y H Q=>rRep1_i x y H Q
theorem jY {X:Cx}:OpR X (binaryOp .Mult) rRep1:=by
 intro pins s σ H x y v u Q I rx ry h
 obtain⟨l,k,z,rfl,rfl,hH,h1,h2,q⟩:=h
 refine zdo (X:=X) pins s σ H _ _ v u Q I rx ry ⟨l,k,_,rfl,rfl,hH,by left,by left,?_,λ p hp=>q p _ (aT hp) hp (by rw[aO,pE])⟩
 exact uao (by show 1*k.toNat<=1000;left) (by decide:1000<=r9)
theorem dF {K:b8}{H:Hp}:∀ {ts:List Tie}{ws:List V}{k:Nat},IsAll K H (ts.map tieD) ws->k<ts.length->∃ a,ws[k]?=some (.ref a)/\H a=some (.tup [.int (tieAt ts k).1,.int (tieAt ts k).2.1,.int (tieAt ts k).2.2])
 | t::r,ws,0,h,_=>by
  obtain⟨v,vs,rfl,h1,_⟩:=h
  obtain⟨a,xs,rfl,ha,hx⟩:=h1
  have e:xs=(tieI t).map V.int:=IsAll.of_ints (ns:=tieI t) hx
  subst e
  exact⟨a,rfl,ha⟩
 | t::r,ws,k+1,h,hk=>by
  obtain⟨v,vs,rfl,_,h2⟩:=h
  obtain⟨a,e,ha⟩:=dF (ts:=r) (ws:=vs) (k:=k) h2 (by simpa using hk)
  exact⟨a,e,ha⟩
theorem gJ {K:b8}{H:Hp}{ks:List Nat}{v:V}(h:Is K H (keepD ks) v):∃ p,v=.ref p/\H p=some (.tup ((keepI ks).map V.int)):=by
 obtain⟨p,vs,rfl,hp,hx⟩:=h
 have e:=IsAll.of_ints hx
 subst e
 exact⟨p,rfl,hp⟩
theorem iA {ks:List Nat}{i:Nat}{x:V}(h:((keepI ks).map V.int)[i]?=some x):∃ k,ks[i]?=some k/\x=.int (k:Int):=by
 unfold keepI at h
 rw[uaj,i8] at h
 cases e:ks[i]? with
 | none=>rw[e] at h;cases h
 | some k=>rw[e] at h;cases h;exact⟨k,rfl,rfl⟩
theorem qC {H:Hp}{vs:List V}{cs:List (Option (Int × Int))}{i:Int}(h:CostL H vs cs)(h0:0<=i)(hi:i.toNat<cs.length):∃ v,atI vs i=some v/\CV H v (Far.get cs i.toNat):=by
 have hl:i.toNat<vs.length:=by rw[h.1];exact hi
 have e:vs[i.toNat]?=some vs[i.toNat]:=c7 hl
 exact⟨_,bQ h0 e,h.2 _ _ e⟩
def pows (m:Nat):List V:=(d8 m).map λ i=>V.int (2^i)
theorem zcd {m i:Nat}(h:i<m):(pows m)[i]?=some (.int (2^i)):=by unfold pows;rw[i8,ucp h];rfl
theorem yF (m:Nat):pows (m+1)=pows m++[.int (2^m)]:=by unfold pows;rw[ubg,ubs];rfl
theorem zdk {i:Nat}(h:i<60):(0:Int)<=2^i/\(2:Int)^i<=2^60:=by
 have e:((2^i:Nat):Int)=(2:Int)^i:=by norm_cast
 have:2^i<=2^60:=Nat.pow_le_pow_right (by decide) (by left)
 constructor
 ·rw[← e];exact uat _
 ·rw[← e];exact_mod_cast this
inductive spWeights_i (K:b8)(vs:List V)(H:Hp)(Q:VK):Prop
 | mk:∀ n ts v,(vs=[v])->(Is K H (webD n ts) v)->(ts.length<=60)->(∀ l H',Same H H'->H l=none->H' l=some (.lst (pows ts.length))->Q (.ref l) H')->spWeights_i K vs H Q
def spWeights (K:b8):Sp:=λ vs H Q _=>spWeights_i K vs H Q
inductive spCost_i (K:b8)(vs:List V)(H:Hp)(Q:VK):Prop
 | mk:∀ c x y l w,(vs=[.ref c,.int l,.int w])->(H c=some (.tup [.int x,.int y]))->(∀ t H',Same H H'->H' t=some (.tup [.int (x+l),.int (y+w)])->Q (.ref t) H')->spCost_i K vs H Q
def spCost (K:b8):Sp:=λ vs H Q _=>spCost_i K vs H Q
def WK (K:b8)(H:Hp)(n:Int)(ts:List Tie)(ks:List Nat)(wv kv:V):Prop:=Is K H (webD n ts) wv/\WebOk n ts/\Is K H (keepD ks) kv/\KeepOk ts.length ks
theorem WK.same {K:b8}{H H':Hp}{n:Int}{ts:List Tie}{ks:List Nat}{wv kv:V}(h:WK K H n ts ks wv kv)(s:Same H H'):WK K H' n ts ks wv kv:=⟨Is.same s _ h.1,h.2.1,Is.same s _ h.2.2.1,h.2.2.2⟩
inductive spReached_i (K:b8)(vs:List V)(H:Hp)(Q:VK):Prop
 | mk:∀ n ts ks wv kv r,(vs=[wv,kv,.int r])->(WK K H n ts ks wv kv)->(0<=r)->(r<n)->(∀ p lc la cvs avs cs H',Same H H'->H' p=some (.tup [.ref lc,.ref la])->H' lc=some (.lst cvs)->H' la=some (.lst avs)->CostL H' cvs cs->Far.Good (arcs ts ks) n.toNat r.toNat cs->Far.Stab (arcs ts ks) cs->Q (.ref p) H')->spReached_i K vs H Q
def spReached (K:b8):Sp:=λ vs H Q _=>spReached_i K vs H Q
inductive spFars_i (K:b8)(vs:List V)(H:Hp)(Q:VK):Prop
 | mk:∀ n ts ks wv kv r,(vs=[wv,kv,.int r])->(WK K H n ts ks wv kv)->(0<=r)->(r<n)->(∀ l D H',Same H H'->H l=none->H' l=some (.lst (D.map ov))->D.length=n.toNat->(∀ v,v<n.toNat->Far.Dst (arcs ts ks) r.toNat v (Far.get D v))->Q (.ref l) H')->spFars_i K vs H Q
def spFars (K:b8):Sp:=λ vs H Q _=>spFars_i K vs H Q
end L3
namespace HT
open PySem PyProof.Rows
open Sem (wp)
section
variable {prog:l9}{w:uak}{A:uae}{E:c9->d7->Prop}{s:d7}
end
end HT
namespace L3
open PySem PySem.Spec PyProof.Rows L2
def hAt (hs:List Int)(a:Int):Int:=hs.getD a.toNat 0
def absI (i:Int):Int:=if i<0 then -i else i
def acrossI (ts:List Tie)(hs:List Int)(k:Nat):Int:=absI (hAt hs (tieAt ts k).1-hAt hs (tieAt ts k).2.1)
def holdB (n:Int)(ts:List Tie)(ks:List Nat)(hs:List Int):Bool:=decide (hs.length=n.toNat)&&ks.all λ k=>decide (acrossI ts hs k<=(tieAt ts k).2.2)
def capO (roof:Int):Option Int->Int
 | none=>roof
 | some x=>if roof<x then roof else x
theorem qZ {hs:List Int}{a:Int}(h0:0<=a)(h:a.toNat<hs.length):atI (hs.map V.int) a=some (.int (hAt hs a)):=by
 refine bQ h0 ?_
 rw[i8,c7 h]
 unfold hAt
 rw[a8,c7 h];rfl
theorem vN:∀ hs:List Int,wholesB (.tuple (hs.map .int))=true:=λ hs=>by
 show (hs.map udt).all wholeB=true
 rw[ucd]
 exact uas.mpr λ _ _=>rfl
def IntT (H:Hp)(p:l7)(hs:List Int):Prop:=H p=some (.tup (hs.map V.int))/\hs.length<=1000
theorem IntT.same {H H':Hp}{p:l7}{hs:List Int}(h:IntT H p hs)(s:Same H H'):IntT H' p hs:=⟨s _ _ h.1,h.2⟩
theorem IntT.is {K:b8}{H:Hp}{p:l7}{hs:List Int}(h:IntT H p hs):Is K H (.tuple (hs.map .int)) (.ref p):=⟨p,_,rfl,h.1,IsAll.ints _⟩
def AllI (xs:List V):Prop:=∃ ns:List Int,xs=ns.map V.int
theorem zbf {n:Int}{ts:List Tie}{ks:List Nat}{D:List (Option Int)}{s:Nat}{roof:Int}(ok:WebOk n ts)(ko:KeepOk ts.length ks)(lD:D.length=n.toNat)(hD:∀ v,v<n.toNat->Far.Dst (arcs ts ks) s v (Far.get D v)):holdB n ts ks (D.map (capO roof))=true:=by
 unfold holdB
 rw[o7]
 refine⟨uha (by rw[c8];exact lD),uas.mpr λ k hk=>uha ?_⟩
 have hin:=iH ok ko
 have tk:=ok.tie _ (bF (ko.2 k hk)).2
 have m1:((tieAt ts k).1.toNat,(tieAt ts k).2.1.toNat,(tieAt ts k).2.2)∈arcs ts ks:=arcs_mem.mpr ⟨k,hk,arcs2_mem.mpr (.inl rfl)⟩
 have m2:=zbl _ _ _ m1
 have va:∀ a:Int,0<=a->a<n->hAt (D.map (capO roof)) a=capO roof (Far.get D a.toNat):=λ a h0 h1=>by
  unfold hAt Far.get
  rw[a8,i8,c7 (by left),a8,c7 (by left)]
  rfl
 have step:∀ u v l,(u,v,l)∈arcs ts ks->∀ x,Far.get D u=some x->∃ y,Far.get D v=some y/\y<=x+l:=λ u v l m x e=>(hD v (hin _ _ _ m).2).2 _ (.snoc ((hD u (hin _ _ _ m).1).1 x e) m)
 unfold acrossI
 rw[va _ (by left) (by left),va _ (by left) (by left)]
 cases e1:Far.get D (tieAt ts k).1.toNat with
 | none =>
  cases e2:Far.get D (tieAt ts k).2.1.toNat with
  | none=>show absI (roof-roof)<=_;unfold absI;split <;> left
  | some y=>obtain⟨z,hz,_⟩:=step _ _ _ m2 y e2;rw[e1] at hz;cases hz
 | some x =>
  obtain⟨y,e2,h2⟩:=step _ _ _ m1 x e1
  obtain⟨z,hz,h1⟩:=step _ _ _ m2 y e2
  rw[e1] at hz;cases hz
  rw[e2]
  show absI ((if roof<x then roof else x)-(if roof<y then roof else y))<=_
  unfold absI
  by_cases c1:roof<x
  ·rw[uhd c1]
   by_cases c2:roof<y
   ·rw[uhd c2];split <;> left
   ·rw[uhe c2];split <;> left
  ·rw[uhe c1]
   by_cases c2:roof<y
   ·rw[uhd c2];split <;> left
   ·rw[uhe c2];split <;> left
theorem fN:∀ hs:List Int,PyData.canLayAll0 (hs.map .int)=true
 | []=>rfl
 | t::r=>by
  show (PyData.canLay0 (.int t)&&PyData.canLayAll0 (r.map .int))=true
  rw[fN r]
  rfl
theorem jF:∀ hs:List Int,ue2 (hs.map .int)<=1
 | []=>p7 _
 | t::r=>by
  show max (ue3 (.int t)) (ue2 (r.map .int))<=1
  have h1:=jF r
  have h2:ue3 (.int t)<=1:=uao (udx (by rfl:ue3 (.int t)=0)) (by decide)
  left
inductive spAcross_i (K:b8)(vs:List V)(H:Hp)(Q:VK):Prop
 | mk:∀ (n:Int)(ts:List Tie)(wv:V)(k:Nat)(p:l7)(hs:List Int),(vs=[wv,.int (k:Int),.ref p])->(Is K H (webD n ts) wv)->(WebOk n ts)->(k<ts.length)->(IntT H p hs)->(hs.length=n.toNat)->(Q (.int (acrossI ts hs k)) H)->spAcross_i K vs H Q
def spAcross (K:b8):Sp:=λ vs H Q _=>spAcross_i K vs H Q
inductive spHold_i (K:b8)(vs:List V)(H:Hp)(Q:VK):Prop
 | mk:∀ n ts ks wv kv p hs,(vs=[wv,kv,.ref p])->(WK K H n ts ks wv kv)->(IntT H p hs)->(∀ H',Same H H'->Q (.bl (holdB n ts ks hs)) H')->spHold_i K vs H Q
def spHold (K:b8):Sp:=λ vs H Q _=>spHold_i K vs H Q
inductive spHFrom_i (K:b8)(vs:List V)(H:Hp)(Q:VK):Prop
 | mk:∀ n ts ks wv kv a roof,(vs=[wv,kv,.int a,.int roof])->(WK K H n ts ks wv kv)->(0<=a)->(a<n)->(∀ (p:l7)(D:List (Option Int))(H':Hp),Same H H'->H' p=some (.tup ((D.map (capO roof)).map V.int))->D.length=n.toNat->(∀ v,v<n.toNat->Far.Dst (arcs ts ks) a.toNat v (Far.get D v))->Q (.ref p) H')->spHFrom_i K vs H Q
def spHFrom (K:b8):Sp:=λ vs H Q _=>spHFrom_i K vs H Q
section
variable {g:TG}{te:TE}{own:List Str}{js:List Nat}{σ:L2.St}{H1:Hp}{Q:VK}
end
section
variable {J:It}{g:TG}{tt:TT}{te:TE}{own:List Str}{js:List Nat}{σ:L2.St}{H1:Hp}{Q:VK}
theorem zbb (n:Nat)(Sg:L2.St->Prop)(sel:Nat->Option V)(hn:n<=1000)(h0:Sg (start3 own js σ))
  (go:∀ i H',i<n->Same H1 H'->J.go i H') (stop:∀ H',Same H1 H'->J.stop n H')
  (step:∀ i x σ' H' H2,i<n->Same H1 H'->J.yld i H' x H2->Sg σ'->∀ (C:L2.St->V->Hp->Prop)(L:L2.St->Hp->Prop),(∀ σ3 v H5,Sg σ3->Same H' H5->sel i=some v->C σ3 v H5)->(∀ σ3 H5,Sg σ3->Same H' H5->sel i=none->L σ3 H5) ->
   g x σ' H2 λ σ3 H3=>tt σ3 H3 λ b H4=>if b=true then te σ3 H4 λ v H5=>C σ3 v H5 else L σ3 H4)
  (fin:∀ D H',H1 D=none->Same H1 H'->H' D=some (.lst ((d8 n).filterMap sel))->Q (.ref D) H'):CompGo own js g tt te σ Q J H1:=by
 intro D hD
 refine⟨λ i m ys σ' H'=>m=n-i/\i<=n/\Sg σ'/\Same H1 H'/\ys=(d8 i).filterMap sel,⟨n,rfl,p7 _,h0,aT hD,rfl⟩,?_⟩
 rintro i m ys σ' H' ⟨rfl,hi,sg,sm,rfl⟩ hd
 have len:((d8 i).filterMap sel).length<=i:=by have:=List.length_filterMap_le sel (d8 i);rw[v4] at this;exact this
 by_cases hlt:i<n
 ·refine .inr ⟨go i H' hlt sm,λ x H2 hy=>?_⟩
  refine step i x σ' H' H2 hlt sm hy sg
   (λ σ3 v H5=>H5 D=some (.lst ((d8 i).filterMap sel))/\((d8 i).filterMap sel).length<r9/\∃ m',m'<n-i/\(m'=n-(i+1)/\i+1<=n/\Sg σ3/\Same H1 (upd H5 D (.lst ((d8 i).filterMap sel++[v])))/\(d8 i).filterMap sel++[v]=(d8 (i+1)).filterMap sel))
   (λ σ3 H5=>H5 D=some (.lst ((d8 i).filterMap sel))/\∃ m',m'<n-i/\(m'=n-(i+1)/\i+1<=n/\Sg σ3/\Same H1 H5/\(d8 i).filterMap sel=(d8 (i+1)).filterMap sel)) (λ σ3 v H5 sg3 s5 e=>?_) (λ σ3 H5 sg3 s5 e=>?_)
  ·refine⟨s5 _ _ hd,ucy (by left:((d8 i).filterMap sel).length<=1000) (by decide),n-(i+1),by left,rfl,hlt,sg3,λ b o z=>?_,?_⟩
   ·rw[aN (bB z hD)];exact s5 _ _ (sm _ _ z)
   ·rw[ubg,List.filterMap_append];simp [e]
  ·refine⟨s5 _ _ hd,n-(i+1),by left,rfl,hlt,sg3,sm.trans s5,?_⟩
   rw[ubg,List.filterMap_append];simp [e]
 ·have e:i=n:=by left
  subst e
  exact .inl ⟨stop H' sm,fin D H' hD sm hd⟩
end
def natV (ns:List Nat):List V:=ns.map λ v:Nat=>V.int (v:Int)
theorem cJ (ns:List Nat):natV ns=(keepI ns).map V.int:=by unfold natV keepI;rw[uaj];rfl
theorem jN (p:Nat->Bool):∀ is:List Nat,is.filterMap (λ i=>if p i=true then some (V.int (i:Int)) else none)=natV (is.filter p)
 | []=>rfl
 | i::r=>by
  rw[ucq,ude]
  cases e:p i with
  | true=>rw[uhd rfl,uhd rfl,jN p r];rfl
  | false=>rw[uhe j6,uhe j6,jN p r]
theorem pR {a:Int}(h:0<=a)(ns:List Nat):inV (.int a) (natV ns)=decide (a.toNat∈ns):=by
 unfold inV natV
 rw[List.any_map,ucj,udf,decide_eq_true_iff]
 constructor
 ·rintro ⟨v,hv,e⟩
  have e':((v:Int)==a)=true:=e
  have:(v:Int)=a:=by simpa using e'
  have e2:a.toNat=v:=by left
  rw[e2];exact hv
 ·intro m
  exact⟨_,m,show (((a.toNat:Nat):Int)==a)=true by rw[uaf h];simp⟩
theorem nY (ns:List Nat):(natV ns).all flatV=true:=by
 unfold natV;rw[ucd];exact uas.mpr λ _ _=>rfl
end L3
namespace Srt
open PySem PySem.Spec PyProof.Rows PySem.W
section
variable {prog:l9}{w:uak}{A:uae}{E:c9->d7->Prop}{s:d7}
end
end Srt
namespace HT
open PySem PyProof.Rows
section
variable {prog:l9}{w:uak}{A:uae}{E:c9->d7->Prop}{s:d7}
theorem wH {Q:List c9->d7->Prop}{r:l7}{a b c:Int}{t u v:Tok}{n:Nat}(hh:A.handled=none)(hr:IsRange s.heap r a b c t u v)(hsmall:Builtin.Range.small a b c=true)
  (hn:Builtin.Range.rangeSize a b c=n) (hlen:n<=2^24)
  (hQ:∀ h' tk acc',(∀ b o,s.heap.get? b=some o->h'.get? b=some o)->ItemsOf (λ i v=>∃ t,v=.int (a+i*c) t) acc' n->Q acc'.toList { s with heap:=h',toks:=tk }) :
  j9 (o9 prog w) A (collect (.ref r)) Q E s:=by
 unfold collect
 refine a9 (ufy (uca uf5 ?_))
 rw[Around.under_plainId uf4 _]
 show j9 _ A.in1 (newList [] >>= λ l=>again (.builtin "list.__iadd__" ⟨[l,.ref r],[]⟩)) _ _ s
 refine a9 (ua4 ?_)
 refine f9 ⟨ufb udh _,uca ugn ?_⟩
 rw[Around.under_plainId udh _]
 show j9 _ A.in1 (Builtin.List.listExtendWith (.ref s.heap.objs.size) (.ref r) (.ref s.heap.objs.size)) _ _ _
 have hS:(s.heap.push { cls:=.type "list",data:=.seq ([]:List c9).toArray }).get? s.heap.objs.size=some { cls:=.type "list",data:=.seq #[] }:=i7 _ rfl
 have fin' : ∀ (h' : Heap)(tk : Nat)(acc' : Array c9)(c' : Nat), (∀ b o, s.heap.get? b = some o → h'.get? b = some o) → h'.get? s.heap.objs.size = some { cls := .type "list", dict := none, data := .seq acc' c', slots := #[] } → ItemsOf (λ i v => ∃ t, v = .int (a+i*c) t) acc' n →
     j9 (o9 prog w) A (load s.heap.objs.size >>= λ o=>match o.data with | .seq xs _=>pure xs.toList | _=>unsupported "internal:collect") Q E { s with heap:=h',toks:=tk }:=λ h' tk acc' c' hk hS' hacc=>a9 (wpAny_load hS' (f9 (hQ h' tk acc' hk hacc)))
 refine ub1 (wpAny_extend_range (A:=A) (R:=λ r s'=>r=.ok (.ret (.ref s.heap.objs.size))/\∃ (h':Heap)(tk:Nat)(acc':Array c9)(c':Nat),s'={ s with heap:=h',toks:=tk }/\(∀ b o,s.heap.get? b=some o->h'.get? b=some o)/\h'.get? s.heap.objs.size=some { cls:=.type "list",dict:=none,data:=.seq acc' c',slots:=#[] }/\ItemsOf (λ i v=>∃ t,v=.int (a+i*c) t) acc' n)
  (s:={ s with heap:=s.heap.push { cls:=.type "list",data:=.seq ([]:List c9).toArray } }) hh (c6 _ hr) hsmall hn hlen s.heap.objs.size (.ref s.heap.objs.size) 0 hS λ h' tk acc' c' hk hS' hacc=>⟨rfl,h',tk,acc',c',rfl,λ b o e=>hk b o (j8 (j0 e)) (c6 _ e),hS',hacc⟩) (λ fin s' h=>?_) (λ e s' h=>?_)
 ·cases fin with
  | done f =>
   obtain⟨e,h',tk,acc',c',rfl,h1,h2,h3⟩:=h
   cases e
   exact fin' h' tk acc' c' h1 h2 h3
  | again c'=>exact⟨h.1,udr h.2 λ r s'' hr=>by obtain⟨rfl,h',tk,acc',c',rfl,h1,h2,h3⟩:=hr;exact fin' h' tk acc' c' h1 h2 h3⟩
 ·exact absurd h.1 (by simp)
end
theorem rX (r:l7)(a b c:Int)(t u v:Tok)(n:Nat)(hsmall:Builtin.Range.small a b c=true)(hn:Builtin.Range.rangeSize a b c=n)(hlen:n<=1000) :
  Meets (Builtin.«tuple.__new__» ⟨[.type "tuple",.ref r],[]⟩)
   (λ A R s=>A.handled=none/\IsRange s.heap r a b c t u v/\∀ (h':Heap)(tk:Nat)(acc':Array c9),(∀ b o',s.heap.get? b=some o'->h'.get? b=some o')->ItemsOf (λ i v=>∃ t,v=.int (a+i*c) t) acc' n->R (.ok (.ret (.ref h'.objs.size))) { s with heap:=h'.push { cls:=.type "tuple",data:=.seq acc' },toks:=tk }) :=
 .of_wp λ prog w A R s h=>by
  obtain⟨hp,g,d,tk,os⟩:=s;obtain⟨hh,hr,h⟩:=h
  have hsub:=sub_tuple_self
  have hinit:=init_tuple_lookup
  have hmh:=madeHere_tuple
  have hT:Shared.TypeIs ⟨hp,g,d,tk,os⟩ (.ref r) "range":=⟨_,hr,rfl⟩
  wp_walk using uet hT,wH (A:=A.in1) hh hr hsmall hn (uao hlen (by decide))
  intro h' tk' acc' hk hacc
  show j9 _ _ (Builtin.Tuple.tupleExact acc'.toList.toArray >>= λ v=>ret v) _ _ _
  unfold Builtin.Tuple.tupleExact
  have sz:acc'.size=n:=hacc.1
  refine a9 (ua4 ?_ (by show acc'.toList.toArray.size<=r9;rw[show acc'.toList.toArray=acc' by simp,sz,ubp];left))
  refine f9 ⟨_,rfl,?_⟩
  have e:acc'.toList.toArray=acc':=by simp
  rw[e]
  exact h h' tk' acc' hk hacc
section
variable {prog:l9}{w:uak}{A:uae}{E:c9->d7->Prop}{s:d7}
theorem sF {Q:c9->d7->Prop}{r:l7}{a b c:Int}{t u v:Tok}{n:Nat}(hh:A.handled=none)(hr:IsRange s.heap r a b c t u v)(hsmall:Builtin.Range.small a b c=true)
  (hn:Builtin.Range.rangeSize a b c=n) (hlen:n<=1000)
  (hQ:∀ (h':Heap)(tk:Nat)(acc':Array c9),(∀ b o,s.heap.get? b=some o->h'.get? b=some o)->ItemsOf (λ i v=>∃ t,v=.int (a+i*c) t) acc' n->Q (.ref h'.objs.size) { s with heap:=h'.push { cls:=.type "tuple",data:=.seq acc' },toks:=tk }) :
  j9 (o9 prog w) A (call (.type "tuple") [.ref r]) Q E s :=
 ugt PySem.F.called_tuple (by decide) (PySem.F.typeCall_tuple_1 _) (PySem.F.newCall_tuple_1 _) (λ obj=>PySem.F.args_object_init_2 obj _) PySem.F.entry_tuple_new
  (rX r a b c t u v n hsmall hn hlen) ⟨hh,hr,λ h' tk acc' hk hacc=>⟨⟨_,i7 _ rfl,rfl⟩,hQ h' tk acc' hk hacc⟩⟩
end
end HT
namespace L3
open PySem PySem.Spec PyProof.Rows L2
section
variable {X:Cx}
inductive call_tuple_rng_i  (xs:List V) (H:Hp) (Q:VK):Prop
 | mk:∀ (p:l7)(j:Int),(xs=[.ref p])->(H p=some (.rng 0 j))->(0<=j)->(j<=1000)->(∀ l H',Same H H'->H l=none->H' l=some (.tup (natV (d8 j.toNat)))->Q (.ref l) H')->call_tuple_rng_i xs H Q
theorem kY (hh:X.calm=true):CallR X (.type "tuple") (call_tuple_rng_i):=by
 intro pins s σ H xs us Q I r h
 obtain⟨p,j,rfl,hp,hj0,hj,q⟩:=h
 obtain⟨u,rfl,rx⟩:=vals1 r
 cases rx
 obtain⟨t,u,v,e⟩:=(show ObjOk X.prog X.w H s.heap p (.rng 0 j) from I.hok p _ hp)
 refine HT.sF (n:=j.toNat) (I.ok.hd hh) (show IsRange s.heap p 0 j 1 t u v from e) (small_one (by left) (by left) (by left) (by left)) (by rw[rangeSize_one];split <;> left) (by left) λ h' tk acc hk hacc=>?_
 have I1:Inv X pins σ H { s with heap:=h',toks:=tk }:=I.kept (t':=tk) hk
 have fr:H h'.objs.size=none:=I1.hok.fresh (h9 _)
 refine⟨.ref h'.objs.size,upd H h'.objs.size (.tup (natV (d8 j.toNat))),I1.laid (t':=tk) (o:=.tup (natV (d8 j.toNat))) (λ b o e=>c6 _ e) (h9 _) ⟨?_,acc.toList,?_,(by rw[show acc.toList.toArray=acc by simp];exact⟨_,i7 _ rfl,rfl,⟨_,rfl⟩,rfl⟩)⟩,rfl,q _ _ (aT fr) fr aO⟩
 ·unfold natV;rw[c8,v4,ubp];left
 ·have go:∀ (n:Nat)(l:List c9),l.length=n->(∀ (k:Nat)(v:c9),l[k]?=some v->∃ t,v=Value.int (0+(k:Int)*1) t)->Vals ((d8 n).map λ i:Nat=>V.int (i:Int)) l:=by
   intro n l hl hv
   have gen:∀ (l:List c9)(o:Nat),(∀ (k:Nat)(v:c9),l[k]?=some v->∃ t,v=Value.int ((o+k:Nat):Int) t)->Vals ((List.range' o l.length).map λ i:Nat=>V.int (i:Int)) l:=by
    intro l
    induction l with
    | nil=>intro o _;exact .nil
    | cons x r ih =>
     intro o h
     rw[l6,List.range'_succ,ua1]
     obtain⟨t,ht⟩:=h 0 x rfl
     refine .cons ⟨t,by simpa using ht⟩ (ih (o+1) λ k v hk=>?_)
     obtain⟨t,ht⟩:=h (k+1) v (by simpa using hk)
     exact⟨t,by rw[ht];congr 1;left⟩
   have:=gen l 0 λ k v hk=>by
    obtain⟨t,ht⟩:=hv k v hk
    exact⟨t,by rw[ht];congr 1;left⟩
   rw[hl,← List.range_eq_range'] at this
   exact this
  exact go j.toNat acc.toList (by rw[u6];exact hacc.1) λ k v hv=>hacc.2 k v (by simpa using hv)
end
section
variable {g:TG}{tt:TT}{te:TE}{own:List Str}{js:List Nat}{σ:L2.St}{H1:Hp}{Q:VK}
theorem jG {K:b8}{a:l7}{xs:List V}(hx:H1 a=some (.tup xs))(Sg:L2.St->Prop)(sel:Nat->Option V)(hn:xs.length<=1000)(h0:Sg (start3 own js σ))
  (step:∀ i x σ' H',xs[i]?=some x->Same H1 H'->Sg σ'->∀ (C:L2.St->V->Hp->Prop)(L:L2.St->Hp->Prop),(∀ σ3 v H5,Sg σ3->Same H' H5->sel i=some v->C σ3 v H5)->(∀ σ3 H5,Sg σ3->Same H' H5->sel i=none->L σ3 H5) ->
   g x σ' H' λ σ3 H3=>tt σ3 H3 λ b H4=>if b=true then te σ3 H4 λ v H5=>C σ3 v H5 else L σ3 H4)
  (fin:∀ D H',H1 D=none->Same H1 H'->H' D=some (.lst ((d8 xs.length).filterMap sel))->Q (.ref D) H'):CompGo own js g tt te σ Q (Itt K a) H1:=by
 refine zbb xs.length Sg sel hn h0 (λ i H' hi s=>⟨xs,xs[i],SqT.of (s _ _ hx),by simp [hi]⟩) (λ H' s=>⟨xs,SqT.of (s _ _ hx),h9 _⟩) (λ i x σ' H' H2 hi s hy sg C L hC hL=>?_) fin
 obtain⟨rfl,hy⟩:=hy
 exact step i x σ' _ (hy xs (SqT.of (s _ _ hx))) s sg C L hC hL
end
def outs (m:Nat)(ks:List Nat):List Nat:=(d8 m).filter λ k=>decide (k∉ks)
noncomputable def gO (ts:List Tie)(ks:List Nat)(k:Nat):Option Int :=
 @dite (Option Int) (∃ o,Far.Dst (arcs ts ks) (tieAt ts k).1.toNat (tieAt ts k).2.1.toNat o) (Classical.propDecidable _) (λ h=>Classical.choose h) λ _=>none
inductive spWhole_i (K:b8)(vs:List V)(H:Hp)(Q:VK):Prop
 | mk:∀ n ts v,(vs=[v])->(Is K H (webD n ts) v)->(ts.length<=60)->(∀ l H',Same H H'->H l=none->H' l=some (.tup (natV (d8 ts.length)))->Q (.ref l) H')->spWhole_i K vs H Q
def spWhole (K:b8):Sp:=λ vs H Q _=>spWhole_i K vs H Q
theorem cZ {ns:List Nat}{i:Nat}{x:V}(h:(natV ns)[i]?=some x):∃ k,ns[i]?=some k/\x=.int (k:Int):=by
 rw[cJ] at h;exact iA h
theorem lZ (ns:List Int):∀ i,i<=ns.length->preSum (λ i=>ns.getD i 0) i=(ns.take i).sum
 | 0,_=>rfl
 | i+1,h=>by
  have e:ns[i]?=some ns[i]:=c7 (by left)
  show preSum _ i+ns.getD i 0=_
  rw[lZ ns i (by left),jC e,List.sum_append,a8,e]
  simp
inductive call_sumA_i  (xs:List V) (H:Hp) (Q:VK):Prop
 | mk:∀ (p:l7)(ns:List Int),(xs=[.ref p])->(H p=some (.lst (ns.map V.int)))->(Q (.int ns.sum) H)->call_sumA_i xs H Q
theorem zI {X:Cx}(hh:X.calm=true):CallR X (.builtin "sum") (call_sumA_i):=by
 intro pins s σ H xs us Q I r h
 obtain⟨p,ns,rfl,hq,q⟩:=h
 obtain⟨u,rfl,rx⟩:=vals1 r
 cases rx
 obtain⟨its,rv,pl,hz⟩:=I.list (SqL.of hq)
 have hl:=rv.length
 rw[c8] at hl
 have hI:IntsAre its ns:=dC rv
 have lt:p≠s.heap.objs.size:=by obtain⟨o,e,_⟩:=pl.isList;exact j8 (j0 e)
 refine call_sum_walkAnyS (udc pl.isList ?_)
 have W:=(Walks.list (prog:=X.prog) (w:=X.w) (A:=X.A.in1) (show X.A.in1.handled=none from I.ok.hd hh) s.heap.objs.size p lt its.toArray).toS
 refine⟨s.heap.objs.size,_,_,_,_,_,_,(λ i=>ns.getD i 0),rfl,W,⟨⟨_,i7 _ rfl,rfl,rfl⟩,pl.isList.push _⟩,λ b hb=>?_,λ i v hv=>?_,λ s' t' hm=>?_⟩
 ·obtain⟨o,e,_⟩:=pl.isList
  have hlt:p<s.heap.objs.size:=j0 e
  show b<(s.heap.push _).objs.size
  rw[w8]
  simp only [j4,m8,or_false] at hb
  rcases hb with z | z
  ·rw[z];exact ucu _
  ·rw[z];exact ubd hlt
 ·exact IntsAre.int_at hI i v (by simpa using hv)
 ·rw[Moved.eq_with hm]
  refine⟨.int ns.sum,H,I.kept (t':=s'.toks) λ b o e=>hm.heap b o (λ z=>?_) (c6 _ e),⟨t',?_⟩,q⟩
  ·have:b=s.heap.objs.size:=by simpa using z
   exact absurd (j0 e) (by rw[this];exact ubu _)
  ·rw[show its.toArray.size=ns.length by rw[j5,← hl],lZ ns _ (h9 _),udz]
def oa:Option Nat->V
 | none=>.non
 | some u=>.int (u:Int)
structure RA (H J:Hp)(lw lc la:l7)(ws:List V)(cs:List (Option (Int × Int)))(as:List (Option Nat)):Prop where
 same:Same H J
 fc:H lc=none
 fa:H la=none
 nwc:lw≠lc
 nwa:lw≠la
 nca:lc≠la
 wl:J lw=some (.lst ws)
 co:∃ cvs,J lc=some (.lst cvs)/\CostL J cvs cs
 ah:J la=some (.lst (as.map oa))
section
variable {H H' J J':Hp}{vs cvs ws:List V}{cs:List (Option (Int × Int))}{as:List (Option Nat)}{lw lc la t:l7}{k:Nat}{x y:Int}
theorem RA.step (h:RA H J lw lc la ws cs as)(s:Same J J'):RA H J' lw lc la ws cs as :=
 ⟨h.same.trans s,h.fc,h.fa,h.nwc,h.nwa,h.nca,s _ _ h.wl,let ⟨c,e,z⟩:=h.co;⟨c,s _ _ e,z.keep (oX s)⟩,s _ _ h.ah⟩
theorem RA.put (h:RA H J lw lc la ws cs as)(hc:J lc=some (.lst cvs))(hk:k<cvs.length)(ht:J t=some (.tup [.int x,.int y])):RA H (upd J lc (.lst (cvs.set k (.ref t)))) lw lc la ws (cs.set k (some (x,y))) as:=by
 obtain⟨c,e,z⟩:=h.co
 rw[hc] at e;cases e
 refine⟨λ b o eb=>?_,h.fc,h.fa,h.nwc,h.nwa,h.nca,?_,⟨_,aO,CostL.set (z.keep (fW hc)) hk ⟨t,rfl,fW hc _ _ ht⟩⟩,?_⟩
 ·rw[aN (bB eb h.fc)];exact h.same _ _ eb
 ·rw[aN h.nwc];exact h.wl
 ·rw[aN h.nca.symm];exact h.ah
theorem RA.mark {u:Nat}(h:RA H J lw lc la ws cs as):RA H (upd J la (.lst ((as.map oa).set k (.int (u:Int))))) lw lc la ws cs (as.set k (some u)):=by
 obtain⟨c,e,z⟩:=h.co
 refine⟨λ b o eb=>?_,h.fc,h.fa,h.nwc,h.nwa,h.nca,?_,⟨c,?_,z.keep (fW h.ah)⟩,?_⟩
 ·rw[aN (bB eb h.fa)];exact h.same _ _ eb
 ·rw[aN h.nwa];exact h.wl
 ·rw[aN h.nca];exact e
 ·rw[aO,List.map_set];rfl
end
theorem zeg {D:List (Option Nat)}{i:Nat}(h:i<D.length):(D.map oa)[i]?=some (oa (Far.get D i)):=by
 rw[i8,c7 h]
 unfold Far.get
 rw[a8,c7 h];rfl
def WayV (H:Hp)(A:List (Nat × Nat × Int))(a b:Nat)(v:V):Prop:=(v=.non/\Far.Dst A a b none)\/∃ t ws x,v=.ref t/\H t=some (.tup (natV ws))/\ws.length<=24/\Far.Tr A a ws b x/\Far.Dst A a b (some x)
def isTB (ts:List Tie)(u v:Nat)(k:Nat):Bool:=decide ((tieAt ts k).1=min (u:Int) v)&&decide ((tieAt ts k).2.1=max (u:Int) v)
def tbN (ts:List Tie)(u v:Nat):Option Nat:=(d8 ts.length).find? (isTB ts u v)
theorem zdg {n:Int}{ts:List Tie}{ks:List Nat}(ok:WebOk n ts)(ko:KeepOk ts.length ks){u v:Nat}{l:Int}(h:(u,v,l)∈arcs ts ks):∃ k,tbN ts u v=some k/\k<ts.length/\(tieAt ts k).2.2=l:=by
 obtain⟨k,hk,m⟩:=arcs_mem.mp h
 have hkl:=ko.2 k hk
 have tk:=ok.tie _ (bF hkl).2
 have isk:isTB ts u v k=true/\(tieAt ts k).2.2=l:=by
  unfold isTB
  rcases arcs2_mem.mp m with e | e
  ·have e1:u=(tieAt ts k).1.toNat:=congrArg (·.1) e
   have e2:v=(tieAt ts k).2.1.toNat:=congrArg (·.2.1) e
   have e3:l=(tieAt ts k).2.2:=congrArg (·.2.2) e
   have eu:(u:Int)=(tieAt ts k).1:=by rw[e1];exact uaf tk.1
   have ev:(v:Int)=(tieAt ts k).2.1:=by rw[e2];exact uaf (uap (Int.lt_of_le_of_lt tk.1 tk.2.1))
   rw[eu,ev,Int.min_eq_left (uap tk.2.1),Int.max_eq_right (uap tk.2.1)]
   exact⟨by rw[uha rfl,uha rfl];rfl,e3.symm⟩
  ·have e1:u=(tieAt ts k).2.1.toNat:=congrArg (·.1) e
   have e2:v=(tieAt ts k).1.toNat:=congrArg (·.2.1) e
   have e3:l=(tieAt ts k).2.2:=congrArg (·.2.2) e
   have eu:(u:Int)=(tieAt ts k).2.1:=by rw[e1];exact uaf (uap (Int.lt_of_le_of_lt tk.1 tk.2.1))
   have ev:(v:Int)=(tieAt ts k).1:=by rw[e2];exact uaf tk.1
   rw[eu,ev,Int.min_eq_right (uap tk.2.1),Int.max_eq_left (uap tk.2.1)]
   exact⟨by rw[uha rfl,uha rfl];rfl,e3.symm⟩
 cases e:tbN ts u v with
 | none =>
  have:=udn.mp e k (o8.mpr hkl)
  exact absurd isk.1 this
 | some k' =>
  have p:=uc3 e
  have hk':k'<ts.length:=o8.mp (ubh e)
  refine⟨k',rfl,hk',?_⟩
  have same:k'=k:=by
   have q1:=p
   have q2:=isk.1
   unfold isTB at q1 q2
   rw[o7] at q1 q2
   have a1:=uhb q1.1
   have a2:=uhb q1.2
   have b1:=uhb q2.1
   have b2:=uhb q2.2
   have ri:=ua8.mp ok.rise
   have g:∀ j (hj:j<ts.length),ts[j]=tieAt ts j:=λ j hj=>by
    have:=(bF hj).1
    rw[c7 hj] at this
    exact uav this
   rcases uer k' k with z | z | z
   ·have:=ri k' k hk' hkl z
    rw[g k' hk',g k hkl] at this
    exact (this.elim (λ z=>uf7 z (a1.trans b1.symm)) λ z=>uf7 z.2 (a2.trans b2.symm)).elim
   ·exact z
   ·have:=ri k k' hkl hk' z
    rw[g k' hk',g k hkl] at this
    exact (this.elim (λ z=>uf7 z (b1.trans a1.symm)) λ z=>uf7 z.2 (b2.trans a2.symm)).elim
  rw[same];exact isk.2
def tlen (ts:List Tie)(u v:Nat):Int:=(tieAt ts ((tbN ts u v).getD 0)).2.2
def wl (ts:List Tie):List Nat->Int
 | u::v::r=>tlen ts u v+wl ts (v::r)
 | _=>0
def linked (ts:List Tie):List Nat->Prop
 | u::v::r=>(∃ k,tbN ts u v=some k/\k<ts.length)/\linked ts (v::r)
 | _=>True
theorem gX {A:List (Nat × Nat × Int)}{a v:Nat}{ws:List Nat}{x:Int}(h:Far.Tr A a ws v x):∃ r,ws=r++[v]:=by
 cases h with
 | one=>exact⟨[],rfl⟩
 | snoc _ _=>exact⟨_,rfl⟩
theorem oS (ts:List Tie)(u v:Nat):∀ r:List Nat,wl ts (r++[u]++[v])=wl ts (r++[u])+tlen ts u v
 | []=>by show tlen ts u v+0=0+tlen ts u v;left
 | [a]=>by show tlen ts a u+(tlen ts u v+0)=tlen ts a u+0+tlen ts u v;left
 | a::b::r=>by
  have:=oS ts u v (b::r)
  show tlen ts a b+wl ts ((b::r)++[u]++[v])=tlen ts a b+wl ts ((b::r)++[u])+tlen ts u v
  rw[this];left
theorem lH (ts:List Tie)(u v:Nat)(h:∃ k,tbN ts u v=some k/\k<ts.length):∀ r:List Nat,linked ts (r++[u])->linked ts (r++[u]++[v])
 | [],_=>⟨h,trivial⟩
 | [a],hl=>⟨hl.1,h,trivial⟩
 | a::b::r,hl=>⟨hl.1,lH ts u v h (b::r) hl.2⟩
theorem fZ {n:Int}{ts:List Tie}{ks:List Nat}(ok:WebOk n ts)(ko:KeepOk ts.length ks){a v:Nat}{ws:List Nat}{x:Int}(h:Far.Tr (arcs ts ks) a ws v x):wl ts ws=x/\linked ts ws:=by
 induction h with
 | one=>exact⟨rfl,trivial⟩
 | @snoc ws u v x l t m ih =>
  obtain⟨r,rfl⟩:=gX t
  obtain⟨k,e1,e2,e3⟩:=zdg ok ko m
  refine⟨?_,lH ts u v ⟨k,e1,e2⟩ r ih.2⟩
  rw[oS,ih.1]
  unfold tlen
  rw[e1]
  show x+(tieAt ts k).2.2=x+l
  rw[e3]
theorem fF {ts:List Tie}:∀ {ws:List Nat}{i u v:Nat},linked ts ws->ws[i]?=some u->ws[i+1]?=some v->∃ k,tbN ts u v=some k/\k<ts.length
 | a::b::r,0,u,v,h,e1,e2=>by cases e1;cases e2;exact h.1
 | a::b::r,i+1,u,v,h,e1,e2=>fF (ws:=b::r) (i:=i) h.2 (by simpa using e1) (by simpa using e2)
 | [a],0,u,v,_,_,e2=>by cases e2
 | [a],i+1,u,v,_,e1,_=>by cases e1
 | [],i,u,v,_,e1,_=>by cases e1
def alongN (ts:List Tie)(ws:List Nat):List Nat:=(d8 (ws.length-1)).map λ i=>(tbN ts (ws.getD i 0) (ws.getD (i+1) 0)).getD 0
theorem xP (ts:List Tie)(u v:Nat)(r:List Nat):alongN ts (u::v::r)=(tbN ts u v).getD 0::alongN ts (v::r):=by
 unfold alongN
 show (d8 (r.length+1)).map _=_
 rw[List.range_succ_eq_map,ua1,uaj]
 rfl
theorem mV (ts:List Tie):∀ ws:List Nat,((alongN ts ws).map λ k=>(tieAt ts k).2.2).sum=wl ts ws
 | []=>rfl
 | [_]=>rfl
 | u::v::r=>by
  rw[xP,ua1,uc5,mV ts (v::r)];rfl
inductive spTB_i (K:b8)(vs:List V)(H:Hp)(Q:VK):Prop
 | mk:∀ (n:Int)(ts:List Tie)(wv:V)(u v:Nat),(vs=[wv,.int (u:Int),.int (v:Int)])->(Is K H (webD n ts) wv)->(ts.length<=60)->(∀ H',Same H H'->Q (oa (tbN ts u v)) H')->spTB_i K vs H Q
def spTB (K:b8):Sp:=λ vs H Q _=>spTB_i K vs H Q
inductive spAlong_i (K:b8)(vs:List V)(H:Hp)(Q:VK):Prop
 | mk:∀ (n:Int)(ts:List Tie)(wv:V)(t:l7)(ws:List Nat),(vs=[wv,.ref t])->(Is K H (webD n ts) wv)->(ts.length<=60)->(H t=some (.tup (natV ws)))->(ws.length<=24)->(linked ts ws)->(∀ l H',Same H H'->H' l=some (.lst (natV (alongN ts ws)))->Q (.ref l) H')->spAlong_i K vs H Q
def spAlong (K:b8):Sp:=λ vs H Q _=>spAlong_i K vs H Q
inductive spWLen_i (K:b8)(vs:List V)(H:Hp)(Q:VK):Prop
 | mk:∀ (n:Int)(ts:List Tie)(wv:V)(t:l7)(ws:List Nat),(vs=[wv,.ref t])->(Is K H (webD n ts) wv)->(ts.length<=60)->(H t=some (.tup (natV ws)))->(ws.length<=24)->(linked ts ws)->(∀ H',Same H H'->Q (.int (wl ts ws)) H')->spWLen_i K vs H Q
def spWLen (K:b8):Sp:=λ vs H Q _=>spWLen_i K vs H Q
theorem jS {ts:List Tie}{ws:List Nat}(h:linked ts ws):∀ k∈alongN ts ws,k<ts.length:=λ k hk=>by
 unfold alongN at hk
 obtain⟨i,hi,rfl⟩:=uau.mp hk
 have hi':=o8.mp hi
 have e1:ws[i]?=some (ws.getD i 0):=by rw[a8,c7 (by left)];rfl
 have e2:ws[i+1]?=some (ws.getD (i+1) 0):=by rw[a8,c7 (by left)];rfl
 obtain⟨k,e,hk⟩:=fF h e1 e2
 rw[e];exact hk
theorem zan (a b x y:Int):ue5 (.tuple (([a,b]:List Int).map .int)) (.tuple (([x,y]:List Int).map .int))=(decide (a=x)&&decide (b=y)):=by
 show (_&&(_&&true))=_
 rw[ug9]
 rfl
def but (ks:List Nat)(k:Nat):List Nat:=ks.filter λ j=>decide (j≠k)
theorem nJ (p:Nat->Bool)(ks:List Nat):(d8 ks.length).filterMap (λ i=>if p (ks.getD i 0)=true then some (V.int ((ks.getD i 0:Nat):Int)) else none)=natV (ks.filter p):=by
 have e:=congrArg (List.filterMap λ j:Nat=>if p j=true then some (V.int (j:Int)) else none) (cC ks 0)
 rw[ufs] at e
 exact e.trans (jN p ks)
def withinB (t l:Int):Option Int->Bool
 | none=>false
 | some x=>decide (x<=t*l)
end L3
namespace Far
variable {B:List Arc}{A:List (Nat × Nat × Int)}{n s:Nat}
structure Run (B:List Arc)(s:Nat)(cs:List (Option (Int × Int)))(as:List (Option Nat)):Prop where
 len:as.length=cs.length
 start:get cs s=some (0,0)
 root:get as s=none
 has:∀ v c,get cs v=some c->v≠s->get as v≠none
 arc:∀ v u,get as v=some u->∃ l k cu cv,(u,v,l,k)∈B/\get cs u=some cu/\get cs v=some cv/\¬ lt2 cv (cu.1+l,cu.2+2^k)
theorem Run.step {u v:Nat}{l:Int}{k:Nat}{cs:List (Option (Int × Int))}{as:List (Option Nat)}{c:Int × Int}(P:Pos A)(g:Good A n s cs)(a:Run B s cs as)(m:(u,v,l)∈A)(mB:(u,v,l,k)∈B)(hv:v<n)(hu:get cs u=some c)
  (h:get cs v=none\/∃ c',get cs v=some c'/\lt2 (c.1+l,c.2+2^k) c'):Run B s (cs.set v (some (c.1+l,c.2+2^k))) (as.set v (some u)):=by
 have hc:v<cs.length:=by rw[g.len];exact hv
 have ha:v<as.length:=by rw[a.len];exact hc
 have l1:=P _ _ _ m
 have c0:=(g.walk _ _ hu).nonneg P
 have vs:v≠s:=λ z=>by
  rw[z] at h
  rcases h with h | ⟨c',h,hl⟩
  ·rw[a.start] at h;cases h
  ·rw[a.start] at h;cases h
   unfold lt2 at hl;simp only at hl;left
 have uv:u≠v:=λ z=>by
  rcases h with h | ⟨c',h,hl⟩
  ·rw[← z,hu] at h;cases h
  ·rw[← z,hu] at h;cases h
   unfold lt2 at hl;simp only at hl;left
 refine⟨by rw[ubt,ubt];exact a.len,by rw[bA hc,uhe (Ne.symm vs)];exact a.start,?_,λ x d e hx=>?_,λ x y e=>?_⟩
 ·rw[bA ha,uhe (Ne.symm vs)];exact a.root
 ·rw[bA ha]
  split
  ·exact λ z=>by cases z
  ·rename_i xv
   rw[bA hc,uhe xv] at e
   exact a.has x d e hx
 ·rw[bA ha] at e
  split at e
  ·rename_i z;subst z;cases e
   refine⟨l,k,c,_,mB,by rw[bA hc,uhe uv];exact hu,by rw[bA hc,uhd rfl],λ z=>?_⟩
   unfold lt2 at z;left
  ·rename_i xv
   obtain⟨l',k',cu,cv,m',e1,e2,hle⟩:=a.arc x y e
   by_cases yv:y=v
   ·subst yv
    refine⟨l',k',_,cv,m',by rw[bA hc,uhd rfl],by rw[bA hc,uhe xv];exact e2,λ z=>?_⟩
    rcases h with h | ⟨c',h,hl⟩
    ·rw[h] at e1;cases e1
    ·rw[h] at e1;cases e1
     unfold lt2 at hl hle z
     simp only at hl hle z
     left
   ·exact⟨l',k',cu,cv,m',by rw[bA hc,uhe yv];exact e1,by rw[bA hc,uhe xv];exact e2,hle⟩
theorem Run.first (hs:s<n):Run B s ((l8 n none).set s (some (0,0))) (l8 n none):=by
 have hl:s<(l8 n (none:Option (Int × Int))).length:=by rw[uaa];exact hs
 refine⟨by rw[ubt,uaa,uaa],by rw[bA hl,uhd rfl],dX _ _,λ v c e hv=>?_,λ v u e=>?_⟩
 ·rw[bA hl,uhe hv,dX] at e;cases e
 ·rw[dX] at e;cases e
def Stab2 (B:List Arc)(cs:List (Option (Int × Int))):Prop:=∀ u v l k c,(u,v,l,k)∈B->get cs u=some c->∃ c',get cs v=some c'/\¬ lt2 (c.1+l,c.2+2^k) c'
def PS2 (c0:List (Option (Int × Int)))(R:Arc->Prop)(cs:List (Option (Int × Int)))(ag:Bool):Prop :=
 (ag=false/\cs=c0/\∀ u v l k c,R (u,v,l,k)->get c0 u=some c->∃ c',get c0 v=some c'/\¬ lt2 (c.1+l,c.2+2^k) c')\/(ag=true/\mu cs<mu c0)
def plusA (R:Arc->Prop)(a:Arc):Arc->Prop:=λ b=>R b\/b=a
section
variable {c0 cs:List (Option (Int × Int))}{R R':Arc->Prop}{ag:Bool}{u v k:Nat}{l:Int}
theorem PS2.less (h:PS2 c0 R cs ag)(z:∀ a,R' a->R a):PS2 c0 R' cs ag:=h.elim (λ ⟨a,b,c⟩=>.inl ⟨a,b,λ u v l k c' y=>c u v l k c' (z _ y)⟩) .inr
theorem PS2.no (h:PS2 c0 R cs ag)(hu:get cs u=none):PS2 c0 (plusA R (u,v,l,k)) cs ag:=by
 rcases h with ⟨a,b,c⟩ | h
 ·refine .inl ⟨a,b,λ u' v' l' k' c' z e=>?_⟩
  rcases z with z | z
  ·exact c _ _ _ _ _ z e
  ·cases z;rw[← b,hu] at e;cases e
 ·exact .inr h
theorem PS2.old (h:PS2 c0 R cs ag){c d:Int × Int}(hu:get cs u=some c)(hv:get cs v=some d)(hn:¬ lt2 (c.1+l,c.2+2^k) d):PS2 c0 (plusA R (u,v,l,k)) cs ag:=by
 rcases h with ⟨a,b,z⟩ | h
 ·refine .inl ⟨a,b,λ u' v' l' k' c' y e=>?_⟩
  rcases y with y | y
  ·exact z _ _ _ _ _ y e
  ·cases y
   subst b
   rw[hu] at e;cases e
   exact⟨d,hv,hn⟩
 ·exact .inr h
theorem PS2.put (h:PS2 c0 R cs ag){cs':List (Option (Int × Int))}(hm:mu cs'<mu cs):PS2 c0 (plusA R (u,v,l,k)) cs' true:=by
 rcases h with ⟨a,b,c⟩ | h
 ·exact .inr ⟨rfl,by rw[← b];exact hm⟩
 ·exact .inr ⟨rfl,Nat.lt_trans hm h.2⟩
end
theorem Run.best {cs:List (Option (Int × Int))}{as:List (Option Nat)}(P:Pos A)(g:Good A n s cs)(r:Run B s cs as)(st:Stab2 B cs):Best B n s cs as:=by
 refine⟨g.len,by rw[r.len];exact g.len,r.start,r.root,r.has,λ v c e=>(g.walk v c e).nonneg P,st,λ v u e=>?_⟩
 obtain⟨l,k,cu,cv,m,e1,e2,n1⟩:=r.arc v u e
 obtain⟨c',e3,n2⟩:=st _ _ _ _ _ m e1
 rw[e2] at e3;cases e3
 refine⟨l,k,cu,m,e1,?_⟩
 rw[e2]
 congr 1
 unfold lt2 at n1 n2
 simp only at n1 n2
 exact Prod.ext (by show cv.1=cu.1+l;left) (by show cv.2=cu.2+2^k;left)
end Far
namespace L3
open PySem PySem.Spec PyProof.Rows L2
def arcs2B (t:Tie)(k:Nat):List Far.Arc:=[(t.1.toNat,t.2.1.toNat,t.2.2,k),(t.2.1.toNat,t.1.toNat,t.2.2,k)]
def arcsB (ts:List Tie)(ks:List Nat):List Far.Arc:=ks.flatMap λ k=>arcs2B (tieAt ts k) k
theorem arcsB_mem {ts:List Tie}{ks:List Nat}{a:Far.Arc}:a∈arcsB ts ks↔∃ k,k∈ks/\a∈arcs2B (tieAt ts k) k:=by
 unfold arcsB;rw[ucb]
theorem arcs2B_mem {t:Tie}{k:Nat}{a:Far.Arc}:a∈arcs2B t k↔a=(t.1.toNat,t.2.1.toNat,t.2.2,k)\/a=(t.2.1.toNat,t.1.toNat,t.2.2,k):=by
 unfold arcs2B;simp
theorem xO {ts:List Tie}{ks:List Nat}{i k:Nat}(h:ks[i]?=some k){a:Far.Arc}(m:a∈arcsB ts (ks.take (i+1))):a∈arcsB ts (ks.take i)\/a∈arcs2B (tieAt ts k) k:=by
 obtain⟨j,hj,m⟩:=arcsB_mem.mp m
 rw[jC h] at hj
 rcases u4.mp hj with hj | hj
 ·exact .inl (arcsB_mem.mpr ⟨j,hj,m⟩)
 ·rw[k8.mp hj] at m;exact .inr m
theorem eH {n:Int}{ts:List Tie}{ks:List Nat}(ok:WebOk n ts)(ko:KeepOk ts.length ks):Far.Keys (arcsB ts ks):=by
 have at_:∀ {u v l k},(u,v,l,k)∈arcsB ts ks->k<ts.length/\((u=(tieAt ts k).1.toNat/\v=(tieAt ts k).2.1.toNat)\/(u=(tieAt ts k).2.1.toNat/\v=(tieAt ts k).1.toNat))/\l=(tieAt ts k).2.2/\k∈ks:=λ {u v l k} h=>by
  obtain⟨j,hj,m⟩:=arcsB_mem.mp h
  rcases arcs2B_mem.mp m with e | e <;> cases e
  ·exact⟨ko.2 _ hj,.inl ⟨rfl,rfl⟩,rfl,hj⟩
  ·exact⟨ko.2 _ hj,.inr ⟨rfl,rfl⟩,rfl,hj⟩
 refine⟨λ u v l k h=>?_,λ u v l u' v' l' k h h'=>?_,λ u v l k h=>?_,λ u v l k h=>?_,λ u v l k h=>?_⟩
 ·obtain⟨_,e,rfl,hk⟩:=at_ h
  refine arcsB_mem.mpr ⟨k,hk,arcs2B_mem.mpr ?_⟩
  rcases e with ⟨rfl,rfl⟩ | ⟨rfl,rfl⟩
  ·exact .inr rfl
  ·exact .inl rfl
 ·obtain⟨_,e,rfl,_⟩:=at_ h
  obtain⟨_,e',rfl,_⟩:=at_ h'
  refine⟨rfl,?_⟩
  rcases e with ⟨rfl,rfl⟩ | ⟨rfl,rfl⟩ <;> rcases e' with ⟨rfl,rfl⟩ | ⟨rfl,rfl⟩
  ·exact .inl ⟨rfl,rfl⟩
  ·exact .inr ⟨rfl,rfl⟩
  ·exact .inr ⟨rfl,rfl⟩
  ·exact .inl ⟨rfl,rfl⟩
 ·obtain⟨hk,e,_,_⟩:=at_ h
  have:=ok.tie _ (bF hk).2
  rcases e with ⟨rfl,rfl⟩ | ⟨rfl,rfl⟩ <;> left
 ·obtain⟨hk,_,e,_⟩:=at_ h
  have:=ok.tie _ (bF hk).2
  left
 ·obtain⟨hk,_⟩:=at_ h
  have:=ok.few
  left
theorem oR {n:Int}{ts:List Tie}{ks:List Nat}(ok:WebOk n ts)(ko:KeepOk ts.length ks){u v k:Nat}{l:Int}(h:(u,v,l,k)∈arcsB ts ks):u<n.toNat/\v<n.toNat:=by
 obtain⟨j,hj,m⟩:=arcsB_mem.mp h
 have:=ok.tie _ (bF (ko.2 j hj)).2
 rcases arcs2B_mem.mp m with e | e <;> cases e <;> left
inductive spReachedB_i (K:b8)(vs:List V)(H:Hp)(Q:VK):Prop
 | mk:∀ n ts ks wv kv r,(vs=[wv,kv,.int r])->(WK K H n ts ks wv kv)->(0<=r)->(r<n)->(∀ (p lc la:l7)(cvs:List V)(as:List (Option Nat))(cs:List (Option (Int × Int)))(H':Hp),Same H H'->H' p=some (.tup [.ref lc,.ref la])->H' lc=some (.lst cvs)->H' la=some (.lst (as.map oa))->CostL H' cvs cs->Far.Best (arcsB ts ks) n.toNat r.toNat cs as->Q (.ref p) H')->spReachedB_i K vs H Q
def spReachedB (K:b8):Sp:=λ vs H Q _=>spReachedB_i K vs H Q
inductive spTreeB_i (K:b8)(vs:List V)(H:Hp)(Q:VK):Prop
 | mk:∀ n ts ks wv kv r,(vs=[wv,kv,.int r])->(WK K H n ts ks wv kv)->(0<=r)->(r<n)->(∀ (p:l7)(as:List (Option Nat))(cs:List (Option (Int × Int)))(H':Hp),Same H H'->H' p=some (.tup (as.map oa))->Far.Best (arcsB ts ks) n.toNat r.toNat cs as->Q (.ref p) H')->spTreeB_i K vs H Q
def spTreeB (K:b8):Sp:=λ vs H Q _=>spTreeB_i K vs H Q
def WayB (H:Hp)(B:List Far.Arc)(n a b:Nat)(v:V):Prop:=∃ cs as,Far.Best B n b cs as/\((v=.non/\Far.get cs a=none)\/∃ t ws c,v=.ref t/\H t=some (.tup (natV ws))/\ws.length<=24/\Far.get cs a=some c/\Far.TPw as b ws.reverse a)
inductive spWayB_i (K:b8)(vs:List V)(H:Hp)(Q:VK):Prop
 | mk:∀ n ts ks wv kv a b,(vs=[wv,kv,.int a,.int b])->(WK K H n ts ks wv kv)->(0<=a)->(a<n)->(0<=b)->(b<n)->(∀ v H',Same H H'->WayB H' (arcsB ts ks) n.toNat a.toNat b.toNat v->Q v H')->spWayB_i K vs H Q
def spWayB (K:b8):Sp:=λ vs H Q _=>spWayB_i K vs H Q
theorem kZ (val:Nat->Int):∀ i,(firstMet val i).length=i↔((d8 i).map val).Nodup
 | 0=>by rw[firstMet_zero];simp
 | i+1=>by
  have ih:=kZ val i
  have le:=firstMet_length_le val i
  have an:=firstMet_any val i (val i)
  rw[firstMet_succ,ubg,ubs,ubm]
  unfold step_dedup
  by_cases c:(firstMet val i).any (λ y=>y==val i)=true
  ·rw[uhd c]
   constructor
   ·intro z;left
   ·rintro ⟨_,_,z⟩
    rw[an,udf] at c
    obtain⟨y,hy,e⟩:=c
    exact absurd (by simpa using e) (z y hy (val i) (by simp))
  ·rw[uhe c,i6,t6]
   constructor
   ·intro z
    refine⟨ih.mp (by left),by simp,λ a ha b hb e=>c ?_⟩
    rw[an,udf]
    have:b=val i:=by simpa using hb
    exact⟨a,ha,by rw[e,this];simp⟩
   ·rintro ⟨z,_⟩
    rw[ih.mpr z]
theorem lM (ns:List Int):HT.setN ns ns.length=ns.length↔ns.Nodup:=by
 have:=kZ (λ i=>ns.getD i 0) ns.length
 rw[cC] at this
 exact this
section
variable {X:Cx}
inductive call_setT_i  (xs:List V) (H:Hp) (Q:VK):Prop
 | mk:∀ (p:l7)(ns:List Int),(xs=[.ref p])->(H p=some (.tup (ns.map V.int)))->(ns.length<=1000)->(∀ q H',Same H H'->H q=none->H' q=some (.set (HT.setS ns ns.length) (HT.setN ns ns.length))->Q (.ref q) H')->call_setT_i xs H Q
theorem zJ (hh:X.calm=true):CallR X (.type "set") (call_setT_i):=by
 intro pins s σ H xs us Q I r h
 obtain⟨p,ns,rfl,hp,hl,q⟩:=h
 obtain⟨u,rfl,rx⟩:=vals1 r
 cases rx
 obtain⟨its,rv,pt,hz⟩:=I.tuple (SqT.of hp)
 have hlen:=rv.length
 rw[c8] at hlen
 have fr:H s.heap.objs.size=none:=I.hok.fresh (h9 _)
 have esz:its.toArray.size=ns.length:=by rw[j5,← hlen]
 refine HT.vC (ns:=ns) (I.ok.hd hh) (show s.heap.IsTuple p its.toArray from pt) (by simpa using dC rv) (by rw[esz];unfold scanBound;left) λ h' tk hS hk=>?_
 rw[esz] at hS
 exact⟨.ref s.heap.objs.size,_,I.laid (a:=s.heap.objs.size) (o:=.set (HT.setS ns ns.length) (HT.setN ns ns.length)) (t':=tk) (λ b o e=>hk b o (j0 e) e) (h9 _) hS,rfl,q _ _ (aT fr) fr aO⟩
inductive call_lenS_i  (xs:List V) (H:Hp) (Q:VK):Prop
 | mk:∀ (p:l7)(S:Int->Bool)(n:Nat),(xs=[.ref p])->(H p=some (.set S n))->(Q (.int (n:Int)) H)->call_lenS_i xs H Q
theorem zK:CallR X (.builtin "len") (call_lenS_i):=by
 intro pins s σ H xs us Q I r h
 obtain⟨p,S,n,rfl,hp,q⟩:=h
 obtain⟨u,rfl,rx⟩:=vals1 r
 cases rx
 obtain⟨o,es,ep,t,ho,hex,hd,_,_,hb,hf,hn⟩:=(show ObjOk X.prog X.w H s.heap p (.set S n) from I.hok p _ hp)
 refine call_len_set ho hex hd hf (by unfold scanBound at hb;left) ⟨.int (n:Int),H,I.tok _,⟨s.toks+1,by rw[hn]⟩,q⟩
end
end L3
namespace Srt
open PySem PySem.Spec PyProof.Rows PySem.W
section
variable {prog:l9}{w:uak}{A:uae}{E:c9->d7->Prop}{s:d7}
theorem vR {x:c9}{Q:c9->d7->Prop}{Good:List c9->d7->Prop}
  (hcol:∀ (A':uae)(E':c9->d7->Prop)(Q':List c9->d7->Prop),A'.handled=A.handled->(∀ vs s',Good vs s'->Q' vs s')->j9 (o9 prog w) A' (collect x) Q' E' s)
  (hg:∀ vs s1,Good vs s1->∃ (r:Nat->Int)(κ:SortKind),vs.length<64/\(2<=vs.length->∀ (A':uae)(s':d7)(Q:SortKind->d7->Prop),Q κ s'->j9 (o9 prog w) A' (keyKind' vs.toArray) Q (λ _ _=>False) s') /\
   (∀ (A':uae)(s':d7)(i j:Nat)(C:Bool->d7->Prop),i<vs.length->j<vs.length->C (decide (r i<r j)) s'->kas_ask prog w A' κ vs i j C s') /\
   ∀ (p:Array Nat)(h':Heap)(c:Nat),Gd vs.length p->Up r p vs.length->(∀ b o,s1.heap.get? b=some o->h'.get? b=some o)->h'.get? s1.heap.objs.size=some (seqObj "list" (outOf vs p).toArray c)->Q (.ref s1.heap.objs.size) { s1 with heap:=h' }) :
  j9 (o9 prog w) A (call (.builtin "sorted") [x]) Q E s:=by
 have line:(64:Nat)<=r9:=by rw[ubp];decide
 refine Calls.call_function_entry kind_sorted plain_sorted entry_sorted (args_sorted1 _) ?_
 unfold Builtin.«sorted»
 refine a9 (m:=checkCount "sorted" 1 1 _) (f9 (a9 (hcol _ _ _ rfl λ vs s1 g=>?_)))
 obtain⟨r,κ,h64,hk,hc,h⟩:=hg vs s1 g
 refine a9 (uea ?_ (by left))
 have hoL:(s1.heap.push { cls:=.type "list",data:=.seq vs.toArray }).get? s1.heap.objs.size=some (seqObj "list" vs.toArray 0):=i7 _ rfl
 have ne2:∀ b o,s1.heap.get? b=some o->b≠s1.heap.objs.size:=λ b o q=>j8 (j0 q)
 show j9 _ _ _ _ _ { s1 with heap:=s1.heap.push { cls:=.type "list",data:=.seq vs.toArray } }
 refine a9 (ua0 (uab slot_list_sort ⟨_,hoL,rfl⟩ entry_list_sort ?_ (args_list_sort _)))
 refine lsort (s:={ s1 with heap:=s1.heap.push { cls:=.type "list",data:=.seq vs.toArray } }) (r:=r) (κ:=κ) hoL h64 (λ h2 s' Q' st q=>hk h2 _ s' Q' q) (λ s' i j C st hi hj q=>hc _ s' i j C hi hj q) λ p h' c g1 u1 st e=>⟨_,rfl,?_⟩
 exact f9 ⟨_,rfl,h p h' c g1 u1 (λ b o q=>st b o (ne2 b o q) (c6 _ q)) e⟩
end
end Srt
namespace L3
open PySem PySem.Spec PyProof.Rows L2
def SetO (P:l9)(w:uak)(a:l7)(S:Int->Bool)(n:Nat):HO:=.ext λ h=>Stb.SetT P w h a S n
section
variable {X:Cx}
theorem vA (hh:X.calm=true):CallR X (.builtin "sorted") (λ xs H Q=>∃ (p:l7)(S:Int->Bool)(n:Nat),xs=[.ref p]/\H p=some (SetO X.prog X.w p S n)/\n<64/\∀ ms:List Int,ms.length=n->(∀ k,S k=true↔k∈ms)->ms.Pairwise (·<=·)->∀ l H',Same H H'->H l=none->H' l=some (.lst (ms.map V.int))->Q (.ref l) H'):=by
 intro pins s σ H xs us Q I r h
 obtain⟨p,S,n,rfl,hp,h64,q⟩:=h
 obtain⟨u,rfl,rx⟩:=vals1 r
 cases rx
 have hS:Stb.SetT X.prog X.w s.heap p S n:=(show ObjOk X.prog X.w H s.heap p (SetO X.prog X.w p S n) from I.hok p _ hp).1
 refine Srt.vR (Good:=λ vs s1=>∃ (h1:Heap)(tk:Nat)(d':Drawn)(ns:List Int),s1={ s with heap:=h1,toks:=tk,drawn:=d' }/\(∀ b o,s.heap.get? b=some o->h1.get? b=some o)/\IntsAre vs ns/\ns.length=n/\∀ k,S k=true↔k∈ns)
  (λ A' E' Q' eh hQ=>Stb.wG (eh.trans (I.ok.hd hh)) hS λ h1 tk d' vs ns hk hI hl hm=>hQ vs _ ⟨h1,tk,d',ns,rfl,hk,hI,hl,hm⟩) λ its s1 g=>?_
 obtain⟨gg,tk,d',ns,rfl,kg,hI,hn,hm⟩:=g
 have hl:its.length=ns.length:=by
  clear hn hm
  induction hI with
  | nil=>rfl
  | cons n t _ ih=>simp [ih]
 refine⟨λ i=>ns.getD i 0,oneType',by left,λ h2 A' s' Q' q'=>Srt.nW hI h2 q',λ A' s' i j C hi hj q'=>Srt.pQ hI hi hj q',λ pp h' c g u kp e=>?_⟩
 have g':Srt.Gd ns.length pp:=by rw[← hl];exact g
 have u':Srt.Up (λ i=>ns.getD i 0) pp ns.length:=by rw[← hl];exact u
 have pm:(pp.toList.map λ i=>ns.getD i 0).Perm ns:=by
  have:=iC g' λ i=>ns.getD i 0
  rw[cC] at this
  exact this
 have pw:(pp.toList.map λ i=>ns.getD i 0).Pairwise (·<=·):=by
  rw[uaw]
  exact gW g' u' λ i j _ _ z=>z
 have I1:Inv X pins σ H { s with heap:=gg,toks:=tk,drawn:=d' }:=by
  have:=I.kept (t':=tk) kg
  exact⟨this.ok,this.os,this.bare,this.base,this.loc,this.cell,this.free,this.freeC,this.pin,this.hok,this.len⟩
 have fr:H gg.objs.size=none:=I1.hok.fresh (h9 _)
 have ev:((pp.toList.map λ i=>ns.getD i 0).map V.int)=pp.toList.map λ i=>(ns.map V.int).getD i .non:=by
  rw[uaj]
  refine uaz λ i hi=>?_
  have:=eG g' i hi
  simp [ubn,this]
 have rv:Vals (ns.map V.int) its:=by
  clear hn hm g' u' pm pw ev hl g u e kp
  induction hI with
  | nil=>exact .nil
  | cons n t _ ih=>exact .cons ⟨t,rfl⟩ ih
 refine⟨.ref gg.objs.size,_,I1.laid (a:=gg.objs.size) (o:=.lst ((pp.toList.map λ i=>ns.getD i 0).map V.int)) (t':=tk) kp (h9 _) ⟨?_,Srt.outOf its pp,c,?_,e⟩,rfl,q _ (pm.length_eq.trans hn) (λ k=>(hm k).trans pm.mem_iff.symm) pw _ _ (aT fr) fr aO⟩
 ·have:=pm.length_eq
  have line:(64:Nat)<=r9:=by rw[ubp];decide
  rw[c8,this];left
 ·rw[ev]
  exact fH rv pp.toList λ i hi=>by rw[c8];exact eG g' i hi
end
theorem cF (ts:List Tie)(ks:List Nat):Far.arcsF (arcsB ts ks)=arcs ts ks:=by
 unfold arcs Far.arcsF arcsB
 rw[List.map_flatMap]
 rfl
theorem jJ {n:Int}{ts:List Tie}{ks:List Nat}(ok:WebOk n ts)(ko:KeepOk ts.length ks):Far.Sym (arcs ts ks):=λ u v l h=>by
 rw[← cF] at h ⊢
 obtain⟨k,m⟩:=Far.arcsF_mem.mp h
 exact Far.arcsF_mem.mpr ⟨k,(eH ok ko).sym _ _ _ _ m⟩
inductive spReachedC_i (K:b8)(vs:List V)(H:Hp)(Q:VK):Prop
 | mk:∀ n ts ks wv kv r,(vs=[wv,kv,.int r])->(WK K H n ts ks wv kv)->(0<=r)->(r<n)->(∀ (p lc la:l7)(cvs:List V)(as:List (Option Nat))(cs:List (Option (Int × Int)))(H':Hp),Same H H'->H' p=some (.tup [.ref lc,.ref la])->H' lc=some (.lst cvs)->H' la=some (.lst (as.map oa))->CostL H' cvs cs->Far.Best (arcsB ts ks) n.toNat r.toNat cs as->Far.Good (arcs ts ks) n.toNat r.toNat cs->Far.Stab (arcs ts ks) cs->Q (.ref p) H')->spReachedC_i K vs H Q
def spReachedC (K:b8):Sp:=λ vs H Q _=>spReachedC_i K vs H Q
theorem yE {K:b8}(vs:List V)(H:Hp)(Q:VK)(E:XK)(h:spReachedB K vs H Q E):spReachedC K vs H Q E:=by
 obtain⟨n,ts,ks,wv,kv,r,e,wk,r0,r1,q⟩:=h
 exact⟨n,ts,ks,wv,kv,r,e,wk,r0,r1,λ p lc la cvs as cs H' S h1 h2 h3 cl B _ _=>q p lc la cvs as cs H' S h1 h2 h3 cl B⟩
theorem yD {K:b8}(vs:List V)(H:Hp)(Q:VK)(E:XK)(h:spReached K vs H Q E):spReachedC K vs H Q E:=by
 obtain⟨n,ts,ks,wv,kv,r,e,wk,r0,r1,q⟩:=h
 exact⟨n,ts,ks,wv,kv,r,e,wk,r0,r1,λ p lc la cvs as cs H' S h1 h2 h3 cl _ g st=>q p lc la cvs _ cs H' S h1 h2 h3 cl g st⟩
theorem zb0 {ts:List Tie}{ks:List Nat}{cs:List (Option (Int × Int))}(h:Far.Stab2 (arcsB ts ks) cs):Far.Stab (arcs ts ks) cs:=λ u v l c m e=>by
 rw[← cF] at m
 obtain⟨k,m⟩:=Far.arcsF_mem.mp m
 obtain⟨c',e',n'⟩:=h _ _ _ _ _ m e
 refine⟨c',e',?_⟩
 unfold Far.lt2 at n'
 simp only at n'
 left
theorem zbw {n:Int}{ts:List Tie}{ks:List Nat}(ok:WebOk n ts)(ko:KeepOk ts.length ks){u v k:Nat}{l:Int}(h:(u,v,l,k)∈arcsB ts ks):ks.filter (isTB ts u v)=[k]:=by
 have hk:k∈ks/\isTB ts u v k=true:=by
  obtain⟨j,hj,m⟩:=arcsB_mem.mp h
  have tk:=ok.tie _ (bF (ko.2 j hj)).2
  unfold isTB
  rcases arcs2B_mem.mp m with e | e <;> cases e
  ·exact⟨hj,by rw[uha (by left),uha (by left)];rfl⟩
  ·exact⟨hj,by rw[uha (by left),uha (by left)];rfl⟩
 have one:∀ j∈ks,isTB ts u v j=true->j=k:=λ j hj p=>by
  have q:=hk.2
  have hjl:=ko.2 j hj
  have hkl:=ko.2 k hk.1
  unfold isTB at p q
  rw[o7] at p q
  have a1:=uhb p.1
  have a2:=uhb p.2
  have b1:=uhb q.1
  have b2:=uhb q.2
  exact zac ok hjl hkl (a1.trans b1.symm) (a2.trans b2.symm)
 have nd:ks.Nodup:=ko.1.imp λ h=>j8 h
 have nf:(ks.filter (isTB ts u v)).Nodup:=nd.sublist List.filter_sublist
 have mk:k∈ks.filter (isTB ts u v):=uaq.mpr hk
 have all:∀ j∈ks.filter (isTB ts u v),j=k:=λ j hj=>one j (uaq.mp hj).1 (uaq.mp hj).2
 match e:ks.filter (isTB ts u v) with
 | []=>rw[e] at mk;cases mk
 | [j]=>rw[all j (by rw[e];exact i5)]
 | i::j::r =>
  rw[e] at nf all
  have h1:=all i i5
  have h2:=all j (i9 _ i5)
  exact absurd (h1.trans h2.symm) (λ z=>(ua3.mp nf).1 (by rw[z];exact i5))
section
variable {own:List Str}{js:List Nat}{g:TG}{te:TE}{σ:L2.St}{Q:VK}{H1:Hp}
end
end L3
namespace HT
open PySem PyProof.Rows
section
variable {prog:l9}{w:uak}{A:uae}{R:Result->d7->Prop}{I:l7}{fp wr:List l7}{G:Array GenState->Array GenState->Prop}{St:Nat->d7->Prop}{its:List c9}{ns:List Int}
end
section
variable {prog:l9}{w:uak}{A:uae}{E:c9->d7->Prop}{s:d7}
end
end HT
namespace L3
open PySem PySem.Spec PyProof.Rows L2
theorem IsAll.from_ {K:b8}{H:Hp}:∀ {ds:List ua9}{vs:List V}{i:Nat}{v:V},IsAll K H ds vs->vs[i]?=some v->∃ d,ds[i]?=some d/\Is K H d v
 | [],vs,i,v,h,e=>by
  have:vs=[]:=h
  rw[this] at e;cases e
 | d0::ds,vs,0,v,⟨u,r,e0,h1,_⟩,e=>by
  rw[e0] at e;cases e
  exact⟨d0,rfl,h1⟩
 | d0::ds,vs,i+1,v,⟨u,r,e0,_,h2⟩,e=>by
  rw[e0] at e
  exact IsAll.from_ (i:=i) h2 e
section
variable {own:List Str}{js:List Nat}{g:TG}{tt:TT}{te:TE}{σ:L2.St}{Q:VK}{H1:Hp}
end
def lvl (ls:List (List Nat))(i:Nat):List Nat:=ls.getD i []
structure LevOk (n:Nat)(ls:List (List Nat)):Prop where
 one:1<=ls.length
 six:ls.length<=6
 first:lvl ls 0=d8 n
 rise:∀ i,(lvl ls i).Pairwise (·<·)
 inn:∀ i,∀ p∈lvl ls i,p<n
 down:∀ i,∀ p∈lvl ls (i+1),p∈lvl ls i
def IsTop (ls:List (List Nat))(w b:Nat):Prop:=b<ls.length/\w∈lvl ls b/\∀ i,i<ls.length->w∈lvl ls i->i<=b
def Bun (ls:List (List Nat))(D:List (Option Int))(w:Nat):Prop:=∃ x,Far.get D w=some x/\∀ b p y,IsTop ls w b->p∈lvl ls (b+1)->Far.get D p=some y->x<y
noncomputable def bunB (ls:List (List Nat))(D:List (Option Int))(w:Nat):Bool:=@decide (Bun ls D w) (Classical.propDecidable _)
def FarsOf (ts:List Tie)(n s:Nat)(D:List (Option Int)):Prop:=D.length=n/\∀ u,u<n->Far.Dst (arcs ts (d8 ts.length)) s u (Far.get D u)
def FarsT (H:Hp)(p lf:l7)(n:Nat)(ts:List Tie):Prop:=∃ ys,H lf=some (.lst ys)/\lf≠p/\ys.length=n/\∀ i v,ys[i]?=some v->∃ l D,v=.ref l/\l≠p/\H l=some (.lst (D.map ov))/\FarsOf ts n i D
end L3
namespace HT
open PySem PyProof.Rows
section
variable {prog:l9}{w:uak}{A:uae}{R:Result->d7->Prop}{I:l7}{fp wr:List l7}{G:Array GenState->Array GenState->Prop}{St:Nat->d7->Prop}{its:List c9}{ks:List (List Int)}
end
section
variable {prog:l9}{w:uak}{A:uae}{E:c9->d7->Prop}{s:d7}
end
end HT
namespace L3
open PySem PySem.Spec PyProof.Rows L2
noncomputable def topN (ls:List (List Nat))(w:Nat):Nat:=@dite _ (∃ b,IsTop ls w b) (Classical.propDecidable _) (λ h=>Classical.choose h) (λ _=>0)
structure IsPiv (ls:List (List Nat))(m:Nat)(D:List (Option Int))(o:Option Nat):Prop where
 no:o=none->∀ q∈lvl ls m,Far.get D q=none
 yes:∀ p,o=some p->p∈lvl ls m/\∃ x,Far.get D p=some x/\∀ q∈lvl ls m,∀ y,Far.get D q=some y->x<=y/\(y=x->topN ls q<=topN ls p/\(topN ls q=topN ls p->p<=q))
def tupI (k:List Int):ua9:=.tuple (k.map .int)
section
variable {own:List Str}{js:List Nat}{g:TG}{tt:TT}{te:TE}{σ:L2.St}{Q:VK}{H1:Hp}
end
noncomputable def pivN (ls:List (List Nat))(m:Nat)(D:List (Option Int)):Nat:=@dite _ (∃ p,IsPiv ls m D (some p)) (Classical.propDecidable _) (λ h=>Classical.choose h) (λ _=>0)
noncomputable def clN (ls:List (List Nat)):Nat->Nat->Nat->Nat->List (Option Int)->List (Option Int)->Int->List (List Int)
 | 0,w,a,b,_,_,x=>[[(w:Int),(a:Int),(b:Int),x]]
 | f+1,w,a,b,Da,Db,x=>[(w:Int),(a:Int),(b:Int),x]::(if bunB ls Db w=true then [] else clN ls f (pivN ls (topN ls w+1) Db) b a Db Da ((Far.get Db (pivN ls (topN ls w+1) Db)).getD 0))
structure Cs (ts:List Tie)(n:Nat)(ls:List (List Nat))(d:Int)(j w a b:Nat)(Da Db:List (Option Int))(x:Int):Prop where
 fa:FarsOf ts n a Da
 fb:FarsOf ts n b Db
 wn:w<n
 an:a<n
 bn:b<n
 xa:Far.get Da w=some x
 lim:x<=j*d
 ab:Far.get Da b=some d
 ba:Far.get Db a=some d
 yb:∃ y,Far.get Db w=some y
 tp:j<=topN ls w
 bu:bunB ls Da w=true
section
variable {n:Int}{ts:List Tie}{ls:List (List Nat)}{d x:Int}{j w a b:Nat}{Da Db:List (Option Int)}
theorem allOk (ts:List Tie):KeepOk ts.length (d8 ts.length):=⟨ucw,λ k hk=>o8.mp hk⟩
end
structure RowsOk (ls:List (List Nat))(n:Nat)(d:Int)(Du Dv:List (Option Int))(rows:List (List Int)):Prop where
 few:rows.length<=ls.length
 lim:∀ (i:Nat)(r:List Int),rows[i]?=some r->∃ p a b x:Int,r=[p,a,b,x]/\x<=i*d
 last:∃ (pre:List (List Int))(w:Nat)(a b x:Int),rows=pre++[[(w:Int),a,b,x]]/\w<n/\bunB ls Du w=true/\bunB ls Dv w=true
def ClimbV (K:b8)(H:Hp)(ls:List (List Nat))(n u v:Nat)(Du Dv:List (Option Int))(r:V):Prop:=(r=.non/\Far.get Du v=none)\/∃ t ys d,r=.ref t/\Far.get Du v=some d/\H t=some (.tup ys)/\IsAll K H ((clN ls ls.length u u v Du Dv 0).map tupI) ys/\RowsOk ls n d Du Dv (clN ls ls.length u u v Du Dv 0)
def FarsM (H:Hp)(lf:l7)(n:Nat)(ts:List Tie):Prop:=∃ ys,H lf=some (.lst ys)/\ys.length=n/\∀ i v,ys[i]?=some v->∃ l D,v=.ref l/\H l=some (.lst (D.map ov))/\FarsOf ts n i D
structure Clb (ts:List Tie)(n:Int)(ls:List (List Nat))(d:Int)(u v:Nat)(Du Dv:List (Option Int))(pre:List (List Int))(w a b:Nat)(Da Db:List (Option Int))(x:Int):Prop where
 cs:Cs ts n.toNat ls d pre.length w a b Da Db x
 sides:(Da=Du/\Db=Dv)\/(Da=Dv/\Db=Du)
 lim:∀ (i:Nat)(r:List Int),(pre++[[(w:Int),(a:Int),(b:Int),x]])[i]?=some r->∃ p a b x:Int,r=[p,a,b,x]/\x<=i*d
 rest:pre++clN ls (ls.length-pre.length) w a b Da Db x=clN ls ls.length u u v Du Dv 0
section
variable {n:Int}{ts:List Tie}{ls:List (List Nat)}{d x:Int}{u v w a b:Nat}{Du Dv Da Db:List (Option Int)}{pre:List (List Int)}
end
section
variable {K:b8}{J J':Hp}{ls:List (List Nat)}{n u v:Nat}{Du Dv:List (Option Int)}{r r1 r2:V}
end
end L3
namespace PySem.SeqAt
open PySem.Spec PySem.MeetsSeq PySem.MeetsSeq2 PySem.MeetsSeq3 PySem.SeqRoads2
open AutoSeq1 (wpAny_loadPart')
end PySem.SeqAt
namespace L3
open PySem PySem.Spec PyProof.Rows L2
section
variable {X:Cx}{o e:uct}{es:List uct}{to:TE}{t:TA}{name:Str}{apos cpos:Pos}{id:String}{r:V->List V->Hp->VK->Prop}
end
def bk (hi:Option Int)(n j:Nat):Prop:=(hi=none/\j=0)\/(hi=some 0/\j=1/\1<=n)
section
variable {prog:l9}{w:uak}{A:uae}{E:c9->d7->Prop}{s:d7}
end
section
variable {X:Cx}{e st:uct}{te ts:TE}{lo hi:Option uct}{th:TO}{pos p2:Pos}
end
def WayM (H:Hp)(ts:List Tie)(ks:List Nat)(a b:Nat)(v:V):Prop:=(v=.non/\Far.Dst (arcs ts ks) a b none)\/∃ t ws x,v=.ref t/\H t=some (.tup (natV ws))/\ws.length<=24/\Far.MinW (arcsB ts ks) a b ws/\Far.Tr (arcs ts ks) a ws b x/\Far.Dst (arcs ts ks) a b (some x)
theorem zdb {H:Hp}{n:Int}{m:Nat}{ts:List Tie}{ks:List Nat}{a b:Nat}{v:V}(ok:WebOk n ts)(ko:KeepOk ts.length ks)(h:WayB H (arcsB ts ks) m a b v):WayM H ts ks a b v:=by
 obtain⟨cs,as,B,h⟩:=h
 have KB:=eH ok ko
 have d:=B.dst1 KB a
 rw[cF] at d
 rcases h with ⟨rfl,e⟩ | ⟨t,ws,c,rfl,ht,l24,e,tp⟩
 ·rw[e] at d
  exact .inl ⟨rfl,d.back (jJ ok ko)⟩
 ·rw[e] at d
  obtain⟨S,u⟩:=B.uni KB tp e
  have tr:=u.rt.tr
  rw[cF] at tr
  exact .inr ⟨t,ws,c.1,rfl,ht,l24,B.minw KB tp e,tr,d.back (jJ ok ko)⟩
inductive spWayM_i (K:b8)(vs:List V)(H:Hp)(Q:VK):Prop
 | mk:∀ n ts ks wv kv a b,(vs=[wv,kv,.int a,.int b])->(WK K H n ts ks wv kv)->(0<=a)->(a<n)->(0<=b)->(b<n)->(∀ v H',Same H H'->WayM H' ts ks a.toNat b.toNat v->Q v H')->spWayM_i K vs H Q
def spWayM (K:b8):Sp:=λ vs H Q _=>spWayM_i K vs H Q
theorem zed {K:b8}(vs:List V)(H:Hp)(Q:VK)(E:XK)(h:spWayM K vs H Q E):spWayB K vs H Q E:=by
 obtain⟨n,ts,ks,wv,kv,a,b,e,wk,a0,a1,b0,b1,q⟩:=h
 exact⟨n,ts,ks,wv,kv,a,b,e,wk,a0,a1,b0,b1,λ v H' S h=>q v H' S (zdb wk.2.1 wk.2.2.2 h)⟩
theorem zbz {n:Int}{ts:List Tie}{ks:List Nat}(ok:WebOk n ts)(ko:KeepOk ts.length ks){u v k:Nat}{l:Int}(h:(u,v,l,k)∈arcsB ts ks):tbN ts u v=some k:=by
 have h2:(u,v,l,k)∈arcsB ts (d8 ts.length):=by
  obtain⟨k',hk',m⟩:=arcsB_mem.mp h
  exact arcsB_mem.mpr ⟨k',o8.mpr (ko.2 k' hk'),m⟩
 have e:=zbw ok (allOk ts) h2
 unfold tbN
 rw[← List.head?_filter,e];rfl
def WaysL (J:Hp)(ts:List Tie)(ks:List Nat)(ys:List V):Prop:=∀ v∈ys,∃ t W a b,v=.ref t/\J t=some (.tup (natV W))/\W.length<=24/\Far.MinW (arcsB ts ks) a b W
def WKL (K:b8)(H:Hp)(n:Int)(ts:List Tie)(ks:List Nat)(wv:V)(kp:l7):Prop:=Is K H (webD n ts) wv/\WebOk n ts/\H kp=some (.lst ((keepI ks).map V.int))/\KeepOk ts.length ks
def ovD:Option Int->ua9
 | none=>.none
 | some x=>.int x
end L3
namespace Far
def chn (R:Nat->Nat->Prop):List Nat->Prop
 | []=>True
 | [_]=>True
 | a::b::r=>R a b/\chn R (b::r)
section
variable {R:Nat->Nat->Prop}
theorem eO:∀ {l m:List Nat}{x y:Nat},chn R (l++[x])->R x y->chn R (y::m)->chn R (l++[x]++y::m)
 | [],m,x,y,_,r,h=>⟨r,h⟩
 | [a],m,x,y,h1,r,h=>⟨h1.1,eO (l:=[]) (x:=x) (y:=y) h1.2 r h⟩
 | a::b::l,m,x,y,h1,r,h=>⟨h1.1,eO (l:=b::l) (x:=x) (y:=y) h1.2 r h⟩
theorem fG:∀ {l m:List Nat}{x:Nat},chn R (l++x::m)->chn R (l++[x])/\chn R (x::m)
 | [],m,x,h=>⟨trivial,h⟩
 | [a],m,x,h=>⟨⟨h.1,trivial⟩,h.2⟩
 | a::b::l,m,x,h=>⟨⟨h.1,(fG (l:=b::l) (x:=x) h.2).1⟩,(fG (l:=b::l) (x:=x) h.2).2⟩
theorem iG (sy:∀ u v,R u v->R v u):∀ {l:List Nat},chn R l->chn R l.reverse
 | [],_=>trivial
 | [_],_=>trivial
 | a::b::r,h=>by
  have ih:=iG sy h.2
  rw[uci] at ih
  rw[uci,uci]
  exact eO (l:=r.reverse) (m:=[]) ih (sy _ _ h.1) trivial
theorem iL:∀ {l:List Nat}{i u v:Nat},chn R l->l[i]?=some u->l[i+1]?=some v->R u v
 | [],i,u,v,_,e,_=>by cases e
 | [a],i,u,v,_,_,e=>by cases e
 | a::b::r,0,u,v,h,e1,e2=>by cases e1;cases e2;exact h.1
 | a::b::r,i+1,u,v,h,e1,e2=>iL (l:=b::r) h.2 e1 e2
def RingOf (ws:List Nat)(h:Nat)(tl:List Nat):Prop:=∃ p q,ws=p++h::q/\(tl=q++p\/tl=(q++p).reverse)
end
end Far
namespace L3
open PySem PySem.Spec PyProof.Rows L2
def adjK (ts:List Tie)(ks:List Nat)(u v:Nat):Prop:=∃ k,k∈ks/\tbN ts u v=some k
inductive spAlongW_i (K:b8)(vs:List V)(H:Hp)(Q:VK):Prop
 | mk:∀ (n:Int)(ts:List Tie)(wv:V)(t:l7)(ws:List Nat),(vs=[wv,.ref t])->(Is K H (webD n ts) wv)->(ts.length<=60)->(H t=some (.tup (natV ws)))->(ws.length<=25)->(linked ts ws)->(∀ l H',Same H H'->H' l=some (.lst (natV (alongN ts ws)))->Q (.ref l) H')->spAlongW_i K vs H Q
def spAlongW (K:b8):Sp:=λ vs H Q _=>spAlongW_i K vs H Q
def Turn (h:Nat)(tl:List Nat):Prop:=(∀ x∈tl,h<=x)/\∀ u v p q,tl=u::p->tl=q++[v]->u<=v
theorem gG (val:Nat->Int):∀ i,(firstMet val i).Nodup/\∀ k,k∈firstMet val i↔k∈(d8 i).map val
 | 0=>⟨by rw[firstMet_zero];exact ug0,λ k=>by rw[firstMet_zero];simp⟩
 | i+1=>by
  obtain⟨h1,h2⟩:=gG val i
  rw[firstMet_succ,ubg,ubs]
  unfold step_dedup
  by_cases c:(firstMet val i).any (λ y=>y==val i)=true
  ·rw[uhd c]
   obtain⟨y,hy,e⟩:=udf.mp c
   have e':y=val i:=by simpa using e
   refine⟨h1,λ k=>?_⟩
   rw[h2 k,u4]
   refine⟨.inl,λ z=>z.elim id λ z=>?_⟩
   have:k=val i:=by simpa using z
   rw[this,← e',← h2 y];exact hy
  ·rw[uhe c]
   refine⟨ubm.mpr ⟨h1,by simp,λ a ha b hb e=>c (udf.mpr ⟨a,ha,?_⟩)⟩,λ k=>by rw[u4,u4,h2 k];simp⟩
   have:b=val i:=by simpa using hb
   simp [e,this]
theorem lC:∀ {l m:List Int},l.Nodup->(∀ x∈l,x∈m)->m.length<=l.length->m.Perm l
 | [],m,_,_,h=>by
  have:m=[]:=ueu.mp (by simpa using h)
  rw[this]
 | x::l,m,nd,sub,h=>by
  have hx:=sub x i5
  obtain⟨nx,nl⟩:=ua3.mp nd
  have pe:=uc6 hx
  refine pe.trans (List.Perm.cons x (lC nl (λ y hy=>?_) ?_))
  ·exact (ufj λ e=>nx (by rw[← e];exact hy)).mpr (sub y (i9 _ hy))
  ·rw[ug6 hx];simp at h;left
theorem nI (ns:List Int)(k:Int):HT.setS ns ns.length k=true↔k∈ns:=by
 have:=(gG (λ i=>ns.getD i 0) ns.length).2 k
 rw[cC] at this
 rw[← this]
 unfold HT.setS
 rw[udf]
 exact⟨λ ⟨y,hy,e⟩=>by rw[← show y=k by simpa using e];exact hy,λ h=>⟨k,h,by simp⟩⟩
theorem zag {ns ms:List Int}(hl:ms.length=HT.setN ns ns.length)(hm:∀ k,HT.setS ns ns.length k=true↔k∈ms):ms.Nodup/\∀ k,k∈ms↔k∈ns:=by
 obtain⟨n1,n2⟩:=gG (λ i=>ns.getD i 0) ns.length
 rw[cC] at n2
 have pm:=lC (m:=ms) n1 (λ x hx=>(hm x).mp ((nI ns x).mpr ((n2 x).mp hx))) (udx hl)
 exact⟨pm.nodup_iff.mpr n1,λ k=>(hm k).symm.trans (nI ns k)⟩
def alongO (ts:List Tie)(ws:List Nat):List V:=(d8 (ws.length-1)).map λ i=>oa (tbN ts (ws.getD i 0) (ws.getD (i+1) 0))
inductive spAlongO_i (K:b8)(vs:List V)(H:Hp)(Q:VK):Prop
 | mk:∀ (n:Int)(ts:List Tie)(wv:V)(t:l7)(ws:List Nat),(vs=[wv,.ref t])->(Is K H (webD n ts) wv)->(ts.length<=60)->(H t=some (.tup (natV ws)))->(ws.length<=40)->(∀ l H',Same H H'->H' l=some (.lst (alongO ts ws))->Q (.ref l) H')->spAlongO_i K vs H Q
def spAlongO (K:b8):Sp:=λ vs H Q _=>spAlongO_i K vs H Q
theorem oB:∀ a b:List Int,PyData.eqvAll (a.map .int) (b.map .int)=decide (a=b)
 | [],[]=>rfl
 | [],_::_=>rfl
 | _::_,[]=>rfl
 | x::a,y::b=>by
  show (ue5 (.int x) (.int y)&&PyData.eqvAll (a.map .int) (b.map .int))=_
  rw[oB a b,show ue5 (.int x) (.int y)=decide (x=y) from rfl]
  by_cases e:x=y
  ·subst e;simp
  ·simp [e]
theorem zdf {n:Int}{ts:List Tie}(ok:WebOk n ts){u v j k:Nat}(hj:j<ts.length)(hk:k<ts.length)(h1:isTB ts u v j=true)(h2:isTB ts u v k=true):j=k:=by
 unfold isTB at h1 h2
 obtain⟨a1,b1⟩:=(o7 _ _).mp h1
 obtain⟨a2,b2⟩:=(o7 _ _).mp h2
 have ea:(tieAt ts j).1=(tieAt ts k).1:=(uhb a1).trans (uhb a2).symm
 have eb:(tieAt ts j).2.1=(tieAt ts k).2.1:=(uhb b1).trans (uhb b2).symm
 clear a1 a2 b1 b2 h1 h2
 have pw:=ua8.mp ok.rise
 have g:∀ {i:Nat}(hi:i<ts.length),ts[i]=tieAt ts i:=λ {i} hi=>by
  have:=(bF hi).1
  rw[c7 hi] at this
  exact uav this
 rcases uer j k with z | z | z
 ·have q:=pw j k hj hk z
  rw[g hj,g hk] at q
  unfold endLt at q
  left
 ·exact z
 ·have q:=pw k j hk hj z
  rw[g hj,g hk] at q
  unfold endLt at q
  left
section
variable {g:TG}{tt:TT}{te:TE}{own:List Str}{js:List Nat}{σ:L2.St}{H1:Hp}{Q:VK}
end
def RowV (lo hi:Nat)(J:Hp)(v:V):Prop:=∃ (p:l7)(ns:List Int),v=.ref p/\J p=some (.tup (ns.map V.int))/\lo<=ns.length/\ns.length<=hi
mutual
theorem Is.tk {K:b8}{H H':Hp}(e:TupKeep H H'):∀ (d:ua9){v:V},tupD d=true->Is K H d v->Is K H' d v
 | .none,_,_,h=>h
 | .bool _,_,_,h=>h
 | .int _,_,_,h=>h
 | .str _,_,_,h=>h
 | .tuple ds,_,t,h=>let ⟨q,vs,q1,q2,q3⟩:=h;⟨q,vs,q1,e _ _ q2,IsAll.tk e ds t q3⟩
 | .list ds,_,t,h=>by cases t
 | .dict _,_,t,h=>by cases t
theorem IsAll.tk {K:b8}{H H':Hp}(e:TupKeep H H'):∀ (ds:List ua9){vs:List V},tupAll ds=true->IsAll K H ds vs->IsAll K H' ds vs
 | [],_,_,h=>h
 | d::ds,_,t,h=>by
  have t':(tupD d&&tupAll ds)=true:=t
  rw[o7] at t'
  obtain⟨v,r,q1,q2,q3⟩:=h
  exact⟨v,r,q1,Is.tk e d t'.1 q2,IsAll.tk e ds t'.2 q3⟩
end
end L3
namespace Stb
open PySem PyProof.Rows
section
variable {prog:l9}{w:uak}{A:uae}{E:c9->d7->Prop}{s:d7}
theorem zds {t:l7}{xs:Array c9}{ns:List Int}{Q:c9->d7->Prop}(hh:A.handled=none)(ht:s.heap.IsList t xs)(hi:IntsAre xs.toList ns)(hb:xs.size+1<scanBound)
  (fin:∀ (h':Heap)(tk:Nat),SetT prog w h' s.heap.objs.size (HT.setS ns xs.size) (HT.setN ns xs.size)->(∀ b o,b<s.heap.objs.size->s.heap.get? b=some o->h'.get? b=some o)->Q (.ref s.heap.objs.size) { s with heap:=h',toks:=tk }) :
  j9 (o9 prog w) A (call (.type "set") [.ref t]) Q E s:=by
 obtain⟨c,tl,hmro⟩:=uad.mro
 have hmade:=uad.made;have hsub:=uad.sub
 refine wpAny_call (codeAny_of_tree ?_);show j9 _ _ (callAny (.type "set") _) _ _ _
 refine f9 ⟨Code.quiet_builtin _ (by symm),uca ugm ?_⟩
 rw[Around.under_plain (uga "set" [.ref t] []) rfl]
 have h1:=uad.notType;have h2:=uad.canCreate;have hct:=ugw (.ref t)
 repeat (any_goals (first | assumption | wp_step))
 refine udr (zeh (.ref t) (E:=E) (U:=λ obj s₁=>obj=.ref s.heap.objs.size/\s₁={ s with heap:=s.heap.push (emp w) }) ⟨rfl,rfl⟩) λ r s₁ hr=>?_
 match r,hr with
 | .error e,hr=>exact hr
 | .ok .next,hr=>exact hr.elim
 | .ok .brk,hr=>exact hr.elim
 | .ok .cont,hr=>exact hr.elim
 | .ok (.ret obj),hr =>
  obtain⟨rfl,rfl⟩:=hr
  have gS:(s.heap.push (emp w)).get? s.heap.objs.size=some (emp w):=i7 _ rfl
  have hT:Shared.TypeIs { s with heap:=s.heap.push (emp w) } (.ref s.heap.objs.size) "set":=⟨_,gS,rfl⟩
  have hli:=uad.init.lookup;have hbi:=uad.init.bind (.ref s.heap.objs.size)
  repeat (any_goals (first | assumption | wp_step))
  refine udr (codeAny_call_builtin (R:=wants (λ r s₂=>r=.none/\∃ h' tk,s₂={ s with heap:=h',toks:=tk }/\SetT prog w h' s.heap.objs.size (HT.setS ns xs.size) (HT.setN ns xs.size)/\(∀ b o,b<s.heap.objs.size->s.heap.get? b=some o->h'.get? b=some o)) E) uad.init.plain ugx (ug7 hT ?_)) λ r₂ s₂ hr₂=>?_
  ·obtain⟨ot,ho,hc,m,hd⟩:=id ht
   obtain⟨ocls,odict,odata,oslots⟩:=ot
   simp only at hc hd;subst hc hd
   have ho':(s.heap.push (emp w)).get? t=some { cls:=.type "list",dict:=odict,data:=.seq xs m,slots:=oslots }:=c6 _ ho
   have f1:=PySem.F.sub_list_set;have f2:=PySem.F.sub_list_frozenset
   have f3:(Value.type "list"==Value.type "dict")=false:=by decide
   have it1:(s.heap.push (emp w)).IsList t xs:=⟨_,ho',rfl,m,rfl⟩
   unfold Builtin.«set.__init__» noKeywords Builtin.Frozenset.updateFrom
   generalize hPI:pyIter=PI
   wp_walk;subst hPI
   refine udc it1 (a9 (ufy ?_))
   have lt:t<s.heap.objs.size:=j0 ho
   have hh3:A.in1.in1.in1.handled=none:=by simp [hh]
   have sz1:(s.heap.push (emp w)).objs.size=s.heap.objs.size+1:=w8 ..
   have tI:t≠(s.heap.push (emp w)).objs.size:=by rw[sz1];exact j8 (ubd lt)
   have Sfp:s.heap.objs.size∉[(s.heap.push (emp w)).objs.size,t]:=by
    rw[sz1];simp only [j4,m8,or_false,not_or];exact⟨j8 (ucu _),(j8 lt).symm⟩
   have vals:∀ (i:Nat)(v:c9),xs[i]?=some v->∃ u,v=.int ((λ i=>ns.getD i 0) i) u:=λ i v hv=>IntsAre.int_at hi i v (by rw[ua5];exact hv)
   refine zd1 ((Walks.list hh3 _ t tI xs).toS) s.heap.objs.size Sfp (λ i=>ns.getD i 0) vals hb (xs.size-0) 0 _ (by left) (p7 _) ?st ?s0 ?fin
   case st=>exact⟨⟨_,i7 _ rfl,rfl,rfl⟩,it1.push _⟩
   case s0=>exact (zej s.heap).keep λ o e=>c6 _ e
   case fin =>
    rintro ⟨h',g',d',tk',os'⟩ hm hS'
    obtain rfl:g'=s.gens:=hm.gens
    obtain rfl:d'=s.drawn:=hm.drawn
    obtain rfl:os'=s.os:=hm.os
    refine f9 (f9 ⟨rfl,h',tk',rfl,hS',λ b o hlt e=>hm.heap b o ?_ (c6 _ (c6 _ e))⟩)
    rw[sz1];simp only [j4,m8,or_false,not_or]
    exact⟨j8 hlt,j8 (ubd hlt)⟩
  ·match r₂,hr₂ with
   | .error e,hr₂=>exact hr₂
   | .ok .next,hr₂=>exact hr₂.elim
   | .ok .brk,hr₂=>exact hr₂.elim
   | .ok .cont,hr₂=>exact hr₂.elim
   | .ok (.ret v),hr₂ =>
    obtain⟨rfl,h',tk,rfl,hS',hk⟩:=hr₂
    repeat (any_goals (first | assumption | wp_step))
    exact fin h' tk hS' hk
end
end Stb
namespace L3
open PySem PySem.Spec PyProof.Rows L2
section
variable {X:Cx}
theorem xH (hh:X.calm=true):CallR X (.type "set") (λ xs H Q=>∃ (p:l7)(ns:List Int),xs=[.ref p]/\H p=some (.lst (ns.map V.int))/\ns.length<=1000/\∀ q H',Same H H'->H q=none->H' q=some (SetO X.prog X.w q (HT.setS ns ns.length) (HT.setN ns ns.length))->Q (.ref q) H'):=by
 intro pins s σ H xs us Q I r h
 obtain⟨p,ns,rfl,hp,hl,q⟩:=h
 obtain⟨u,rfl,rx⟩:=vals1 r
 cases rx
 obtain⟨its,rv,pt,hz⟩:=I.list (SqL.of hp)
 have hlen:=rv.length
 rw[c8] at hlen
 have fr:H s.heap.objs.size=none:=I.hok.fresh (h9 _)
 have esz:its.toArray.size=ns.length:=by rw[j5,← hlen]
 refine Stb.zds (ns:=ns) (I.ok.hd hh) (show s.heap.IsList p its.toArray from pt.isList) (by simpa using dC rv) (by rw[esz];unfold scanBound;left) λ h' tk hS hk=>?_
 rw[esz] at hS
 refine⟨.ref s.heap.objs.size,_,I.laid (a:=s.heap.objs.size) (o:=SetO X.prog X.w s.heap.objs.size (HT.setS ns ns.length) (HT.setN ns ns.length)) (t':=tk) (λ b o e=>hk b o (j0 e) e) (h9 _) ⟨hS,?_,λ h1 h2 x k=>x.keep k⟩,rfl,q _ _ (aT fr) fr aO⟩
 obtain⟨⟨o,_,_,_,ho,_⟩,_⟩:=hS
 exact⟨o,ho⟩
end
end L3
namespace Far
variable {A:List (Nat × Nat × Int)}{s:Nat}
def Unit1 (A:List (Nat × Nat × Int)):Prop:=∀ u v l,(u,v,l)∈A->l=1
def AtK (A:List (Nat × Nat × Int))(s k v:Nat):Prop:=Walk A s v (k:Int)/\∀ x,Walk A s v x->(k:Int)<=x
structure Bfs (A:List (Nat × Nat × Int))(s i:Nat)(D:Nat->Option Nat)(ring:List Nat):Prop where
 found:∀ v d,D v=some d↔AtK A s d v/\d<i
 ring:∀ v,v∈ring↔AtK A s i v
end Far
namespace Lr
open Far (chn eO fG iG iL RingOf)
section
variable {R:Nat->Nat->Prop}
structure Rg (R:Nat->Nat->Prop)(h:Nat)(tl:List Nat):Prop where
 len:2<=tl.length
 nd:(h::tl).Nodup
 ch:chn R (h::tl++[h])
def Cano (h:Nat)(tl:List Nat):Prop:=(∀ v∈tl,h<v)/\∃ x m y,tl=x::(m++[y])/\x<y
def stepW (rows:Nat->List Nat)(w:List Nat):List (List Nat):=((rows (w.getLast?.getD 0)).filter λ o=>decide (w.headD 0<o)&&!decide (o∈w)).map λ o=>w++[o]
def ways (rows:Nat->List Nat)(n:Nat):Nat->List (List Nat)
 | 0=>(d8 n).map λ v=>[v]
 | s+1=>(ways rows n s).flatMap (stepW rows)
structure PW (R:Nat->Nat->Prop)(n:Nat)(w:List Nat):Prop where
 ne:w≠[]
 nd:w.Nodup
 ch:chn R w
 lt:∀ v∈w,v<n
 up:∀ h t,w=h::t->∀ v∈t,h<v
section
variable {rows:Nat->List Nat}{n:Nat}
end
end
end Lr
namespace Lr
open Far (chn eO fG iG iL RingOf)
def lle:List Nat->List Nat->Prop
 | [],_=>True
 | _::_,[]=>False
 | a::l,b::m=>a<b\/(a=b/\lle l m)
section
variable {R:Nat->Nat->Prop}
structure Sh (R:Nat->Nat->Prop)(z v:Nat)(l:List Nat):Prop where
 ch:chn R (v::l)
 last:(v::l).getLast?=some z
 min:∀ l',chn R (v::l')->(v::l').getLast?=some z->l.length<=l'.length
def Ds (R:Nat->Nat->Prop)(z:Nat)(D:Nat->Option Nat):Prop:=∀ v,(∀ m,D v=some m->∃ l,chn R (v::l)/\(v::l).getLast?=some z/\l.length=m)/\∀ l,chn R (v::l)->(v::l).getLast?=some z->∃ m,D v=some m/\m<=l.length
def Rm (R:Nat->Nat->Prop)(a b u v:Nat):Prop:=R u v/\¬ (u=a/\v=b)/\¬ (u=b/\v=a)
end
end Lr
namespace Lr
open Far (chn eO fG iG iL RingOf)
structure Ties (R:Nat->Nat->Prop)(ks:List Nat)(ends:Nat->Nat × Nat):Prop where
 sy:∀ u v,R u v->R v u
 of:∀ k∈ks,(ends k).1<(ends k).2/\R (ends k).1 (ends k).2
 to:∀ u v,R u v->u<v->∃ k∈ks,ends k=(u,v)
 up:∀ k∈ks,∀ j∈ks,k<=j->(ends k).1<(ends j).1\/((ends k).1=(ends j).1/\(ends k).2<=(ends j).2)
section
variable {R:Nat->Nat->Prop}{ks:List Nat}{ends:Nat->Nat × Nat}
end
section
variable {R:Nat->Nat->Prop}{rows:Nat->List Nat}{n:Nat}
end
end Lr
namespace Peel
abbrev T2:=Nat × Nat
def hit (gone:List Nat)(p:Nat)(t:T2):Bool:=(t.1==p&&!gone.contains t.2)||(t.2==p&&!gone.contains t.1)
def deg (ts:List T2)(gone:List Nat)(p:Nat):Nat:=ts.countP (hit gone p)
def may (ts:List T2)(d:Int)(gone:List Nat)(p:Nat):Bool:=!gone.contains p&&decide ((deg ts gone p:Int)<=d)
def next (n:Nat)(ts:List T2)(d:Int)(gone:List Nat):Option Nat:=(d8 n).find? (may ts d gone)
def run (n:Nat)(ts:List T2)(d:Int):Nat->List Nat->List Nat
 | 0,g=>g
 | f+1,g=>match next n ts d g with
  | none=>g
  | some p=>run n ts d f (g++[p])
section
variable {n:Nat}{ts:List T2}{d:Int}{g:List Nat}{p:Nat}
def Good (n:Nat)(g:List Nat):Prop:=g.Nodup/\∀ p∈g,p<n
theorem mJ:∀ (n:Nat)(g:List Nat),g.Nodup->(∀ p∈g,p<n)->g.length<=n
 | 0,[],_,_=>h9 _
 | 0,p::_,_,h=>absurd (h p i5) (udq _)
 | n+1,g,nd,h=>by
  have h1:=mJ n (g.filter λ p=>p != n) (nd.filter _) λ p hp=>by
   have:=uaq.mp hp
   have a:=h p this.1
   have b:p≠n:=by simpa using this.2
   left
  have e:g.length=(g.filter λ p=>p != n).length+g.countP (λ p=>p==n):=by
   rw[← List.countP_eq_length_filter]
   have:=List.length_eq_countP_add_countP (λ p=>p==n) (l:=g)
   have e2:g.countP (λ p=>decide ¬(p==n)=true)=g.countP λ p=>p != n:=List.countP_congr λ x _=>by simp
   rw[e2] at this
   left
  have c:g.countP (λ p=>p==n)<=1:=by
   have:=List.nodup_iff_count.mp nd n
   exact this
  left
def gone (n:Nat)(ts:List T2)(d:Int):List Nat:=run n ts d n []
end
end Peel
namespace L3
open PySem PySem.Spec PyProof.Rows L2
def nb2 (ts:List Tie)(p:Int)(k:Nat):Option Nat:=if (tieAt ts k).2.1=p then some (tieAt ts k).1.toNat else none
section
variable {g:TG}{tt:TT}{te:TE}{own:List Str}{js:List Nat}{σ:L2.St}{H1:Hp}{Q:VK}
end
section
variable {own:List Str}{js:List Nat}{g:TG}{te:TE}{σ:L2.St}{Q:VK}{H1:Hp}
end
structure Bes (H:Hp)(l:l7)(as:List l7)(rows:Nat->List V):Prop where
 top:H l=some (.lst (as.map V.ref))
 nd:as.Nodup
 own:l∉as
 row:∀ i a,as[i]?=some a->H a=some (.lst (rows i))
def Uniq (ts:List Tie)(ks:List Nat)(j m:Nat):Prop:=∃ cs:List Nat,cs.Nodup/\cs.length=m/\∀ c∈cs,∃ k∈ks,∃ l,(j,c,l)∈arcs2 (tieAt ts k)
section
variable {X:Cx}
inductive rExtendB_i  (x:V) (vs:List V) (H:Hp) (Q:VK):Prop
 | mk:∀ l b xs zs,(x=.ref l)->(vs=[.ref b])->(H l=some (.lst xs))->(H b=some (.lst zs))->(xs.length+zs.length<=10^7)->(∀ H',But l H H'->H' l=some (.lst (xs++zs))->Q .non H')->rExtendB_i x vs H Q
def rExtendB :V->List V->Hp->VK->Prop:=λ x vs H Q=>rExtendB_i x vs H Q
theorem wX:MtM X "list.extend" rExtendB:=by
 intro pins s σ H x vs v us Q I rx rv h
 obtain⟨l,b,xs,zs,rfl,rfl,hH,hB,hz,q⟩:=h
 exact mE (X:=X) pins s σ H _ _ v us Q I rx rv ⟨l,b,xs,zs,rfl,rfl,hH,hB,uao hz (by decide),q _ But.upd aO⟩
end
def Adj (ts:List Tie)(ks:List Nat)(u v:Nat):Prop:=∃ k∈ks,(u,v,(tieAt ts k).2.2)∈arcs2 (tieAt ts k)
def en (ts:List Tie)(k:Nat):Nat × Nat:=((tieAt ts k).1.toNat,(tieAt ts k).2.1.toNat)
section
variable {n:Int}{ts:List Tie}{ks:List Nat}{u v k:Nat}
end
theorem eJ {K:b8}{H:Hp}{p:l7}{ks:List Nat}(h:H p=some (.tup (natV ks))):Is K H (keepD ks) (.ref p):=⟨p,_,rfl,h,by rw[cJ];exact IsAll.ints _⟩
def IsLR (ts:List Tie)(ks:List Nat)(h:Nat)(tl:List Nat):Prop:=Lr.Rg (Adj ts ks) h tl/\Lr.Cano h tl/\(∀ h' tl',Lr.Rg (Adj ts ks) h' tl'->tl.length<=tl'.length)/\∀ h' tl',Lr.Rg (Adj ts ks) h' tl'->Lr.Cano h' tl'->tl'.length=tl.length->Lr.lle (h::tl) (h'::tl')
section
variable {J:It}{g:TG}{tt:TT}{te:TE}{own:List Str}{js:List Nat}{σ:L2.St}{H1:Hp}{Q:VK}
end
end L3
namespace L3
end L3
namespace L3
open PySem PySem.Spec PyProof.Rows L2
theorem zah {ns:List Int}{m:Nat}(h:∀ x∈ns,0<=x/\x<m):HT.setN ns ns.length<=m:=by
 obtain⟨h1,h2⟩:=gG (λ i=>ns.getD i 0) ns.length
 rw[L3.cC ns 0] at h2
 have e:(firstMet (λ i=>ns.getD i 0) ns.length).length=((firstMet (λ i=>ns.getD i 0) ns.length).map ubo).length:=(c8 _).symm
 show (firstMet (λ i=>ns.getD i 0) ns.length).length<=m
 rw[e]
 refine Peel.mJ m _ ?_ λ p hp=>?_
 ·rw[uai,uaw]
  refine ud2 ?_ h1
  intro a b ha hb ne z
  have:=h a ((h2 a).mp ha)
  have:=h b ((h2 b).mp hb)
  exact ne (by left)
 ·obtain⟨x,hx,rfl⟩:=uau.mp hp
  have:=h x ((h2 x).mp hx)
  left
theorem nV:∀ {ms:List Int},(∀ x∈ms,0<=x)->ms.map V.int=natV (ms.map ubo)
 | [],_=>rfl
 | x::ms,h=>by
  have e:((x.toNat:Nat):Int)=x:=uaf (h x i5)
  have ih:=nV (ms:=ms) λ y hy=>h y (i9 _ hy)
  show V.int x::ms.map V.int=V.int ((x.toNat:Nat):Int)::natV (ms.map ubo)
  rw[e,ih]
theorem vZ (a b:List Nat):natV (a++b)=natV a++natV b:=by unfold natV;rw[ubs]
theorem cR (a:List Nat):(natV a).length=a.length:=by unfold natV;rw[c8]
theorem bA (E:List (Option Nat)){i v:Nat}(x:Nat)(h:i<E.length):Far.get (E.set i (some x)) v=if v=i then some x else Far.get E v:=by
 unfold Far.get
 rw[a8,a8]
 by_cases z:v=i
 ·subst z
  rw[uhd rfl,ue4 h];rfl
 ·rw[uhe z,ufk (Ne.symm z)]
theorem oN (r x:Int):capO r (some x)=if r<x then r else x:=rfl
section
variable {n g:Int}{ts:List Tie}{ks:List Nat}{k:Nat}
end
def tupH (hs:List Int):ua9:=.tuple (hs.map .int)
end L3
namespace Far
end Far
namespace L3
open PySem PySem.Spec PyProof.Rows L2
section
variable {n:Int}{ts:List Tie}
theorem bR (ts:List Tie):KeepOk ts.length (d8 ts.length):=⟨ucw,λ k hk=>o8.mp hk⟩
theorem nK:∀ {a b:List Nat},a.Pairwise (·<·)->b.Pairwise (·<·)->(∀ k,k∈a↔k∈b)->a=b
 | [],[],_,_,_=>rfl
 | [],y::b,_,_,h=>by have:=(h y).mpr i5;cases this
 | x::a,[],_,_,h=>by have:=(h x).mp i5;cases this
 | x::a,y::b,pa,pb,h=>by
  obtain⟨p1,p2⟩:=ucx.mp pa
  obtain⟨q1,q2⟩:=ucx.mp pb
  have e:x=y:=by
   rcases j4.mp ((h x).mp i5) with z | z
   ·exact z
   ·rcases j4.mp ((h y).mpr i5) with y' | y'
    ·exact y'.symm
    ·have:=q1 x z;have:=p1 y y';left
  subst e
  rw[nK p2 q2 λ k=>?_]
  constructor
  ·intro hk
   rcases j4.mp ((h k).mp (i9 _ hk)) with z | z
   ·have:=p1 k hk;left
   ·exact z
  ·intro hk
   rcases j4.mp ((h k).mpr (i9 _ hk)) with z | z
   ·have:=q1 k hk;left
   ·exact z
theorem vQ {ms:List Int}{xs ks:List Nat}(hl:ms.length=HT.setN (keepI xs) (keepI xs).length)(hm:∀ k,HT.setS (keepI xs) (keepI xs).length k=true↔k∈ms)(pw:ms.Pairwise (·<=·))(rk:ks.Pairwise (·<·))(h:∀ k,k∈ks↔k∈xs):ms.map V.int=natV ks:=by
 obtain⟨nd,mem⟩:=zag hl hm
 have nn:∀ x∈ms,0<=x:=λ x hx=>by
  obtain⟨c,_,rfl⟩:=uau.mp ((mem x).mp hx)
  exact uat c
 rw[nV nn]
 congr 1
 have lt:ms.Pairwise (·<·):=(pw.and nd).imp λ ⟨a,b⟩=>by left
 refine nK ?_ rk λ k=>?_
 ·rw[uaw]
  refine ud2 ?_ lt
  intro a b ha hb ab
  have:=nn a ha
  left
 ·rw[h k,uau]
  constructor
  ·rintro ⟨x,hx,rfl⟩
   obtain⟨c,hc,rfl⟩:=uau.mp ((mem x).mp hx)
   rw[v5];exact hc
  ·intro hk
   exact⟨(k:Int),(mem _).mpr (uau.mpr ⟨k,hk,rfl⟩),v5 k⟩
theorem nR:∀ {a b:List Nat},a.Nodup->(∀ x∈a,x∈b)->a.length<=b.length
 | [],_,_,_=>p7 _
 | x::a,b,nd,h=>by
  obtain⟨n1,n2⟩:=ua3.mp nd
  have hx:=h x i5
  have ih:=nR (a:=a) (b:=b.erase x) n2 λ y hy=>(ufj (λ e=>n1 (by rw[← e];exact hy))).mpr (h y (i9 _ hy))
  have le:=ug6 hx
  have pos:=List.length_pos_of_mem hx
  rw[l6]
  left
end
theorem jR {K:b8}{t:Bool}{l:l7}{xs:List V}{g:TG}{tb:TS}{D:Ends}{σ:L2.St}{H:Hp}(Pv:Nat->L2.St->Hp->Prop)(h0:Pv 0 σ H)(hl:∀ i σ H,Pv i σ H->SqX t K H l xs)
  (hs:∀ i x T σ H,xs[i]?=some x->H T=none->Pv i σ H->g (.ref T) σ (upd H T (.tup [.int (i:Nat),x])) λ σ2 H2=>tb { D with nx:=Pv (i+1),ct:=Pv (i+1),bk:=D.nx } σ2 H2) (hd:∀ σ H,Pv xs.length σ H->D.nx σ H) :
  ∃ W:Nat->Nat->L2.St->Hp->Prop,(∃ m,W 0 m σ H)/\∀ i m σ H,W i m σ H ->
   ((Itn t K l).stop i H/\D.nx σ H)\/((Itn t K l).go i H/\∃ N:L2.St->Hp->Prop,(∀ σ' H',N σ' H'->∃ m',m'<m/\W (i+1) m' σ' H')/\∀ x H',(Itn t K l).yld i H x H'->g x σ H' λ σ2 H2=>tb { D with nx:=N,ct:=N,bk:=D.nx } σ2 H2):=by
 refine⟨λ i m σ H=>m=xs.length-i/\i<=xs.length/\Pv i σ H,⟨xs.length,by simp,p7 _,h0⟩,?_⟩
 rintro i m σ H ⟨rfl,hi,p⟩
 have q1:=hl i σ H p
 by_cases hlt:i<xs.length
 ·have e1:xs[i]?=some xs[i]:=c7 hlt
  refine .inr ⟨⟨xs,_,q1,e1⟩,Pv (i+1),λ σ' H' p'=>⟨xs.length-(i+1),by left,rfl,hlt,p'⟩,λ x H' y=>?_⟩
  obtain⟨T,y',hT,rfl,rfl,a1⟩:=y
  exact hs i y' T σ H (a1 _ q1) hT p
 ·have e:i=xs.length:=by left
  subst e
  exact .inl ⟨⟨xs,q1,h9 _⟩,hd σ H p⟩
end L3
namespace L2
open PySem PySem.Spec PyProof.Rows
section
variable {X:Cx}{k v:uct}{pos:Pos}{tk tv:TE}
end
end L2
namespace HT
open PySem PyProof.Rows
open Sem (wp)
section
variable {prog:l9}{w:uak}{A:uae}{E:c9->d7->Prop}{s:d7}
end
end HT
namespace L3
open PySem PySem.Spec PyProof.Rows L2
def PapV (H:Hp)(lo hi m:Nat)(v:V):Prop:=∃ p xs,v=.ref p/\H p=some (.tup xs)/\xs.length<=m/\∀ u∈xs,RowV lo hi H u
end L3
namespace Far
section
variable {A B:List (Nat × Nat × Int)}{s u v:Nat}{x y:Int}
end
end Far
namespace Far
section
variable {G:Nat->Option Int}{len:Nat->Int}
end
end Far
namespace Far
section
variable {A:List (Nat × Nat × Int)}{s:Nat}
theorem settle {n:Nat}(P:Pos A)(n24:n<=24)(inn:∀ u v l,(u,v,l)∈A->u<n/\v<n)(top:∀ u v l,(u,v,l)∈A->l<=10^18):∀ (m:Nat)(cs:List (Option (Int × Int))),mu cs=m->Good A n s cs->∃ cs',Good A n s cs'/\Stab A cs':=by
 intro m
 induction m using ud9 with
 | ind m ih =>
  intro cs em g
  by_cases c:∃ u v l e,(u,v,l)∈A/\get cs u=some e/\(get cs v=none\/∃ c',get cs v=some c'/\lt2 (e.1+l,e.2+0) c')
  ·obtain⟨u,v,l,e,m1,h1,h2⟩:=c
   obtain⟨g2,lt⟩:=Good.step P n24 g m1 (top _ _ _ m1) (by decide) (by decide) (inn _ _ _ m1).2 h1 h2
   exact ih _ (by left) _ rfl g2
  ·refine⟨cs,g,λ u v l e m1 h1=>?_⟩
   cases h:get cs v with
   | none=>exact absurd ⟨u,v,l,e,m1,h1,.inl h⟩ c
   | some c' =>
    refine⟨c',rfl,?_⟩
    rcases Int.lt_or_le (e.1+l) c'.1 with z | z
    ·exact absurd ⟨u,v,l,e,m1,h1,.inr ⟨c',h,.inl z⟩⟩ c
    ·left
theorem Dst.top {n:Nat}(P:Pos A)(n24:n<=24)(hs:s<n)(inn:∀ u v l,(u,v,l)∈A->u<n/\v<n)(top:∀ u v l,(u,v,l)∈A->l<=10^18){v:Nat}{x:Int}(h:Dst A s v (some x)):x<=((n:Int)-1)*10^18:=by
 obtain⟨cs,g,st⟩:=settle P n24 inn top _ _ rfl (Good.first (A:=A) hs)
 have e:=(g.dst st v).unique h
 obtain⟨c,hc,e⟩:=u7.mp e
 have t:=g.top v c hc
 have l:=gE cs
 rw[g.len] at l
 left
end
end Far
namespace L3
open PySem PySem.Spec PyProof.Rows L2
section
variable {near kept:Nat->Nat->Option Int}{u v:Nat}{r:List (Nat × Nat)}{m:Int × Int × Int}{x y:Int}
end
def WKE (K:b8)(H:Hp)(n:Int)(ts:List Tie)(ks:List Nat)(wv:V)(kp:l7)(tp:Bool):Prop:=Is K H (webD n ts) wv/\WebOk n ts/\H kp=some (if tp=true then .tup (natV ks) else .lst (natV ks))/\KeepOk ts.length ks
section
variable {g:TG}{tt:TT}{te:TE}{own:List Str}{js:List Nat}{σ:L2.St}{H1:Hp}{Q:VK}
end
theorem kD (xs:List V)(k:Nat):cutV xs none (some (k:Int))=xs.take k:=by
 unfold cutV
 rw[HT.zai,HT.zb7,uda,ueg]
 by_cases z:k<=xs.length
 ·rw[ugo z]
 ·rw[Nat.min_eq_right (by left),uam (h9 _),uam (by left)]
section
variable {n:Int}{ts:List Tie}{ks:List Nat}
end
section
variable {own:List Str}{js:List Nat}{g:TG}{te:TE}{σ:L2.St}{Q:VK}{H1:Hp}
end
noncomputable def dG (ts:List Tie)(u v:Nat):Option Int:=Classical.epsilon λ o=>Far.Dst (arcs ts (d8 ts.length)) u v o
section
variable {n:Int}{ts:List Tie}
theorem dA (ok:WebOk n ts)(u v:Nat):Far.Dst (arcs ts (d8 ts.length)) u v (dG ts u v) :=
 Classical.epsilon_spec (p:=λ o=>Far.Dst (arcs ts (d8 ts.length)) u v o) (Far.iX (fQ ok (bR ts)) u v)
theorem zek (ok:WebOk n ts){u v:Nat}{o:Option Int}(d:Far.Dst (arcs ts (d8 ts.length)) u v o):o=dG ts u v:=d.unique (dA ok u v)
theorem zc1 (ok:WebOk n ts)(u:Nat):dG ts u u=some 0:=(dA ok u u).unique ⟨λ y e=>by cases e;exact Far.Walk.nil,λ L hL=>⟨0,rfl,hL.nonneg (fQ ok (bR ts))⟩⟩
noncomputable def dGL (n:Int)(ts:List Tie)(u:Nat):List (Option Int):=(d8 n.toNat).map (dG ts u)
theorem kC (n:Int)(ts:List Tie)(u:Nat):(dGL n ts u).length=n.toNat:=by unfold dGL;rw[c8,v4]
theorem kL {u v:Nat}(hv:v<n.toNat):(dGL n ts u)[v]?=some (dG ts u v):=by unfold dGL;rw[i8,ucp hv];rfl
theorem zc2 {u v:Nat}(hv:v<n.toNat):Far.get (dGL n ts u) v=dG ts u v:=by unfold Far.get;rw[a8,kL hv];rfl
theorem zd7 (ok:WebOk n ts){u:Nat}{DD:List (Option Int)}(lD:DD.length=n.toNat)(hD:∀ v,v<n.toNat->Far.Dst (arcs ts (d8 ts.length)) u v (Far.get DD v)):DD=dGL n ts u:=by
 refine ub3 λ v=>?_
 by_cases hv:v<n.toNat
 ·have e:=zek ok (hD v hv)
  unfold Far.get at e
  rw[a8,c7 (by left)] at e
  rw[c7 (by left),kL hv,← e];rfl
 ·rw[r6 (by left),r6 (by rw[kC];left)]
theorem zd6 (ok:WebOk n ts){u v:Nat}{x:Int}(hu:u<n.toNat)(e:dG ts u v=some x):x<=10^20:=by
 have ka:=bR ts
 have n24:=ok.n24
 have d:=dA ok u v
 rw[e] at d
 have t:=d.top (n:=n.toNat) (fQ ok ka) (by left) hu (λ a b l m=>iH ok ka a b l m) (λ a b l m=>by
  obtain⟨k,hk,m'⟩:=arcs_mem.mp m
  have tk:=ok.tie _ (bF (ka.2 k hk)).2
  rcases arcs2_mem.mp m' with z | z <;> (cases z;exact tk.2.2.2.2))
 left
noncomputable def htP (n:Int)(ts:List Tie)(u:Nat):List Int:=(dGL n ts u).map (capO (10^20))
theorem zcw (n:Int)(ts:List Tie)(u:Nat):(htP n ts u).length=n.toNat:=by unfold htP;rw[c8,kC]
theorem zd0 {u v:Nat}(hv:v<n.toNat):(htP n ts u)[v]?=some (capO (10^20) (dG ts u v)):=by unfold htP;rw[i8,kL hv];rfl
def hN (hs:List Int)(v:Nat):Int:=hs.getD v 0
theorem qY {u v:Nat}(hv:v<n.toNat):hN (htP n ts u) v=capO (10^20) (dG ts u v):=by unfold hN;rw[a8,zd0 hv];rfl
end
end L3
namespace Srt
open PySem PyProof.Rows
section
variable {prog:l9}{w:uak}{A:uae}{E:c9->d7->Prop}{s:d7}{a:l7}
end
end Srt
namespace L3
open PySem PySem.Spec PyProof.Rows L2
section
variable {X:Cx}
end
theorem brJ {α:Sort _}{A T:α->Prop}{B:Prop}(main:(∀ x,A x->T x)->B)(tail:∀ x,A x->T x):B:=main tail
section
variable {n:Int}{ts:List Tie}
noncomputable def wyN (ts:List Tie)(a b:Nat):Option (List Nat):=@dite _ (∃ ws,Far.MinW (arcsB ts (d8 ts.length)) a b ws) (Classical.propDecidable _) (λ h=>some (Classical.choose h)) (λ _=>none)
theorem mY (ok:WebOk n ts){a b:Nat}{ws:List Nat}(h:Far.MinW (arcsB ts (d8 ts.length)) a b ws):wyN ts a b=some ws:=by
 have ex:∃ ws,Far.MinW (arcsB ts (d8 ts.length)) a b ws:=⟨ws,h⟩
 unfold wyN
 rw[dif_pos ex]
 exact congrArg some (h.unique (eH ok (bR ts)) (Classical.choose_spec ex))
theorem mZ {a b:Nat}(d:Far.Dst (arcs ts (d8 ts.length)) a b none):wyN ts a b=none:=by
 unfold wyN
 refine dif_neg λ ⟨ws,S,x,y,r,_⟩=>?_
 have w:=r.walk
 rw[cF] at w
 obtain⟨z,e,_⟩:=d.2 _ w
 cases e
def WyV (H:Hp)(ts:List Tie)(o:Option (List Nat))(v:V):Prop:=(o=none/\v=.non)\/∃ t ws,o=some ws/\v=.ref t/\H t=some (.tup (natV ws))/\ws.length<=24/\linked ts ws
theorem WyV.tk {H H':Hp}{o:Option (List Nat)}{v:V}(k:TupKeep H H')(h:WyV H ts o v):WyV H' ts o v:=by
 rcases h with h | ⟨t,ws,e,e1,e2,z⟩
 ·exact .inl h
 ·exact .inr ⟨t,ws,e,e1,k _ _ e2,z⟩
theorem WyV.same {H H':Hp}{o:Option (List Nat)}{v:V}(k:Same H H')(h:WyV H ts o v):WyV H' ts o v:=h.tk λ _ _ e=>k _ _ e
theorem zec (ok:WebOk n ts){H:Hp}{a b:Nat}{v:V}(h:WayM H ts (d8 ts.length) a b v):WyV H ts (wyN ts a b) v:=by
 rcases h with ⟨rfl,d⟩ | ⟨t,ws,x,rfl,e,l,m,tr,d⟩
 ·exact .inl ⟨mZ d,rfl⟩
 ·exact .inr ⟨t,ws,mY ok m,rfl,e,l,(fZ ok (bR ts) tr).2⟩
def wyD:Option (List Nat)->ua9
 | none=>.none
 | some ws=>tupH (keepI ws)
def awN (ts:List Tie):Option (List Nat)->List Nat
 | none=>[]
 | some ws=>alongN ts ws
def twK (ts:List Tie)(os:List (Option (List Nat))):List Nat:=(d8 ts.length).filter λ k=>(os.flatMap (awN ts)).contains k
theorem cK (ts:List Tie)(os:List (Option (List Nat))):KeepOk ts.length (twK ts os):=⟨List.Pairwise.filter _ ucw,λ k hk=>o8.mp (uaq.mp hk).1⟩
theorem oV {os:List (Option (List Nat))}(h:∀ k∈os.flatMap (awN ts),k<ts.length)(k:Nat):k∈twK ts os↔k∈os.flatMap (awN ts):=by
 unfold twK
 rw[uaq,o8,ucc]
 exact⟨λ z=>z.2,λ z=>⟨h k z,z⟩⟩
theorem kS {H:Hp}{o:Option (List Nat)}{v:V}(h:WyV H ts o v):(∀ k∈awN ts o,k<ts.length)/\(awN ts o).length<=23:=by
 rcases h with ⟨rfl,rfl⟩ | ⟨t,ws,rfl,rfl,e2,l,lk⟩
 ·exact⟨λ k hk=>(by cases hk),p7 _⟩
 ·refine⟨jS lk,?_⟩
  show (alongN ts ws).length<=23
  unfold alongN
  rw[c8,v4]
  left
theorem oA {α:Type}{f:α->List Nat}{m:Nat}:∀ (l:List α),(∀ x∈l,(f x).length<=m)->(l.flatMap f).length<=l.length*m
 | [],_=>p7 _
 | x::l,h=>by
  have h1:=h x i5
  have h2:=oA l λ y hy=>h y (i9 _ hy)
  rw[ub2,i6,l6,Nat.add_mul,Nat.one_mul]
  left
def prD (p:Nat × Nat):ua9:=tupH [(p.1:Int),(p.2:Int)]
theorem iO {K:b8}{H:Hp}{prs:List (Nat × Nat)}{ps:List V}(h:IsAll K H (prs.map prD) ps){i:Nat}{x:V}(e:ps[i]?=some x):∃ (pr:Nat × Nat)(t:l7),prs[i]?=some pr/\x=.ref t/\H t=some (.tup [.int (pr.1:Int),.int (pr.2:Int)]):=by
 obtain⟨d,hd,hx⟩:=IsAll.from_ h e
 rw[i8] at hd
 obtain⟨pr,hpr,rfl⟩:=u7.mp hd
 obtain⟨t,vs,rfl,ht,hall⟩:=hx
 have:=IsAll.of_ints (ns:=[(pr.1:Int),(pr.2:Int)]) hall
 subst this
 exact⟨pr,t,hpr,rfl,ht⟩
end
theorem mM {n:Int}{ts:List Tie}(ok:WebOk n ts){k:Nat}(hk:k<ts.length):isTB ts (tieAt ts k).1.toNat (tieAt ts k).2.1.toNat k=true:=by
 have tk:=ok.tie _ (bF hk).2
 unfold isTB
 rw[uha (show (tieAt ts k).1=min (((tieAt ts k).1.toNat:Nat):Int) ((tieAt ts k).2.1.toNat:Nat) by left),uha (show (tieAt ts k).2.1=max (((tieAt ts k).1.toNat:Nat):Int) ((tieAt ts k).2.1.toNat:Nat) by left)]
 rfl
theorem oC {n:Int}{ts:List Tie}(ok:WebOk n ts){j k:Nat}(hj:j<ts.length)(hk:k<ts.length)(h1:(tieAt ts j).1=(tieAt ts k).1)(h2:(tieAt ts j).2.1=(tieAt ts k).2.1):j=k:=by
 refine zdf ok hj hk (mM ok hj) ?_
 have:=mM ok hk
 rw[h1,h2];exact this
theorem zby {ts:List Tie}{u v k:Nat}(h:tbN ts u v=some k):(tieAt ts k).1=min (u:Int) v/\(tieAt ts k).2.1=max (u:Int) v:=by
 have b:=uc3 h
 unfold isTB at b
 rw[o7] at b
 exact⟨uhb b.1,uhb b.2⟩
def shN:Option (List Nat)->Option (List Nat)->List Nat
 | some a,some b=>a.filter λ p=>b.contains p
 | _,_=>[]
def blkL (sh:List Nat)(i j:Nat):List (List Int):=(sh.take 1++sh.reverse.take 1).map λ p:Nat=>[(i:Int),(j:Int),(p:Int)]
def blk (os:List (Option (List Nat)))(i j:Nat):List (List Int):=blkL (shN (os.getD i none) (os.getD j none)) i j
def prwP (os:List (Option (List Nat)))(j:Nat):List (List Int):=(d8 j).flatMap λ i=>blk os i j
def pgP (os:List (Option (List Nat)))(m:Nat):List (List Int):=(d8 m).flatMap (prwP os)
theorem zc4 (os:List (Option (List Nat)))(i j:Nat):(blk os i j).length<=2:=by
 unfold blk blkL
 rw[c8,i6,u5,u5];left
theorem zN {os:List (Option (List Nat))}{i j:Nat}:∀ k∈blk os i j,∃ p:Nat,k=[(i:Int),(j:Int),(p:Int)]:=λ k h=>by
 unfold blk blkL at h
 obtain⟨p,_,rfl⟩:=uau.mp h
 exact⟨p,rfl⟩
theorem nZ {α β:Type}{f:α->List β}{c:Nat}:∀ l:List α,(∀ x∈l,(f x).length<=c)->(l.flatMap f).length<=c*l.length
 | [],_=>p7 _
 | x::l,h=>by
  have h1:=h x i5
  have h2:=nZ l λ y hy=>h y (i9 _ hy)
  rw[ub2,i6,l6,ufc];left
theorem zal (os:List (Option (List Nat)))(j:Nat):(prwP os j).length<=2*j:=by
 have:=nZ (f:=λ i=>blk os i j) (c:=2) (d8 j) λ i _=>zc4 os i j
 rw[v4] at this;exact this
theorem jX (os:List (Option (List Nat))):∀ m,(pgP os m).length<=m*(m-1)
 | 0=>h9 _
 | m+1=>by
  have h:=jX os m
  have e1:pgP os (m+1)=pgP os m++prwP os m:=by unfold pgP;rw[ubg,ubl,ub2,ucs,uay]
  have h2:=zal os m
  rw[e1,i6,uei,Nat.succ_mul]
  have:m*(m-1)+m=m*m:=by
   cases m with
   | zero=>rfl
   | succ k=>rw[uei,← ufc]
  left
theorem pH {os:List (Option (List Nat))}{m:Nat}(h:m<=30):(pgP os m).length<=870 :=
 uao (jX os m) (uao (Nat.mul_le_mul h (Nat.sub_le_sub_right h 1)) (by decide))
theorem zcg {os:List (Option (List Nat))}{m j i:Nat}(hj:j<m)(hi:i<=j):(pgP os j++(d8 i).flatMap λ i=>blk os i j).length<=(pgP os m).length:=by
 have e:∀ {f:Nat->List (List Int)}{a b:Nat},a<=b->((d8 a).flatMap f).length<=((d8 b).flatMap f).length:=λ {f a b} h=>by
  obtain⟨c,rfl⟩:=Nat.le.dest h
  rw[List.range_add,ubl,i6];left
 have h1:=e (f:=prwP os) hj
 have h2:=e (f:=λ i=>blk os i j) hi
 have e1:pgP os (j+1)=pgP os j++prwP os j:=by unfold pgP;rw[ubg,ubl,ub2,ucs,uay]
 have h1:(pgP os (j+1)).length<=(pgP os m).length:=h1
 rw[e1] at h1
 rw[i6] at h1 ⊢
 have h2:((d8 i).flatMap λ i=>blk os i j).length<=(prwP os j).length:=h2
 left
theorem nO {os:List (Option (List Nat))}{m:Nat}:∀ k∈pgP os m,∃ i j p:Nat,k=[(i:Int),(j:Int),(p:Int)]:=λ k h=>by
 unfold pgP prwP at h
 obtain⟨j,_,h⟩:=ucb.mp h
 obtain⟨i,_,h⟩:=ucb.mp h
 obtain⟨p,e⟩:=zN k h
 exact⟨i,j,p,e⟩
abbrev TT (H:Hp)(ys:List V)(ks:List (List Int)):Prop:=Paired (λ (y:V) (k:List Int)=>∃ a,y=.ref a/\H a=some (.tup (k.map V.int))) ys ks
theorem TT.keep {H H':Hp}(s:∀ a xs,H a=some (.tup xs)->H' a=some (.tup xs)){ys:List V}{ks:List (List Int)}(h:TT H ys ks):TT H' ys ks:=Paired.mapP h λ y k ⟨a,e1,e2⟩=>⟨a,e1,s _ _ e2⟩
theorem TT.app {H:Hp}:∀ {ys zs:List V}{ks ls:List (List Int)},TT H ys ks->TT H zs ls->TT H (ys++zs) (ks++ls)
 | _,_,_,_,.nil,h=>h
 | _,_,_,_,.cons a t,h=>.cons a (TT.app t h)
theorem TT.is {K:b8}{H:Hp}:∀ {ys:List V}{ks:List (List Int)},TT H ys ks->IsAll K H (ks.map tupH) ys
 | _,_,.nil=>rfl
 | _,_,.cons ⟨a,e1,e2⟩ t=>⟨_,_,rfl,⟨a,_,e1,e2,IsAll.ints _⟩,TT.is t⟩
def SrK (ks:List (List Int)):Prop:=ks.Pairwise λ a b=>Srt.lexI b a=false
theorem zdd {H:Hp}{ys:List V}{ks:List (List Int)}(h:TT H ys ks){qs:List (V × List Int)}(p:qs.Perm (ys.zip ks))(w:qs.Pairwise λ a b=>Srt.lexI b.2 a.2=false):∃ ks',ks'.Perm ks/\TT H (qs.map (·.1)) ks'/\SrK ks':=by
 have mem:∀ {ys:List V}{ks:List (List Int)},TT H ys ks->∀ q∈ys.zip ks,∃ a,q.1=.ref a/\H a=some (.tup (q.2.map V.int)):=λ {ys ks} h=>by
  induction h with
  | nil=>intro q hq;cases hq
  | cons r t ih =>
   intro q hq
   rcases j4.mp hq with rfl | hq
   ·exact r
   ·exact ih q hq
 refine⟨qs.map (·.2),?_,?_,by unfold SrK;rw[uaw];exact w⟩
 ·have e:=p.map (·.2)
  rw[uez (udx (Paired.length h).symm)] at e
  exact e
 ·have go:∀ qs:List (V × List Int),(∀ q∈qs,∃ a,q.1=.ref a/\H a=some (.tup (q.2.map V.int)))->TT H (qs.map (·.1)) (qs.map (·.2)):=λ qs=>by
   induction qs with
   | nil=>intro _;exact .nil
   | cons q t ih=>intro h;exact .cons (h q i5) (ih λ x hx=>h x (i9 _ hx))
  exact go qs λ q hq=>mem h q (p.mem_iff.mp hq)
def OpV (H:Hp)(o:Option (List Nat))(v:V):Prop:=(o=none/\v=.non)\/∃ t ws,o=some ws/\v=.ref t/\H t=some (.tup (natV ws))/\ws.length<=24
theorem OpV.same {H H':Hp}{o:Option (List Nat)}{v:V}(s:∀ a xs,H a=some (.tup xs)->H' a=some (.tup xs))(h:OpV H o v):OpV H' o v:=by
 rcases h with h | ⟨t,ws,e,e1,e2,z⟩
 ·exact .inl h
 ·exact .inr ⟨t,ws,e,e1,s _ _ e2,z⟩
theorem WyV.op {ts:List Tie}{H:Hp}{o:Option (List Nat)}{v:V}(h:WyV H ts o v):OpV H o v:=by
 rcases h with h | ⟨t,ws,e,e1,e2,z,_⟩
 ·exact .inl h
 ·exact .inr ⟨t,ws,e,e1,e2,z⟩
def OpsV (H:Hp)(os:List (Option (List Nat)))(ys:List V):Prop:=ys.length=os.length/\∀ (i:Nat)(o:Option (List Nat))(v:V),os[i]?=some o->ys[i]?=some v->OpV H o v
theorem OpsV.at {H:Hp}{os:List (Option (List Nat))}{ys:List V}(h:OpsV H os ys){i:Nat}{x:V}(e:ys[i]?=some x):OpV H (os.getD i none) x:=by
 have hi:=(j7.mp e).1
 have eo:os[i]?=some (os[i]'(by have:=h.1;left)):=c7 _
 rw[a8,eo]
 exact h.2 i _ x eo e
theorem zc3 {i j:Nat}:blkL [] i j=[]:=rfl
theorem oO {x:Nat}{t:List Nat}{i j:Nat}:blkL (x::t) i j=[[(i:Int),(j:Int),(x:Int)],[(i:Int),(j:Int),(((x::t).getLast (by simp):Nat):Int)]]:=by
 unfold blkL
 have e:(x::t).reverse.take 1=[(x::t).getLast (by simp)]:=by
  rw[List.take_one,List.head?_reverse,List.getLast?_eq_some_getLast (by simp)];rfl
 rw[e];rfl
def nbW:List Nat->Nat->List Nat
 | u::v::t,x=>(if u=x then [v] else [])++((if v=x then [u] else [])++nbW (v::t) x)
 | _,_=>[]
def AdjW (W:List Nat)(x y:Nat):Prop:=∃ p q,W=p++x::y::q\/W=p++y::x::q
theorem AdjW.in1 {W:List Nat}{x y:Nat}(h:AdjW W x y):x∈W:=by
 obtain⟨p,q,rfl | rfl⟩:=h <;> simp
theorem AdjW.grow {W:List Nat}{x y:Nat}(h:AdjW W x y)(a b:List Nat):AdjW (a++W++b) x y:=by
 obtain⟨p,q,rfl | rfl⟩:=h
 ·exact⟨a++p,q++b,.inl (by simp)⟩
 ·exact⟨a++p,q++b,.inr (by simp)⟩
theorem AdjW.rev {W:List Nat}{x y:Nat}(h:AdjW W x y):AdjW W.reverse x y:=by
 obtain⟨p,q,rfl | rfl⟩:=h
 ·exact⟨q.reverse,p.reverse,.inr (by simp)⟩
 ·exact⟨q.reverse,p.reverse,.inl (by simp)⟩
theorem AdjW.cons {u:Nat}{W:List Nat}{x y:Nat}(h:AdjW W x y):AdjW (u::W) x y:=by
 have:=h.grow [u] []
 rw[uay] at this;exact this
theorem nbW_mem:∀ {W:List Nat}{x y:Nat},y∈nbW W x↔AdjW W x y
 | [],x,y=>by
  constructor
  ·intro h;cases h
  ·rintro ⟨p,q,h | h⟩ <;> (have:=congrArg uev h;simp at this)
 | [u],x,y=>by
  constructor
  ·intro h;cases h
  ·rintro ⟨p,q,h | h⟩ <;> (have:=congrArg uev h;simp at this;left)
 | u::v::t,x,y=>by
  have ih:=nbW_mem (W:=v::t) (x:=x) (y:=y)
  show y∈(if u=x then [v] else [])++((if v=x then [u] else [])++nbW (v::t) x)↔_
  rw[u4,u4]
  constructor
  ·rintro (h | h | h)
   ·split at h
    ·next c=>rw[k8] at h;subst c h;exact⟨[],t,.inl rfl⟩
    ·cases h
   ·split at h
    ·next c=>rw[k8] at h;subst c h;exact⟨[],t,.inr rfl⟩
    ·cases h
   ·exact (ih.mp h).cons
  ·rintro ⟨p,q,h | h⟩
   ·cases p with
    | nil=>injection h with h1 h2;injection h2 with h2 h3;exact .inl (by rw[uhd h1,h2];simp)
    | cons z p=>injection h with h1 h2;exact .inr (.inr (ih.mpr ⟨p,q,.inl h2⟩))
   ·cases p with
    | nil=>injection h with h1 h2;injection h2 with h2 h3;exact .inr (.inl (by rw[uhd h2,h1];simp))
    | cons z p=>injection h with h1 h2;exact .inr (.inr (ih.mpr ⟨p,q,.inr h2⟩))
theorem jZ {W:List Nat}{x:Nat}(h:x∉W):nbW W x=[] :=
 List.eq_nil_iff_forall_not_mem.mpr λ _ hy=>h (nbW_mem.mp hy).in1
theorem fD:∀ {p q:List Nat}{x:Nat},x∉p->x∉q->nbW (p++x::q) x=p.reverse.take 1++q.take 1
 | [],[],x,_,_=>rfl
 | [],v::t,x,_,hq=>by
  have hv:v≠x:=λ z=>hq (by rw[z];exact i5)
  show (if x=x then [v] else [])++((if v=x then [x] else [])++nbW (v::t) x)=[v]
  rw[uhd rfl,uhe hv,jZ hq];rfl
 | [u],q,x,hp,hq=>by
  have hu:u≠x:=λ z=>hp (by rw[z];exact i5)
  show (if u=x then [x] else [])++((if x=x then [u] else [])++nbW (x::q) x)=[u]++q.take 1
  rw[uhe hu,uhd rfl]
  have:=fD (p:=[]) (q:=q) (x:=x) m8 hq
  rw[List.nil_append] at this
  rw[this];rfl
 | u::u'::p,q,x,hp,hq=>by
  have hu:u≠x:=λ z=>hp (by rw[z];exact i5)
  have hu':u'≠x:=λ z=>hp (by rw[z];exact i9 _ i5)
  have ih:=fD (p:=u'::p) (q:=q) (x:=x) (λ z=>hp (i9 _ z)) hq
  show (if u=x then [u'] else [])++((if u'=x then [u] else [])++nbW (u'::p++x::q) x)=_
  rw[uhe hu,uhe hu',ih]
  have:((u::u'::p).reverse.take 1)=(u'::p).reverse.take 1:=by
   rw[uci,List.take_append_of_le_length (by simp)]
  rw[this];rfl
theorem jL {W:List Nat}{x:Nat}(nd:W.Nodup)(h:x∈W):∃ p q,W=p++x::q/\x∉p/\x∉q:=by
 obtain⟨p,q,rfl⟩:=udo h
 have h2:=ubm.mp nd
 have h3:=ua3.mp h2.2.1
 exact⟨p,q,rfl,λ z=>h2.2.2 x z x i5 rfl,h3.1⟩
theorem yQ {W:List Nat}{x:Nat}(nd:W.Nodup):(nbW W x).Nodup:=by
 by_cases h:x∈W
 ·obtain⟨p,q,rfl,hp,hq⟩:=jL nd h
  rw[fD hp hq]
  have h2:=ubm.mp nd
  have t1:∀ l:List Nat,(l.take 1).Nodup:=λ l=>by cases l <;> simp
  refine ubm.mpr ⟨t1 _,t1 _,λ a ha b hb e=>?_⟩
  exact h2.2.2 a (ubi.mp (uc7 ha)) b (i9 _ (uc7 hb)) e
 ·rw[jZ h];exact ug0
theorem pN {W:List Nat}{x:Nat}(nd:W.Nodup):(nbW W x).length<=2:=by
 by_cases h:x∈W
 ·obtain⟨p,q,rfl,hp,hq⟩:=jL nd h
  rw[fD hp hq,i6,u5,u5];left
 ·rw[jZ h];exact p7 _
def endC (sh:List Nat)(x:Nat):Nat:=((sh.take 1++sh.reverse.take 1).filter λ y=>decide (y=x)).length
theorem zas {m:List Nat}{x:Nat}(nd:m.Nodup)(h:x∈m):(nbW m x).length+endC m x=2:=by
 obtain⟨p,q,rfl,hp,hq⟩:=jL nd h
 rw[fD hp hq]
 unfold endC
 rw[uee,i6,i6]
 have e1:(((p++x::q).take 1).filter λ y=>decide (y=x)).length+(p.reverse.take 1).length=1:=by
  cases p with
  | nil=>simp
  | cons z p =>
   have hz:z≠x:=λ e=>hp (by rw[e];exact i5)
   have:((z::p).reverse.take 1).length=1:=by rw[u5];simp
   rw[this]
   simp [hz]
 have e2:(((p++x::q).reverse.take 1).filter λ y=>decide (y=x)).length+(q.take 1).length=1:=by
  rw[ubk,uci,uax]
  cases hr:q.reverse with
  | nil =>
   have:q=[]:=List.reverse_eq_nil_iff.mp hr
   rw[this];simp
  | cons z r =>
   have hz:z≠x:=λ e=>hq (by rw[← e];exact ubi.mp (by rw[hr];exact i5))
   have:(q.take 1).length=1:=by
    have:=congrArg uev hr
    rw[uan,l6] at this
    rw[u5];left
   rw[this]
   simp [hz]
 left
def cntX (x:Nat)(ks:List (List Int)):Nat:=(ks.filter λ k=>decide (k.getD 2 0=(x:Int))).length
theorem oI (x:Nat)(a b:List (List Int)):cntX x (a++b)=cntX x a+cntX x b:=by
 unfold cntX;rw[uee,i6]
theorem zbe (sh:List Nat)(i j x:Nat):cntX x (blkL sh i j)=endC sh x:=by
 unfold cntX blkL endC
 rw[List.filter_map,c8]
 congr 1
 refine List.filter_congr λ y _=>?_
 show decide ((([(i:Int),(j:Int),(y:Int)]:List Int).getD 2 0)=(x:Int))=decide (y=x)
 refine decide_eq_decide.mpr ?_
 show ((y:Int)=(x:Int))↔_
 left
theorem zbd {os:List (Option (List Nat))}{x j i:Nat}(hi:i<j):endC (shN (os.getD i none) (os.getD j none)) x<=cntX x (prwP os j):=by
 have key:∀ m,i<m->endC (shN (os.getD i none) (os.getD j none)) x<=cntX x ((d8 m).flatMap λ i=>blk os i j):=by
  intro m
  induction m with
  | zero=>intro h;left
  | succ m ih =>
   intro h
   rw[ubg,ubl,ub2,ucs,uay,oI]
   by_cases c:i=m
   ·subst c
    have:cntX x (blk os i j)=endC (shN (os.getD i none) (os.getD j none)) x:=zbe _ _ _ _
    left
   ·have:=ih (by left);left
 exact key j hi
theorem lR {α:Type}(p:α->Bool):∀ l:List α,l.length=(l.filter p).length+(l.filter λ x=>!p x).length
 | []=>rfl
 | x::l=>by
  have ih:=lR p l
  rw[ude,ude]
  cases p x with
  | true=>show l.length+1=((x::l.filter p).length)+(l.filter _).length;rw[l6];left
  | false=>show l.length+1=(l.filter p).length+(x::l.filter _).length;rw[l6];left
theorem eY:∀ {l m:List Nat},l.Nodup->(∀ x∈l,x∈m)->l.length<=m.length
 | [],_,_,_=>p7 _
 | x::l,m,nd,h=>by
  obtain⟨a,b,rfl⟩:=udo (h x i5)
  have n2:=ua3.mp nd
  have:=eY (l:=l) (m:=a++b) n2.2 λ y hy=>by
   have hy2:=h y (i9 _ hy)
   rcases u4.mp hy2 with z | z
   ·exact ubw _ z
   ·rcases j4.mp z with z | z
    ·rw[z] at hy;exact absurd hy n2.1
    ·exact t5 _ z
  rw[i6] at this
  rw[i6,l6,l6];left
theorem zb3 {U W:List Nat}(h:Far.Shr U W)(nd:U.Nodup){x:Nat}(hu:x∈U)(hw:x∈W):∃ m:List Nat,shN (some U) (some W)=m/\m.Nodup/\x∈m/\(∀ y,AdjW m x y->AdjW U x y/\AdjW W x y):=by
 rcases h with h | ⟨p,m,q,p2,q2,e,_,hp,hq,e2⟩
 ·exact absurd hw (h x hu)
 ·have mw:∀ z∈m,z∈W:=λ z hz=>by rcases e2 with rfl | rfl <;> simp [hz]
  have es:shN (some U) (some W)=m:=by
   show U.filter (λ p=>W.contains p)=m
   have f1:p.filter (λ p=>W.contains p)=[]:=List.filter_eq_nil_iff.mpr λ z hz=>by rw[ucc];exact hp z hz
   have f2:q.filter (λ p=>W.contains p)=[]:=List.filter_eq_nil_iff.mpr λ z hz=>by rw[ucc];exact hq z hz
   have f3:m.filter (λ p=>W.contains p)=m:=List.filter_eq_self.mpr λ z hz=>by rw[ucc];exact mw z hz
   rw[e,uee,uee,f1,f2,f3,uay];rfl
  have xm:x∈m:=by
   rw[← es]
   exact uaq.mpr ⟨hu,by rw[ucc];exact hw⟩
  refine⟨m,es,?_,xm,λ y hy=>⟨?_,?_⟩⟩
  ·rw[e] at nd
   exact (ubm.mp (ubm.mp nd).1).2.1
  ·rw[e];exact hy.grow p q
  ·rcases e2 with rfl | rfl
   ·exact hy.grow p2 q2
   ·exact hy.rev.grow p2 q2
theorem pU {os:List (Option (List Nat))}{x:Nat}(hS:∀ (i j:Nat) (U W:List Nat),os.getD i none=some U->os.getD j none=some W->Far.Shr U W)(nd:∀ (i:Nat) (W:List Nat),os.getD i none=some W->W.Nodup):∀ (m:Nat)(L:List Nat),L.Nodup->(∀ y∈L,∃ i,i<m/\∃ W,os.getD i none=some W/\AdjW W x y)->L.length<=cntX x (pgP os m)+2
 | 0,L,_,h=>by
  cases L with
  | nil=>exact p7 _
  | cons y t=>obtain⟨i,hi,_⟩:=h y i5;left
 | m+1,L,nl,h=>by
  have e1:pgP os (m+1)=pgP os m++prwP os m:=by unfold pgP;rw[ubg,ubl,ub2,ucs,uay]
  rw[e1,oI]
  by_cases hx:∃ i,i<m/\∃ U,os.getD i none=some U/\x∈U
  ·let P:Nat->Bool:=λ y=>@decide (∃ i,i<m/\∃ W,os.getD i none=some W/\AdjW W x y) (Classical.propDecidable _)
   have hP:∀ y,P y=true↔∃ i,i<m/\∃ W,os.getD i none=some W/\AdjW W x y:=λ y=>@decide_eq_true_iff _ (Classical.propDecidable _)
   have ih:=pU hS nd m (L.filter P) (nl.filter _) λ y hy=>(hP y).mp (uaq.mp hy).2
   have sp:=lR P L
   suffices (L.filter λ x=>!P x).length<=cntX x (prwP os m) by left
   have out:∀ y∈L.filter (λ x=>!P x),∃ W,os.getD m none=some W/\AdjW W x y:=λ y hy=>by
    obtain⟨h1,h2⟩:=uaq.mp hy
    obtain⟨i,hi,W,e,a⟩:=h y h1
    by_cases c:i=m
    ·exact⟨W,by rw[← c];exact e,a⟩
    ·have:=(hP y).mpr ⟨i,by left,W,e,a⟩
     rw[this] at h2;cases h2
   cases eL:L.filter (λ x=>!P x) with
   | nil=>exact p7 _
   | cons y t =>
    rw[← eL]
    obtain⟨W,eW,aW⟩:=out y (by rw[eL];exact i5)
    obtain⟨i,hi,U,eU,xU⟩:=hx
    obtain⟨mid,es,ndm,xm,adj⟩:=zb3 (hS i m U W eU eW) (nd i U eU) xU aW.in1
    have c2:=zas ndm xm
    have le:(L.filter (λ x=>!P x)++nbW mid x).length<=(nbW W x).length:=by
     refine eY (ubm.mpr ⟨nl.filter _,yQ ndm,λ a ha b hb e=>?_⟩) λ z hz=>?_
     ·subst e
      have h2:=(uaq.mp ha).2
      have:=(hP a).mpr ⟨i,hi,U,eU,(adj a (nbW_mem.mp hb)).1⟩
      rw[this] at h2;cases h2
     ·rcases u4.mp hz with hz | hz
      ·obtain⟨W',e',a'⟩:=out z hz
       rw[eW] at e';cases e'
       exact nbW_mem.mpr a'
      ·exact nbW_mem.mpr (adj z (nbW_mem.mp hz)).2
    have two:=pN (x:=x) (nd m W eW)
    have pr:=zbd (os:=os) (x:=x) hi
    rw[eU,eW,es] at pr
    rw[i6] at le
    left
  ·cases eL:L with
   | nil=>exact p7 _
   | cons y t =>
    rw[← eL]
    have out:∀ y∈L,∃ W,os.getD m none=some W/\AdjW W x y:=λ y hy=>by
     obtain⟨i,hi,W,e,a⟩:=h y hy
     by_cases c:i=m
     ·exact⟨W,by rw[← c];exact e,a⟩
     ·exact absurd ⟨i,by left,W,e,a.in1⟩ hx
    obtain⟨W,eW,aW⟩:=out y (by rw[eL];exact i5)
    have le:L.length<=(nbW W x).length:=eY nl λ z hz=>by
     obtain⟨W',e',a'⟩:=out z hz
     rw[eW] at e';cases e'
     exact nbW_mem.mpr a'
    have two:=pN (x:=x) (nd m W eW)
    left
def endB (ts:List Tie)(x k:Nat):Bool:=decide ((tieAt ts k).1=(x:Int))||decide ((tieAt ts k).2.1=(x:Int))
def othN (ts:List Tie)(x k:Nat):Nat:=if (tieAt ts k).1=(x:Int) then (tieAt ts k).2.1.toNat else (tieAt ts k).1.toNat
theorem zT {n:Int}{ts:List Tie}(ok:WebOk n ts){ws:List Nat}(lk:linked ts ws){k x:Nat}(hk:k∈alongN ts ws)(hx:endB ts x k=true):AdjW ws x (othN ts x k):=by
 unfold alongN at hk
 obtain⟨i,hi,rfl⟩:=uau.mp hk
 have hi:=o8.mp hi
 have gi:ws[i]?=some (ws.getD i 0):=by rw[a8,c7 (by left)];rfl
 have gj:ws[i+1]?=some (ws.getD (i+1) 0):=by rw[a8,c7 (by left)];rfl
 obtain⟨k,e,hkl⟩:=fF lk gi gj
 obtain⟨e1,e2⟩:=zby e
 rw[e] at hx ⊢
 clear hk e
 have hx:endB ts x k=true:=hx
 show AdjW ws x (othN ts x k)
 generalize ws.getD i 0=u at gi e1 e2
 generalize ws.getD (i+1) 0=v at gj e1 e2
 have sp:ws=ws.take i++u::v::ws.drop (i+1+1):=by
  have h1:=j7.mp gi
  have h2:=j7.mp gj
  obtain⟨a1,b1⟩:=h1
  obtain⟨a2,b2⟩:=h2
  rw[← b1,← b2,List.getElem_cons_drop,List.getElem_cons_drop,ua6]
 unfold endB at hx
 unfold othN
 rw[e1,e2] at hx ⊢
 rw[ub6,decide_eq_true_eq,decide_eq_true_eq] at hx
 by_cases c:x=u
 ·have:(if min (u:Int) v=(x:Int) then (max (u:Int) v).toNat else (min (u:Int) v).toNat)=v:=by split <;> left
  rw[this,c]
  exact⟨_,_,.inl sp⟩
 ·have:(if min (u:Int) v=(x:Int) then (max (u:Int) v).toNat else (min (u:Int) v).toNat)=u:=by split <;> left
  have xv:x=v:=by left
  rw[this,xv]
  exact⟨_,_,.inr sp⟩
theorem yJ {n:Int}{ts:List Tie}(ok:WebOk n ts){os:List (Option (List Nat))}(hS:∀ (i j:Nat) (U W:List Nat),os.getD i none=some U->os.getD j none=some W->Far.Shr U W)(nd:∀ (i:Nat) (W:List Nat),os.getD i none=some W->W.Nodup/\linked ts W)(x:Nat):((twK ts os).filter (endB ts x)).length<=cntX x (pgP os os.length)+2:=by
 have kk:=cK ts os
 have lt:∀ k∈(twK ts os).filter (endB ts x),k<ts.length:=λ k hk=>kk.2 k (uaq.mp hk).1
 have en:∀ k∈(twK ts os).filter (endB ts x),(tieAt ts k).1=(x:Int)\/(tieAt ts k).2.1=(x:Int):=λ k hk=>by
  have:=(uaq.mp hk).2
  unfold endB at this
  rw[ub6,decide_eq_true_eq,decide_eq_true_eq] at this;exact this
 have h:=pU (x:=x) hS (λ i W e=>(nd i W e).1) os.length (((twK ts os).filter (endB ts x)).map (othN ts x)) ?_ ?_
 ·rw[c8] at h;exact h
 ·refine uaw.mpr ?_
  refine ((kk.1.imp λ h=>j8 h:(twK ts os).Nodup).filter (endB ts x)).imp_of_mem λ {a b} ha hb ne e=>ne ?_
  have ta:=ok.tie _ (bF (lt a ha)).2
  have tb:=ok.tie _ (bF (lt b hb)).2
  have ea:=en a ha
  have eb:=en b hb
  unfold othN at e
  refine oC ok (lt a ha) (lt b hb) ?_ ?_ <;> (split at e <;> split at e <;> left)
 ·intro y hy
  obtain⟨k,hk,rfl⟩:=uau.mp hy
  obtain⟨hk1,hk2⟩:=uaq.mp hk
  have hk1:=(uaq.mp hk1).2
  rw[ucc] at hk1
  obtain⟨o,ho,hk1⟩:=ucb.mp hk1
  obtain⟨i,hi⟩:=uc1.mp ho
  have hil:=(j7.mp hi).1
  cases o with
  | none=>cases hk1
  | some W =>
   have e:os.getD i none=some W:=by rw[a8,hi];rfl
   exact⟨i,hil,W,e,zT ok (nd i W e).2 hk1 hk2⟩
theorem jU (f g:Nat->Nat):∀ l:List Nat,(l.map λ x=>f x+g x).sum=(l.map f).sum+(l.map g).sum
 | []=>rfl
 | x::l=>by rw[ua1,ua1,ua1,uc5,uc5,uc5,jU f g l];left
theorem qN (f g:Nat->Nat):∀ l:List Nat,(∀ x∈l,f x<=g x)->(l.map f).sum<=(l.map g).sum
 | [],_=>h9 _
 | x::l,h=>by
  rw[ua1,ua1,uc5,uc5]
  have:=qN f g l λ y hy=>h y (i9 _ hy)
  have:=h x i5
  left
theorem oY (p:Nat->Bool):∀ l:List Nat,(l.map λ x=>if p x=true then 1 else 0).sum=(l.filter p).length
 | []=>rfl
 | x::l=>by
  rw[ua1,uc5,oY p l,ude]
  cases p x <;> simp <;> left
theorem jD (c:Nat):∀ l:List Nat,(l.map λ _=>c).sum=c*l.length
 | []=>rfl
 | x::l=>by rw[ua1,uc5,jD c l,l6,ufc];left
theorem oH {α:Type}(P:Nat->α->Bool)(xs:List Nat)(k:α)(l:List α):(xs.map λ x=>((k::l).filter (P x)).length).sum=(xs.filter λ x=>P x k).length+(xs.map λ x=>(l.filter (P x)).length).sum:=by
 rw[← oY,← jU]
 congr 1
 refine uaz λ x _=>?_
 rw[ude]
 cases P x k <;> simp <;> left
theorem rJ {α:Type}(P:Nat->α->Bool)(xs:List Nat)(c:Nat):∀ l:List α,(∀ k∈l,c<=(xs.filter λ x=>P x k).length)->c*l.length<=(xs.map λ x=>(l.filter (P x)).length).sum
 | [],_=>p7 _
 | k::l,h=>by
  rw[oH,l6,ufc]
  have:=rJ P xs c l λ z hz=>h z (i9 _ hz)
  have:=h k i5
  left
theorem rH {α:Type}(P:Nat->α->Bool)(xs:List Nat)(c:Nat):∀ l:List α,(∀ k∈l,(xs.filter λ x=>P x k).length<=c)->(xs.map λ x=>(l.filter (P x)).length).sum<=c*l.length
 | [],_=>by
  have e:(xs.map λ x=>(([]:List α).filter (P x)).length)=xs.map λ _=>0:=rfl
  rw[e,jD];simp
 | k::l,h=>by
  rw[oH,l6,ufc]
  have:=rH P xs c l λ z hz=>h z (i9 _ hz)
  have:=h k i5
  left
theorem zav {n:Int}{ts:List Tie}(ok:WebOk n ts){ks:List Nat}(hk:∀ k∈ks,k<ts.length){pg:List (List Int)}(h:∀ x,(ks.filter (endB ts x)).length<=cntX x pg+2):2*ks.length<=pg.length+2*n.toNat:=by
 have a:=rJ (endB ts) (d8 n.toNat) 2 ks λ k hkk=>by
  have t:=ok.tie _ (bF (hk k hkk)).2
  have m:∀ z:Nat,z=(tieAt ts k).1.toNat\/z=(tieAt ts k).2.1.toNat->z∈(d8 n.toNat).filter λ x=>endB ts x k:=λ z hz=>by
   refine uaq.mpr ⟨o8.mpr (by left),?_⟩
   unfold endB
   rw[ub6,decide_eq_true_eq,decide_eq_true_eq];left
  have:=eY (l:=[(tieAt ts k).1.toNat,(tieAt ts k).2.1.toNat]) (m:=(d8 n.toNat).filter λ x=>endB ts x k) (by
   refine ua3.mpr ⟨λ z=>?_,by simp⟩
   rw[k8] at z;left) λ z hz=>m z (by
    rcases j4.mp hz with z | z
    ·exact .inl z
    ·exact .inr (k8.mp z))
  exact this
 have b:=qN (λ x=>(ks.filter (endB ts x)).length) (λ x=>cntX x pg+2) (d8 n.toNat) λ x _=>h x
 have c:=jU (λ x=>cntX x pg) (λ _=>2) (d8 n.toNat)
 have d:=rH (λ x k=>decide (k.getD 2 0=((x:Nat):Int))) (d8 n.toNat) 1 pg λ k _=>by
  refine uao (eY (m:=[(k.getD 2 0).toNat]) (List.nodup_range.filter _) λ z hz=>?_) (h9 1)
  have:=(uaq.mp hz).2
  rw[decide_eq_true_eq] at this
  rw[k8];left
 have e:=jD 2 (d8 n.toNat)
 rw[v4] at e
 unfold cntX at b c
 left
def allIn (ts:List Tie)(ks:List Nat)(t:Int):Prop:=∀ k,k∈outs ts.length ks->withinB t (tieAt ts k).2.2 (gO ts ks k)=true
section
variable {n:Int}{ts:List Tie}{ks:List Nat}{prs:List (Option Int × Int)}
end
end L3
namespace Z3
open PySem
section
variable {prog:l9}{w:uak}{A:uae}{E:c9->d7->Prop}{s:d7}
end
end Z3
namespace L3
open PySem PySem.Spec PyProof.Rows L2
def isE (ts:List Tie)(u v:Int)(k:Nat):Bool:=decide ((tieAt ts k).1=min u v)&&decide ((tieAt ts k).2.1=max u v)
def lenI (ts:List Tie)(ks:List Nat)(u v:Int):Option Int:=(ks.find? (isE ts u v)).map λ k=>(tieAt ts k).2.2
section
variable {n:Int}{ts:List Tie}{ks:List Nat}
theorem isE_iff {u v:Int}{k:Nat}:isE ts u v k=true↔(tieAt ts k).1=min u v/\(tieAt ts k).2.1=max u v:=by
 unfold isE
 rw[o7,decide_eq_true_iff,decide_eq_true_iff]
theorem pO (ok:WebOk n ts){u v:Int}{j k:Nat}(hj:j<ts.length)(hk:k<ts.length)(h1:isE ts u v j=true)(h2:isE ts u v k=true):j=k:=by
 obtain⟨a1,a2⟩:=isE_iff.mp h1
 obtain⟨b1,b2⟩:=isE_iff.mp h2
 exact oC ok hj hk (a1.trans b1.symm) (a2.trans b2.symm)
theorem zc6 (ok:WebOk n ts)(ko:KeepOk ts.length ks){u v:Nat}{l:Int}(m:(u,v,l)∈arcs ts ks):lenI ts ks (u:Int) (v:Int)=some l:=by
 obtain⟨k,hk,m2⟩:=arcs_mem.mp m
 have hkl:=ko.2 k hk
 have tk:=ok.tie _ (bF hkl).2
 have c:isE ts (u:Int) (v:Int) k=true/\(tieAt ts k).2.2=l:=by
  rw[isE_iff]
  rcases arcs2_mem.mp m2 with e | e
  ·have e1:u=(tieAt ts k).1.toNat:=congrArg (·.1) e
   have e2:v=(tieAt ts k).2.1.toNat:=congrArg (·.2.1) e
   have e3:l=(tieAt ts k).2.2:=congrArg (·.2.2) e
   left
  ·have e1:u=(tieAt ts k).2.1.toNat:=congrArg (·.1) e
   have e2:v=(tieAt ts k).1.toNat:=congrArg (·.2.1) e
   have e3:l=(tieAt ts k).2.2:=congrArg (·.2.2) e
   left
 unfold lenI
 cases e:ks.find? (isE ts (u:Int) (v:Int)) with
 | none=>exact absurd c.1 (udn.mp e k hk)
 | some j =>
  have:=pO ok (ko.2 j (ubh e)) hkl (uc3 e) c.1
  rw[this]
  exact congrArg some c.2
theorem zcq (ok:WebOk n ts)(ko:KeepOk ts.length ks){u v:Nat}{l:Int}(h:lenI ts ks (u:Int) (v:Int)=some l):(u,v,l)∈arcs ts ks:=by
 unfold lenI at h
 obtain⟨k,e,rfl⟩:=u7.mp h
 have hk:=ubh e
 have c:=isE_iff.mp (uc3 e)
 have tk:=ok.tie _ (bF (ko.2 k hk)).2
 refine arcs_mem.mpr ⟨k,hk,arcs2_mem.mpr ?_⟩
 rcases Nat.lt_or_ge u v with z | z
 ·exact .inl (by rw[show u=(tieAt ts k).1.toNat by left,show v=(tieAt ts k).2.1.toNat by left])
 ·exact .inr (by rw[show u=(tieAt ts k).2.1.toNat by left,show v=(tieAt ts k).1.toNat by left])
def stepY (ts:List Tie)(ks:List Nat)(ws:List Int)(j:Nat):Option Int:=lenI ts ks (ws.getD j 0) (ws.getD (j+1) 0)
def sumY (ts:List Tie)(ks:List Nat)(ws:List Int):Nat->Option Int
 | 0=>some 0
 | j+1=>(sumY ts ks ws j).bind λ x=>(stepY ts ks ws j).map λ l=>x+l
def rightI (n:Int)(ts:List Tie)(ks:List Nat)(ws:List Int):Option Int:=if (ws≠[]/\ws.Nodup)/\ws.all (λ i=>decide (0<=i)&&decide (i<n))=true then sumY ts ks ws (ws.length-1) else none
theorem nD {ws ws':List Int}:∀ {j:Nat},(∀ i,i<=j->ws.getD i 0=ws'.getD i 0)->sumY ts ks ws j=sumY ts ks ws' j
 | 0,_=>rfl
 | j+1,h=>by
  have e:stepY ts ks ws j=stepY ts ks ws' j:=by unfold stepY;rw[h j (by left),h (j+1) (h9 _)]
  rw[sumY,sumY,nD λ i hi=>h i (by left),e]
theorem zde (ok:WebOk n ts)(ko:KeepOk ts.length ks){a b:Nat}{ws:List Nat}{x:Int}(h:Far.Tr (arcs ts ks) a ws b x):sumY ts ks (keepI ws) (ws.length-1)=some x:=by
 induction h with
 | one=>rfl
 | @snoc ws u v x l t m ih =>
  obtain⟨r,er⟩:=gX t
  have lw:ws.length=r.length+1:=by rw[er,i6];rfl
  have ek:keepI (ws++[v])=keepI ws++[(v:Int)]:=by unfold keepI;rw[ubs];rfl
  have lk:(keepI ws).length=ws.length:=by unfold keepI;rw[c8]
  have e1:sumY ts ks (keepI (ws++[v])) r.length=some x:=by
   rw[← ih,show ws.length-1=r.length by left]
   refine nD λ i hi=>?_
   rw[ek,a8,a8,z0 (by left)]
  have e2:stepY ts ks (keepI (ws++[v])) r.length=some l:=by
   unfold stepY
   have g1:(keepI (ws++[v])).getD r.length 0=(u:Int):=by
    rw[ek,a8,z0 (by left),er]
    unfold keepI
    rw[ubs,v8 (by rw[c8];exact h9 _),c8,ueh];rfl
   have g2:(keepI (ws++[v])).getD (r.length+1) 0=(v:Int):=by
    rw[ek,a8,v8 (by left),lk,lw,ueh];rfl
   rw[g1,g2]
   exact zc6 ok ko m
  rw[i6,t6,uei,lw,sumY,e1,Option.bind_some,e2];rfl
theorem yB (ok:WebOk n ts)(ko:KeepOk ts.length ks){a b:Nat}{ws:List Nat}{x:Int}(ha:a<n.toNat)(m:Far.MinW (arcsB ts ks) a b ws)(t:Far.Tr (arcs ts ks) a ws b x):rightI n ts ks (keepI ws)=some x:=by
 unfold rightI
 have nd:=m.nodup
 have ins:∀ u∈ws,u<n.toNat:=by
  clear m nd
  induction t with
  | one=>intro u hu;rw[k8.mp hu];exact ha
  | @snoc ws u v x l t m ih =>
   intro y hy
   rcases u4.mp hy with z | z
   ·exact ih y z
   ·rw[k8.mp z]
    exact (iH ok ko u v l m).2
 have ne:keepI ws≠[]:=by
  intro e
  unfold keepI at e
  have:ws=[]:=List.map_eq_nil_iff.mp e
  obtain⟨r,er⟩:=gX t
  rw[this] at er
  simp at er
 have nd2:(keepI ws).Nodup:=by
  unfold keepI
  rw[uai,uaw]
  exact nd.imp λ z y=>z (by left)
 have al:(keepI ws).all (λ i=>decide (0<=i)&&decide (i<n))=true:=by
  rw[uas]
  intro i hi
  unfold keepI at hi
  obtain⟨u,hu,rfl⟩:=uau.mp hi
  have:=ins u hu
  rw[o7,decide_eq_true_iff,decide_eq_true_iff]
  left
 have lk:(keepI ws).length=ws.length:=by unfold keepI;rw[c8]
 rw[uhd ⟨⟨ne,nd2⟩,al⟩,lk]
 exact zde ok ko t
noncomputable def wyK (ts:List Tie)(ks:List Nat)(a b:Nat):Option (List Nat):=@dite _ (∃ ws,Far.MinW (arcsB ts ks) a b ws) (Classical.propDecidable _) (λ h=>some (Classical.choose h)) (λ _=>none)
noncomputable def dK (ts:List Tie)(ks:List Nat)(u v:Nat):Option Int:=Classical.epsilon λ o=>Far.Dst (arcs ts ks) u v o
noncomputable def dKL (n:Int)(ts:List Tie)(ks:List Nat)(u:Nat):List (Option Int):=(d8 n.toNat).map λ v=>dK ts ks u v
noncomputable def htK (n:Int)(ts:List Tie)(ks:List Nat)(t:Int)(k:Nat):List Int:=(dKL n ts ks (tieAt ts k).1.toNat).map (capO (t*(tieAt ts k).2.2+1))
end
def winK (ts:List Tie)(ks:List Nat)(t:Int)(k:Nat):Prop:=withinB t (tieAt ts k).2.2 (gO ts ks k)=true
noncomputable def wyT (ts:List Tie)(ks:List Nat)(k:Nat):Option (List Nat):=wyK ts ks (tieAt ts k).1.toNat (tieAt ts k).2.1.toNat
def FirstOut (ts:List Tie)(ks:List Nat)(t:Int)(i k:Nat):Prop:=(outs ts.length ks)[i]?=some k/\¬ winK ts ks t k/\∀ j k',j<i->(outs ts.length ks)[j]?=some k'->winK ts ks t k'
inductive TdD (n:Int)(ts:List Tie)(ks:List Nat)(t:Int):ua9->Prop
 | keeps:allIn ts ks t->TdD n ts ks t (.tuple [.str "keeps",.tuple ((outs ts.length ks).map λ k=>wyD (wyT ts ks k))])
 | far {i k:Nat}:FirstOut ts ks t i k->TdD n ts ks t (.tuple [.str "far",.int (k:Int),tupH (htK n ts ks t k)])
def PairsL (H:Hp)(xs ys zs:List V)(m:Nat):Prop:=zs.length=m/\∀ (j:Nat)(z:V),zs[j]?=some z->∃ (T:l7)(x y:V),z=V.ref T/\xs[j]?=some x/\ys[j]?=some y/\H T=some (.tup [x,y])
section
variable {X:Cx}{pins:List (l7 × Obj)}{σ:L2.St}
end
section
variable {n:Int}{ts:List Tie}{ks:List Nat}
theorem zA (ks:List Nat):inV .non (natV ks)=false:=by
 unfold inV natV
 induction ks with
 | nil=>rfl
 | cons k ks ih=>rw[ua1,uft,ih];rfl
theorem zdu (ok:WebOk n ts)(ko:KeepOk ts.length ks)(u v:Nat):inV (oa (tbN ts u v)) (natV ks)=(lenI ts ks (u:Int) (v:Int)).isSome:=by
 unfold lenI
 rw[Option.isSome_map]
 cases e:tbN ts u v with
 | none =>
  show inV .non (natV ks)=_
  rw[zA]
  cases f:ks.find? (isE ts (u:Int) (v:Int)) with
  | none=>rfl
  | some k =>
   have h1:=uc3 f
   have h2:=ko.2 k (ubh f)
   unfold tbN at e
   exact absurd h1 (udn.mp e k (o8.mpr h2))
 | some k =>
  have hk:=o8.mp (ubh e)
  have h1:=uc3 e
  show inV (.int (k:Int)) (natV ks)=_
  rw[pR (uat _),v5]
  cases f:ks.find? (isE ts (u:Int) (v:Int)) with
  | none=>exact uhc λ hk'=>udn.mp f k hk' h1
  | some j =>
   have:=pO ok (ko.2 j (ubh f)) hk (uc3 f) h1
   exact uha (this ▸ ubh f)
theorem lU {ws:List Int}:∀ m,(sumY ts ks ws m).isSome=(d8 m).all λ j=>(stepY ts ks ws j).isSome
 | 0=>rfl
 | m+1=>by
  rw[ubg,List.all_append,← lU m,sumY]
  cases e:sumY ts ks ws m with
  | none=>rfl
  | some x=>cases e2:stepY ts ks ws m <;> simp [e2]
theorem qM (ok:WebOk n ts)(ko:KeepOk ts.length ks){us:List Nat}{a:Nat}(h0:us[0]?=some a):∀ (j:Nat)(b:Nat)(x:Int),us[j]?=some b->sumY ts ks (keepI us) j=some x->Far.Tr (arcs ts ks) a (us.take (j+1)) b x
 | 0,b,x,hb,hx=>by
  rw[h0] at hb
  cases hb
  cases hx
  have:us.take 1=[a]:=by
   cases us with
   | nil=>cases h0
   | cons y r=>cases h0;rfl
  rw[this]
  exact .one
 | j+1,b,x,hb,hx=>by
  have hj:=(j7.mp hb).1
  have hc:us[j]?=some us[j]:=c7 (by left)
  rw[sumY] at hx
  obtain⟨y,hy,h⟩:=ugz.mp hx
  obtain⟨l,hl,rfl⟩:=u7.mp h
  have t:=qM ok ko h0 j _ y hc hy
  rw[show us.take (j+1+1)=us.take (j+1)++[b] by rw[uen,hb];rfl]
  refine .snoc t (zcq ok ko ?_)
  rw[← hl]
  unfold stepY keepI
  rw[a8,i8,hc,a8,i8,hb];rfl
theorem lW (ok:WebOk n ts)(ko:KeepOk ts.length ks){ws:List Int}{x:Int}(h:rightI n ts ks ws=some x):∃ us:List Nat,ws=keepI us/\us.length<=24/\linked ts us/\wl ts us=x:=by
 unfold rightI at h
 split at h
 ·rename_i c
  obtain⟨⟨ne,nd⟩,al⟩:=c
  have n24:=ok.n24
  have pl:∀ i∈ws,0<=i/\i<n:=λ i hi=>by
   have:=uas.mp al i hi
   rw[o7,decide_eq_true_iff,decide_eq_true_iff] at this
   exact this
  have ew:ws=keepI (ws.map ubo):=by
   unfold keepI
   rw[uaj]
   conv=>lhs;rw[← uc2 ws]
   refine uaz λ i hi=>?_
   show i=((i.toNat:Nat):Int)
   have:=pl i hi;left
  have lw:(ws.map ubo).length=ws.length:=c8 _
  have pos:0<ws.length:=uco.mpr ne
  have h0:(ws.map ubo)[0]?=some (ws.map ubo)[0]:=c7 (by left)
  have hl:(ws.map ubo)[ws.length-1]?=some (ws.map ubo)[ws.length-1]:=c7 (by left)
  rw[ew] at h
  have lk:(keepI (ws.map ubo)).length=ws.length:=by rw[← ew]
  rw[lk] at h
  have t:=qM ok ko h0 _ _ _ hl h
  rw[uam (by left)] at t
  obtain⟨e1,e2⟩:=fZ ok ko t
  refine⟨ws.map ubo,ew,?_,e2,e1⟩
  have nd2:(ws.map ubo).Nodup:=by
   rw[uai,uaw]
   refine ud2 ?_ nd
   intro a b ha hb ne z
   have:=pl a ha
   have:=pl b hb
   left
  have:=nR (b:=d8 n.toNat) nd2 λ u hu=>by
   obtain⟨i,hi,rfl⟩:=uau.mp hu
   have:=pl i hi
   exact o8.mpr (by left)
  rw[v4] at this
  left
 ·cases h
end
section
variable {X:Cx}
end
def leadsI (n:Int)(ts:List Tie)(ks:List Nat)(a b:Int)(ws:List Int):Bool:=(rightI n ts ks ws).isSome&&(decide (ws.getD 0 0=a)&&decide (ws.getD (ws.length-1) 0=b))
def goodW (n:Int)(ts:List Tie)(ks:List Nat)(t:Int)(k:Nat)(ws:List Int):Bool:=leadsI n ts ks (tieAt ts k).1 (tieAt ts k).2.1 ws&&decide ((rightI n ts ks ws).getD 0<=t*(tieAt ts k).2.2)
def beyondI (n:Int)(ts:List Tie)(ks:List Nat)(t:Int)(k:Nat)(hs:List Int):Bool:=holdB n ts ks hs&&decide (acrossI ts hs k>t*(tieAt ts k).2.2)
def waysB (n:Int)(ts:List Tie)(ks:List Nat)(t:Int)(W:List (List Int)):Bool:=decide (W.length=(outs ts.length ks).length)&&(d8 (outs ts.length ks).length).all λ i=>goodW n ts ks t ((outs ts.length ks).getD i 0) (W.getD i [])
def farB (n:Int)(ts:List Tie)(ks:List Nat)(t:Int)(k:Int)(hs:List Int):Bool:=(decide (0<=k)&&decide (k<(ts.length:Int)))&&(!decide (k.toNat∈ks)&&beyondI n ts ks t k.toNat hs)
inductive Ppr where
 | keeps (W:List (List Int)):Ppr
 | far (k:Int) (hs:List Int):Ppr
def Ppr.d:Ppr->ua9
 | .keeps W=>.tuple [.str "keeps",.tuple (W.map tupH)]
 | .far k hs=>.tuple [.str "far",.int k,tupH hs]
def Ppr.ok:Ppr->Prop
 | .keeps W=>W.length<=1000/\∀ ws∈W,ws.length<=40
 | .far _ hs=>hs.length<=1000
def Ppr.right (n:Int)(ts:List Tie)(ks:List Nat)(t:Int):Ppr->Bool
 | .keeps W=>waysB n ts ks t W
 | .far k hs=>farB n ts ks t k hs
end L3
namespace Far
theorem jB {A B:List (Nat × Nat × Int)}(h:∀ a∈A,a∈B){s v:Nat}{x:Int}(w:Walk A s v x):Walk B s v x:=by
 induction w with
 | nil=>exact .nil
 | snoc w m ih=>exact .snoc ih (h _ m)
theorem zb9 {A B:List Arc}{a b:Nat}{ws S:List Nat}{x y:Int}(r:Rt A a ws S b x y):(∀ c∈A,c.2.2.2∈S->c∈B)->Rt B a ws S b x y:=by
 induction r with
 | one=>intro _;exact .one
 | snoc r m nv ih=>intro h;exact .snoc (ih λ c hc hs=>h c hc (ubw _ hs)) (h _ m (t5 _ (k8.mpr rfl))) nv
end Far
namespace L3
open PySem PySem.Spec PyProof.Rows L2
section
variable {n:Int}{ts:List Tie}{ks:List Nat}
theorem mU (ko:KeepOk ts.length ks):∀ a∈arcsB ts ks,a∈arcsB ts (d8 ts.length):=λ a h=>by
 obtain⟨k,hk,m⟩:=arcsB_mem.mp h
 exact arcsB_mem.mpr ⟨k,o8.mpr (ko.2 k hk),m⟩
theorem oQ (ok:WebOk n ts)(ko:KeepOk ts.length ks):∀ a∈arcs ts ks,a∈arcs ts (d8 ts.length):=by
 rw[← cF,← cF]
 intro a h
 unfold Far.arcsF at h ⊢
 obtain⟨b,hb,e⟩:=uau.mp h
 exact uau.mpr ⟨b,mU ko b hb,e⟩
theorem gM {a b:Nat}{ws:List Nat}(h:wyN ts a b=some ws):Far.MinW (arcsB ts (d8 ts.length)) a b ws:=by
 unfold wyN at h
 split at h
 ·rename_i ex
  have e:=uav h
  rw[← e]
  exact Classical.choose_spec ex
 ·cases h
theorem kN (ok:WebOk n ts){a b:Nat}(hb:b<n.toNat){x:Int}(eg:dG ts a b=some x):∃ ws,wyN ts a b=some ws/\Far.Tr (arcs ts (d8 ts.length)) a ws b x:=by
 have ko:=bR ts
 have KB:=eH ok ko
 have dst:=dA ok a b
 rw[eg] at dst
 obtain⟨cs,as,B⟩:=Far.wI KB (λ u v l k m=>oR ok ko m) hb
 have d1:=B.dst1 KB a
 rw[cF] at d1
 have e2:=(d1.back (jJ ok ko)).unique dst
 obtain⟨c,ec,ecy⟩:=u7.mp e2
 obtain⟨ws,S,r,tp,_⟩:=B.route KB _ _ c ec (h9 _)
 have tp':Far.TPw as b ws.reverse.reverse a:=by rw[ubv];exact tp
 have m:=B.minw KB tp' ec
 obtain⟨S',u⟩:=B.uni KB tp' ec
 have tr:=u.rt.tr
 rw[cF,ecy] at tr
 exact⟨ws.reverse,mY ok m,tr⟩
theorem rL (ok:WebOk n ts){a b:Nat}(eg:dG ts a b=none):wyN ts a b=none:=by
 have dst:=dA ok a b
 rw[eg] at dst
 exact mZ dst
theorem qL (ok:WebOk n ts)(ko:KeepOk ts.length ks){a b:Nat}{ws:List Nat}{x:Int}(h:wyN ts a b=some ws)(tr:Far.Tr (arcs ts (d8 ts.length)) a ws b x)(d:dG ts a b=some x)(hk:∀ k∈alongN ts ws,k∈ks) :
  Far.MinW (arcsB ts ks) a b ws/\Far.Tr (arcs ts ks) a ws b x/\Far.Dst (arcs ts ks) a b (some x):=by
 obtain⟨S,x1,y1,r,l⟩:=gM h
 have hS:∀ k∈S,k∈ks:=λ k hkS=>by
  obtain⟨i,hi⟩:=uc1.mp hkS
  obtain⟨u,v,l2,eu,ev,m⟩:=r.step hi
  have hl:=r.len
  have il:=(j7.mp hi).1
  refine hk k ?_
  unfold alongN
  refine uau.mpr ⟨i,o8.mpr (by left),?_⟩
  rw[a8,eu,a8,ev]
  show (tbN ts u v).getD 0=k
  rw[zbz ok (bR ts) m];rfl
 have r2:Far.Rt (arcsB ts ks) a ws S b x1 y1:=Far.zb9 r λ c hc hs=>by
  obtain⟨k,hk,m⟩:=arcsB_mem.mp hc
  have e:c.2.2.2=k:=by rcases arcs2B_mem.mp m with e | e <;> rw[e]
  exact arcsB_mem.mpr ⟨k,by rw[← e];exact hS _ hs,m⟩
 have tr1:=r.tr
 rw[cF] at tr1
 have tr2:=r2.tr
 rw[cF] at tr2
 have ex:x1=x:=by rw[← (fZ ok (bR ts) tr1).1,← (fZ ok (bR ts) tr).1]
 rw[ex] at tr2
 refine⟨⟨S,x1,y1,r2,λ L w=>l L (Far.jB (λ a ha=>?_) w)⟩,tr2,⟨λ y e=>?_,λ L hL=>?_⟩⟩
 ·obtain⟨u,v,c⟩:=a
  obtain⟨l',k,m,e⟩:=Far.arcsC_mem.mp ha
  exact Far.arcsC_mem.mpr ⟨l',k,mU ko _ m,e⟩
 ·cases e
  have w:=r2.walk
  rw[cF,ex] at w
  exact w
 ·have dst:=dA ok a b
  rw[d] at dst
  exact dst.2 L (Far.jB (oQ ok ko) hL)
theorem zco (ok:WebOk n ts)(ko:KeepOk ts.length ks){a b:Nat}(d:dG ts a b=none):Far.Dst (arcs ts ks) a b none:=by
 refine⟨λ y e=>(by cases e),λ L hL=>?_⟩
 have dst:=dA ok a b
 rw[d] at dst
 obtain⟨y,e,_⟩:=dst.2 L (Far.jB (oQ ok ko) hL)
 cases e
theorem wF {m:Nat}{ks:List Nat}(h:KeepOk m ks):keepB m (tupI (keepI ks))=true:=by
 show (((keepI ks).map udt).all (numB m)&&risI (((keepI ks).map udt).map intOf))=true
 have e:((keepI ks).map udt).map intOf=keepI ks:=by
  rw[uaj];exact (uaz λ _ _=>rfl).trans (uc2 _)
 rw[e,(nL _).mpr (by unfold keepI;rw[uaw];exact h.1.imp λ h=>by left),ug9,ucd,uas]
 intro i hi
 unfold keepI at hi
 obtain⟨k,hk,rfl⟩:=uau.mp hi
 have:=h.2 k hk
 show (decide (0<=(k:Int))&&decide ((k:Int)<(m:Int)))=true
 rw[uha (by left:0<=(k:Int)),uha (by left:(k:Int)<(m:Int))];rfl
theorem mL (us:List Nat):(keepI us).map ubo=us:=by
 unfold keepI
 rw[uaj]
 exact (uaz λ x _=>v5 x).trans (uc2 us)
theorem zab {A:List (Nat × Nat × Int)}{a b:Nat}{ws:List Nat}{x:Int}(t:Far.Tr A a ws b x):(keepI ws).getD 0 0=(a:Int)/\(keepI ws).getD ((keepI ws).length-1) 0=(b:Int):=by
 obtain⟨r,e⟩:=gX t
 have hd:∃ q,ws=a::q:=by
  clear e
  induction t with
  | one=>exact⟨[],rfl⟩
  | snoc t m ih=>obtain⟨q,rfl⟩:=ih;exact⟨q++[_],rfl⟩
 obtain⟨q,eq⟩:=hd
 constructor
 ·rw[eq];rfl
 ·rw[e]
  unfold keepI
  rw[ubs,i6,c8,a8,v8 (by rw[c8];simp)]
  simp
end
end L3
namespace Z3
open PySem
theorem sW (a b c:c9):checkTypeCall "zip" ⟨[a,b,c],[]⟩=pure ():=by kernel_rfl
theorem uD (a b c:c9):checkBuiltinCall "zip.__new__" ⟨[.type "zip",a,b,c],[]⟩=pure ():=by kernel_rfl
theorem rZ (a b c d:c9):argsOk "object.__init__" ⟨[a,b,c,d],[]⟩:=by
 unfold argsOk;rw[signature?_of (id:="object.__init__") (n:=['_','_','t','i','n','i','_','_']) (o:=['t','c','e','j','b','o']) (by kernel_rfl) F.owner_object];kernel_rfl
abbrev IsTri (h:Heap)(T:l7)(a b c:c9):Prop:=h.get? T=some { cls:=.type "tuple",data:=.seq #[a,b,c] }
section
variable {prog:l9}{w:uak}{A:uae}{E:c9->d7->Prop}{s:d7}
theorem iQ {T:l7}{a b c x:c9}{k:Nat}{Q:Unit->d7->Prop}(hT:IsTri s.heap T a b c)
  (h:∀ h',h'.get? T=some { cls:=.type "tuple",data:=.seq ((#[a,b,c]:Array c9).setIfInBounds k x) }->Heap.SameBut T s.heap h'->Q () { s with heap:=h' }) :
  j9 (o9 prog w) A (updateSeq T (·.setIfInBounds k x)) Q E s:=by
 refine wpAny_updateSeq hT rfl (h _ ?_ (ubr ..))
 rw[ub0 _ hT rfl]
 simp [Obj.mapSeq]
structure Zt (h:Heap)(z TI TO i1 i2 i3 l1 l2 l3:l7)(f0:c9)(k:Nat):Prop where
 z:IsZip h z TI TO f0
 ti:IsTri h TI (.ref i1) (.ref i2) (.ref i3)
 to:∃ a b c,IsTri h TO a b c
 a1:h.IsTupleIter i1 l1 k
 a2:h.IsTupleIter i2 l2 k
 a3:h.IsTupleIter i3 l3 k
structure At3 (z TI TO i1 i2 i3:l7):Prop where
 n1:TI≠z
 n2:TO≠z
 n3:i1≠z
 n4:i2≠z
 n5:i3≠z
 n6:TI≠TO
 n7:TI≠i1
 n8:TI≠i2
 n9:TI≠i3
 m1:TO≠i1
 m2:TO≠i2
 m3:TO≠i3
 m4:i1≠i2
 m5:i1≠i3
 m6:i2≠i3
def Ot (z TI TO i1 i2 i3 l:l7):Prop:=l≠z/\l≠TI/\l≠TO/\l≠i1/\l≠i2/\l≠i3
theorem bI {h h':Heap}{it l:l7}{i:Nat}(x:h.IsTupleIter it l i)(e:∀ o,h.get? it=some o->h'.get? it=some o):h'.IsTupleIter it l i:=Heap.IsTupleIter.at x e
theorem eV {h h':Heap}{l:l7}{xs:Array c9}(x:h.IsTuple l xs)(e:∀ o,h.get? l=some o->h'.get? l=some o):h'.IsTuple l xs:=Heap.IsTuple.at x e
theorem zbn {z TI TO i1 i2 i3 l1 l2 l3:l7}{k:Nat}{xs ys zs:Array c9}{x y u:c9}{Q:c9->d7->Prop}(D:At3 z TI TO i1 i2 i3)(o1:Ot z TI TO i1 i2 i3 l1)(o2:Ot z TI TO i1 i2 i3 l2)(o3:Ot z TI TO i1 i2 i3 l3)
  (Z:Zt s.heap z TI TO i1 i2 i3 l1 l2 l3 .none k) (hl1:s.heap.IsTuple l1 xs) (hl2:s.heap.IsTuple l2 ys) (hl3:s.heap.IsTuple l3 zs) (hx:xs[k]?=some x) (hy:ys[k]?=some y) (hu:zs[k]?=some u)
  (hQ:∀ h',Zt h' z TI TO i1 i2 i3 l1 l2 l3 (rawInt s.heap.objs.size) (k+1)->IsTri h' s.heap.objs.size x y u->h'.objs.size=s.heap.objs.size+1 ->
   (∀ c o,c≠z->c≠TO->c≠i1->c≠i2->c≠i3->s.heap.get? c=some o->h'.get? c=some o)->Q (.ref s.heap.objs.size) { s with heap:=h' }) :
  j9 (o9 prog w) A (Builtin.«zip.__next__» ⟨[.ref z],[]⟩) (λ fin s'=>∃ v,fin=.done (.ret v)/\Q v s') E s:=by
 obtain⟨hz,hti,⟨a,b,c,hto⟩,h1,h2,h3⟩:=Z
 show j9 _ _ (field (.ref z) 2 >>= _) _ _ s
 refine a9 (uah hz rfl (x:=.bool false) rfl ?_)
 show j9 _ _ (field (.ref z) 3 >>= _) _ _ s
 refine a9 (uah hz rfl (x:=.ref TI) rfl ?_)
 refine a9 (ua7 hti rfl ?_)
 show j9 _ _ (Builtin.SmallTypes.ownedTupleIsFree (.ref z) >>= _) _ _ s
 refine a9 ?_
 unfold Builtin.SmallTypes.ownedTupleIsFree
 refine a9 (uah hz rfl (x:=.none) rfl (f9 ?_))
 simp only [if_true]
 refine a9 (ubz ?_)
 refine a9 (uah hz rfl (x:=.ref TO) rfl ?_)
 refine a9 (uag hz (by simp) λ g1 z1 e1=>?_)
 replace z1:IsZip g1 z TI TO .ellipsis:=z1
 refine a9 ?_
 simp only [udy,ue7,ud7,ufl]
  -- the first
 refine a9 (a9 (udd ?_))
 show j9 _ _ (Builtin.SmallTypes.nextOf (.ref i1) >>= _) _ _ { s with heap:=g1 }
 refine a9 (gP (bI h1 λ o e=>e1.extBut _ _ D.n3 e) (eV hl1 λ o e=>e1.extBut _ _ o1.1 e) hx λ g2 a2 e2=>f9 ?_)
 have b2:IsTri g2 TO a b c:=e2.extBut _ _ D.m1 (e1.extBut _ _ D.n2 hto)
 refine a9 (ua7 b2 rfl ?_)
 refine a9 (iQ b2 λ g3 b3 e3=>?_)
 replace b3:IsTri g3 TO x b c:=b3
 refine a9 (uel (f9 ?_))
  -- the second
 refine a9 (a9 (udd ?_))
 show j9 _ _ (Builtin.SmallTypes.nextOf (.ref i2) >>= _) _ _ { s with heap:=g3 }
 have k3:∀ c o,c≠z->c≠i1->c≠TO->s.heap.get? c=some o->g3.get? c=some o:=λ c o c1 c2 c3 e=>e3.extBut _ _ c3 (e2.extBut _ _ c2 (e1.extBut _ _ c1 e))
 refine a9 (gP (bI h2 λ o e=>k3 _ _ D.n4 D.m4.symm D.m2.symm e) (eV hl2 λ o e=>k3 _ _ o2.1 o2.2.2.2.1 o2.2.2.1 e) hy λ g4 a4 e4=>f9 ?_)
 have b4:IsTri g4 TO x b c:=e4.extBut _ _ D.m2 b3
 refine a9 (ua7 b4 rfl ?_)
 refine a9 (iQ b4 λ g5 b5 e5=>?_)
 replace b5:IsTri g5 TO x y c:=b5
 refine a9 (uel (f9 ?_))
  -- the third
 refine a9 (a9 (udd ?_))
 show j9 _ _ (Builtin.SmallTypes.nextOf (.ref i3) >>= _) _ _ { s with heap:=g5 }
 have k5:∀ c o,c≠z->c≠i1->c≠TO->c≠i2->s.heap.get? c=some o->g5.get? c=some o:=λ c o c1 c2 c3 c4 e=>e5.extBut _ _ c3 (e4.extBut _ _ c4 (k3 c o c1 c2 c3 e))
 refine a9 (gP (bI h3 λ o e=>k5 _ _ D.n5 D.m5.symm D.m3.symm D.m6.symm e) (eV hl3 λ o e=>k5 _ _ o3.1 o3.2.2.2.1 o3.2.2.1 o3.2.2.2.2.1 e) hu λ g6 a6 e6=>f9 ?_)
 have b6:IsTri g6 TO x y c:=e6.extBut _ _ D.m3 b5
 refine a9 (ua7 b6 rfl ?_)
 refine a9 (iQ b6 λ g7 b7 e7=>?_)
 replace b7:IsTri g7 TO x y u:=b7
 refine a9 (uel (f9 (f9 ?_)))
 refine a9 (ua7 b7 rfl ?_)
 refine a9 (uew ?_)
 have sz:g7.objs.size=s.heap.objs.size:=by rw[e7.1,e6.1,e5.1,e4.1,e3.1,e2.1,e1.1]
 have k7:∀ c o,c≠z->c≠TO->c≠i1->c≠i2->c≠i3->s.heap.get? c=some o->g7.get? c=some o:=λ c o c1 c2 c3 c4 c5 e=>e7.extBut _ _ c2 (e6.extBut _ _ c5 (k5 c o c1 c3 c2 c4 e))
 have z7:IsZip g7 z TI TO .ellipsis:=e7.extBut _ _ D.n2.symm (e6.extBut _ _ D.n5.symm (e5.extBut _ _ D.n2.symm (e4.extBut _ _ D.n4.symm (e3.extBut _ _ D.n2.symm (e2.extBut _ _ D.n3.symm z1)))))
 have c1:g7.IsTupleIter i1 l1 (k+1):=bI a2 λ o e=>e7.extBut _ _ D.m1.symm (e6.extBut _ _ D.m5 (e5.extBut _ _ D.m1.symm (e4.extBut _ _ D.m4 (e3.extBut _ _ D.m1.symm e))))
 have c2:g7.IsTupleIter i2 l2 (k+1):=bI a4 λ o e=>e7.extBut _ _ D.m2.symm (e6.extBut _ _ D.m6 (e5.extBut _ _ D.m2.symm e))
 have c3:g7.IsTupleIter i3 l3 (k+1):=bI a6 λ o e=>e7.extBut _ _ D.m3.symm e
 have zlt:z<g7.objs.size:=j0 z7
 show j9 _ _ (Builtin.SmallTypes.ownedTupleHandOut (.ref z) (.ref g7.objs.size) >>= _) _ _ { s with heap:=_ }
 refine a9 ?_
 unfold Builtin.SmallTypes.ownedTupleHandOut
 have z8:IsZip (g7.push { cls:=.type "tuple",data:=.seq #[x,y,u] }) z TI TO .ellipsis:=c6 _ z7
 refine a9 (uag z8 (by simp) λ g9 z9 e9=>?_)
 replace z9:IsZip g9 z TI TO (rawInt g7.objs.size):=z9
 refine uag z9 (by simp) λ ga za ea=>?_
 replace za:IsZip ga z TI TO (rawInt g7.objs.size):=za
 have up:∀ c o,c≠z->g7.get? c=some o->ga.get? c=some o:=λ c o c1 e=>ea.extBut _ _ c1 (e9.extBut _ _ c1 (c6 _ e))
 have ta:IsTri ga g7.objs.size x y u:=ea.extBut _ _ (ucm zlt) (e9.extBut _ _ (ucm zlt) (i7 _ rfl))
 have sza:ga.objs.size=g7.objs.size+1:=by rw[ea.1,e9.1,w8]
 rw[sz] at za ta sza
 refine f9 ⟨_,rfl,?_⟩
 show Q (.ref g7.objs.size) { s with heap:=ga }
 rw[sz]
 exact hQ ga ⟨za,up _ _ D.n1 (k7 _ _ D.n1 D.n6 D.n7 D.n8 D.n9 hti),⟨x,y,u,up _ _ D.n2 b7⟩,bI c1 λ o e=>up _ o D.n3 e,bI c2 λ o e=>up _ o D.n4 e,bI c3 λ o e=>up _ o D.n5 e⟩ ta sza λ c o d1 d2 d3 d4 d5 e=>up c o d1 (k7 c o d1 d2 d3 d4 d5 e)
theorem zbm {z TI TO i1 i2 i3 l1 l2 l3:l7}{k:Nat}{xs:Array c9}{Q:Fin->d7->Prop}(hh:A.handled=none)(D:At3 z TI TO i1 i2 i3)(o1:Ot z TI TO i1 i2 i3 l1)
  (Z:Zt s.heap z TI TO i1 i2 i3 l1 l2 l3 .none k) (hl1:s.heap.IsTuple l1 xs) (hx:xs[k]?=none)
  (hE:∀ h' e,(∀ c o,c≠z->c≠TO->c≠i1->c≠i2->c≠i3->s.heap.get? c=some o->h'.get? c=some o)->(∃ o,h'.get? e=some o/\o.cls=.type "StopIteration")->E (.ref e) { s with heap:=h' }) :
  j9 (o9 prog w) A (Builtin.«zip.__next__» ⟨[.ref z],[]⟩) Q E s:=by
 obtain⟨hz,hti,⟨a,b,c,hto⟩,h1,h2,h3⟩:=Z
 show j9 _ _ (field (.ref z) 2 >>= _) _ _ s
 refine a9 (uah hz rfl (x:=.bool false) rfl ?_)
 show j9 _ _ (field (.ref z) 3 >>= _) _ _ s
 refine a9 (uah hz rfl (x:=.ref TI) rfl ?_)
 refine a9 (ua7 hti rfl ?_)
 show j9 _ _ (Builtin.SmallTypes.ownedTupleIsFree (.ref z) >>= _) _ _ s
 refine a9 ?_
 unfold Builtin.SmallTypes.ownedTupleIsFree
 refine a9 (uah hz rfl (x:=.none) rfl (f9 ?_))
 simp only [if_true]
 refine a9 (ubz ?_)
 refine a9 (uah hz rfl (x:=.ref TO) rfl ?_)
 refine a9 (uag hz (by simp) λ g1 z1 e1=>?_)
 replace z1:IsZip g1 z TI TO .ellipsis:=z1
 refine a9 ?_
 simp only [udy,ue7,ud7,ufl]
 refine a9 (a9 (udd ?_))
 show j9 _ _ (Builtin.SmallTypes.nextOf (.ref i1) >>= _) _ _ { s with heap:=g1 }
 refine a9 (nF hh (bI h1 λ o e=>e1.extBut _ _ D.n3 e) (eV hl1 λ o e=>e1.extBut _ _ o1.1 e) hx λ g2 e e2 he=>?_)
 obtain⟨oe,p1,p2⟩:=he
 have z2:IsZip g2 z TI TO .ellipsis:=e2 _ _ D.n3.symm z1
 have ez:e≠z:=λ q=>by subst q;rw[z2] at p1;cases p1;simp at p2
 exact uag z2 (by simp) λ g3 _ e3=>hE g3 e (λ c o c1 _ c3 _ _ q=>e3.extBut _ _ c1 (e2 _ _ c3 (e1.extBut _ _ c1 q))) ⟨oe,e3.extBut _ _ ez p1,p2⟩
theorem zcn {z TI TO i1 i2 i3 l1 l2 l3:l7}{k:Nat}{xs ys zs:Array c9}{x y u:c9}{Q:Option c9->d7->Prop}(D:At3 z TI TO i1 i2 i3)(o1:Ot z TI TO i1 i2 i3 l1)(o2:Ot z TI TO i1 i2 i3 l2)(o3:Ot z TI TO i1 i2 i3 l3)
  (Z:Zt s.heap z TI TO i1 i2 i3 l1 l2 l3 .none k) (hl1:s.heap.IsTuple l1 xs) (hl2:s.heap.IsTuple l2 ys) (hl3:s.heap.IsTuple l3 zs) (hx:xs[k]?=some x) (hy:ys[k]?=some y) (hu:zs[k]?=some u)
  (hQ:∀ h',Zt h' z TI TO i1 i2 i3 l1 l2 l3 (rawInt s.heap.objs.size) (k+1)->IsTri h' s.heap.objs.size x y u->h'.objs.size=s.heap.objs.size+1 ->
   (∀ c o,c≠z->c≠TO->c≠i1->c≠i2->c≠i3->s.heap.get? c=some o->h'.get? c=some o)->Q (some (.ref s.heap.objs.size)) { s with heap:=h' }) :
  j9 (o9 prog w) A (pyNext (.ref z)) Q E s:=by
 have hT:s.TypeIs (.ref z) "zip":=⟨_,Z.z,rfl⟩
 unfold pyNext
 exact a9 (ub7 (v7 (name := v9 "__next__") hT uck (uab uck hT ue6
     (zbn D o1 o2 o3 Z hl1 hl2 hl3 hx hy hu λ h' b1 b2 b3 b4=>f9 (hQ h' b1 b2 b3 b4)) (uey _))))
theorem zcm {z TI TO i1 i2 i3 l1 l2 l3:l7}{k:Nat}{xs:Array c9}{Q:Option c9->d7->Prop}(hh:A.handled=none)(D:At3 z TI TO i1 i2 i3)(o1:Ot z TI TO i1 i2 i3 l1)
  (Z:Zt s.heap z TI TO i1 i2 i3 l1 l2 l3 .none k) (hl1:s.heap.IsTuple l1 xs) (hx:xs[k]?=none)
  (hQ:∀ h',(∀ c o,c≠z->c≠TO->c≠i1->c≠i2->c≠i3->s.heap.get? c=some o->h'.get? c=some o)->Q none { s with heap:=h' }):j9 (o9 prog w) A (pyNext (.ref z)) Q E s:=by
 have hT:s.TypeIs (.ref z) "zip":=⟨_,Z.z,rfl⟩
 unfold pyNext
 refine a9 (ub7 (v7 (name := v9 "__next__") hT uck (uab uck hT ue6
     (zbm hh D o1 Z hl1 hx λ h' e hk he=>?_) (uey _))))
 obtain⟨o,p1,p2⟩:=he
 exact a9 (udj (T:="StopIteration") (b:=true) ⟨o,p1,p2⟩ uex (f9 (hQ _ hk)))
abbrev zt3 (h:Heap)(l1 l2 l3:l7):Heap:=((h.push (itObj true l1)).push (itObj true l2)).push (itObj true l3)
abbrev zt4 (h:Heap)(l1 l2 l3:l7):Heap:=(zt3 h l1 l2 l3).push { cls:=.type "tuple",data:=.seq #[.ref h.objs.size,.ref (h.push (itObj true l1)).objs.size,.ref ((h.push (itObj true l1)).push (itObj true l2)).objs.size] }
abbrev zt5 (h:Heap)(l1 l2 l3:l7):Heap:=(zt4 h l1 l2 l3).push { cls:=.type "tuple",data:=.seq #[.none,.none,.none] }
abbrev zt6 (h:Heap)(l1 l2 l3:l7):Heap:=(zt5 h l1 l2 l3).push { cls:=.type "zip",data:=.fields #[.none,.bool false,.bool false,.ref (zt3 h l1 l2 l3).objs.size,.ref (zt4 h l1 l2 l3).objs.size] }
theorem zc8 (l1 l2 l3:l7)(xs ys zs:Array c9) :
  Meets (Builtin.«zip.__new__» ⟨[.type "zip",.ref l1,.ref l2,.ref l3],[]⟩) (λ _ R s=>s.heap.IsTuple l1 xs/\s.heap.IsTuple l2 ys/\s.heap.IsTuple l3 zs/\R (.ok (.ret (.ref (zt5 s.heap l1 l2 l3).objs.size))) { s with heap:=zt6 s.heap l1 l2 l3 }) :=
 .of_wp λ prog w A R s h=>by
  obtain⟨hp,g,d,tk,os⟩:=s;obtain⟨hl1,hl2,hl3,h⟩:=h
  have hsub:=sub_zip
  have b1:SqAt true (Shared.heap ⟨hp,g,d,tk,os⟩) l1 xs:=hl1
  have b2:SqAt true (Shared.heap ⟨hp.push (itObj true l1),g,d,tk,os⟩) l2 ys:=eV hl2 λ o e=>c6 _ e
  have b3:SqAt true (Shared.heap ⟨(hp.push (itObj true l1)).push (itObj true l2),g,d,tk,os⟩) l3 zs:=eV hl3 λ o e=>c6 _ (c6 _ e)
  wp_walk using dM b1,dM b2,dM b3
  exact⟨_,rfl,h⟩
theorem zH {l1 l2 l3:l7}{xs ys zs:Array c9}{Q:c9->d7->Prop}(hl1:s.heap.IsTuple l1 xs)(hl2:s.heap.IsTuple l2 ys)(hl3:s.heap.IsTuple l3 zs)
  (h:∀ h',Zt h' (s.heap.objs.size+5) (s.heap.objs.size+3) (s.heap.objs.size+4) s.heap.objs.size (s.heap.objs.size+1) (s.heap.objs.size+2) l1 l2 l3 .none 0->h'.objs.size=s.heap.objs.size+6 ->
   (∀ c o,s.heap.get? c=some o->h'.get? c=some o)->Q (.ref (s.heap.objs.size+5)) { s with heap:=h' }) :
  j9 (o9 prog w) A (call (.type "zip") [.ref l1,.ref l2,.ref l3]) Q E s:=by
 refine ugt F.called_zip (by decide) (sW _ _ _) (uD _ _ _) (λ obj=>rZ obj _ _ _) F.entry_zip_new (zc8 l1 l2 l3 xs ys zs) ⟨hl1,hl2,hl3,?_⟩
 have z1:(s.heap.push (itObj true l1)).objs.size=s.heap.objs.size+1:=w8 ..
 have z2:((s.heap.push (itObj true l1)).push (itObj true l2)).objs.size=s.heap.objs.size+2:=by rw[w8,z1]
 have z3:(zt3 s.heap l1 l2 l3).objs.size=s.heap.objs.size+3:=by rw[w8,z2]
 have z4:(zt4 s.heap l1 l2 l3).objs.size=s.heap.objs.size+4:=by rw[w8,z3]
 have z5:(zt5 s.heap l1 l2 l3).objs.size=s.heap.objs.size+5:=by rw[w8,z4]
 have z6:(zt6 s.heap l1 l2 l3).objs.size=s.heap.objs.size+6:=by rw[w8,z5]
 have p1:∀ {h:Heap}{o:Obj}{c:l7}{q:Obj},h.get? c=some q->(h.push o).get? c=some q:=λ e=>c6 _ e
 have g6:(zt6 s.heap l1 l2 l3).get? (zt5 s.heap l1 l2 l3).objs.size=some _:=i7 _ rfl
 have g5:(zt6 s.heap l1 l2 l3).get? (zt4 s.heap l1 l2 l3).objs.size=some _:=p1 (i7 _ rfl)
 have g4:(zt6 s.heap l1 l2 l3).get? (zt3 s.heap l1 l2 l3).objs.size=some _:=p1 (p1 (i7 _ rfl))
 have g3:(zt6 s.heap l1 l2 l3).IsTupleIter ((s.heap.push (itObj true l1)).push (itObj true l2)).objs.size l3 0:=bI (ItAt.new (t:=true) (h:=(s.heap.push (itObj true l1)).push (itObj true l2)) (l:=l3)) λ o e=>p1 (p1 (p1 e))
 have g2:(zt6 s.heap l1 l2 l3).IsTupleIter (s.heap.push (itObj true l1)).objs.size l2 0:=bI (ItAt.new (t:=true) (h:=s.heap.push (itObj true l1)) (l:=l2)) λ o e=>p1 (p1 (p1 (p1 e)))
 have g1:(zt6 s.heap l1 l2 l3).IsTupleIter s.heap.objs.size l1 0:=bI (ItAt.new (t:=true) (h:=s.heap) (l:=l1)) λ o e=>p1 (p1 (p1 (p1 (p1 e))))
 show _/\_
 rw[z3,z4,z5] at g6
 rw[z1,z2,z3] at g4
 rw[z4] at g5
 rw[z2] at g3
 rw[z1] at g2
 rw[z5]
 exact⟨⟨_,g6,rfl⟩,h _ ⟨g6,g4,⟨_,_,_,g5⟩,g1,g2,g3⟩ z6 λ c o q=>p1 (p1 (p1 (p1 (p1 (p1 q)))))⟩
theorem zc5 (n:Nat):At3 (n+5) (n+3) (n+4) n (n+1) (n+2):=by
 constructor <;> (show (_:Nat)≠(_:Nat)) <;> left
theorem kJ {n l:Nat}(h:l<n):Ot (n+5) (n+3) (n+4) n (n+1) (n+2) l:=by
 refine⟨?_,?_,?_,?_,?_,?_⟩ <;> (show (_:Nat)≠(_:Nat)) <;> left
end
end Z3
namespace L3
open PySem PySem.Spec PyProof.Rows L2
def Itz3 (K:b8)(l1 l2 l3:l7):It :=
 ⟨λ i H=>∃ xs ys zs x y u,SqT K H l1 xs/\SqT K H l2 ys/\SqT K H l3 zs/\xs[i]?=some x/\ys[i]?=some y/\zs[i]?=some u,
  λ i H v H'=>∃ T x y u,H T=none/\v=.ref T/\H'=upd H T (.tup [x,y,u])/\(∀ xs,SqT K H l1 xs->xs[i]?=some x)/\(∀ ys,SqT K H l2 ys->ys[i]?=some y)/\(∀ zs,SqT K H l3 zs->zs[i]?=some u),
  λ i H=>∃ xs,SqT K H l1 xs/\xs.length<=i⟩
theorem xS {P:l9}{w:uak}{K:b8}{elts:List uct}{kk:Nat}{pos:Pos}{z TI TO i1 i2 i3 l1 l2 l3:l7}(D:Z3.At3 z TI TO i1 i2 i3)(o1:Z3.Ot z TI TO i1 i2 i3 l1)(o2:Z3.Ot z TI TO i1 i2 i3 l2)(o3:Z3.Ot z TI TO i1 i2 i3 l3) :
  L2.Turn P w K (.Tuple elts kk pos) (Itz3 K l1 l2 l3) [z,TI,TO,i1,i2,i3] z (λ i h=>Z3.Zt h z TI TO i1 i2 i3 l1 l2 l3 .none i) where
 mem:=by simp
 obj:=λ i h st b hb=>by
  obtain⟨q1,q2,⟨_,_,_,q3⟩,q4,q5,q6⟩:=st
  obtain⟨o4,e4,_,d4⟩:=q4
  obtain⟨o5,e5,_,d5⟩:=q5
  obtain⟨o6,e6,_,d6⟩:=q6
  simp only [j4,m8,or_false] at hb
  rcases hb with rfl | rfl | rfl | rfl | rfl | rfl
  ·exact⟨_,q1,λ v q=>by cases q⟩
  ·exact⟨_,q2,λ v q=>by cases q⟩
  ·exact⟨_,q3,λ v q=>by cases q⟩
  ·exact⟨_,e4,λ v q=>by rw[d4] at q;cases q⟩
  ·exact⟨_,e5,λ v q=>by rw[d5] at q;cases q⟩
  ·exact⟨_,e6,λ v q=>by rw[d6] at q;cases q⟩
 keep:=λ i h h' st k=>by
  obtain⟨q1,q2,⟨a,b,c,q3⟩,q4,q5,q6⟩:=st
  exact⟨k z (by simp) _ q1,k TI (by simp) _ q2,⟨a,b,c,k TO (by simp) _ q3⟩,Z3.bI q4 λ o e=>k i1 (by simp) o e,Z3.bI q5 λ o e=>k i2 (by simp) o e,Z3.bI q6 λ o e=>k i3 (by simp) o e⟩
 item:=by
  intro X hP hw hK hc i pins s σ H E I hf st hg
  subst hP hw hK
  obtain⟨xs,ys,zs,x,y,u,q1,q2,q3,hx,hy,hu⟩:=hg
  obtain⟨its1,r1,p1,z1⟩:=I.tuple q1
  obtain⟨its2,r2,p2,z2⟩:=I.tuple q2
  obtain⟨its3,r3,p3,z3⟩:=I.tuple q3
  obtain⟨u1,hu1,ru1⟩:=r1.get hx
  obtain⟨u2,hu2,ru2⟩:=r2.get hy
  obtain⟨u3,hu3,ru3⟩:=r3.get hu
  have hf4:∀ b∈[z,TO,i1,i2,i3],FpOk X pins H b:=λ b hb=>hf b (by
   simp only [j4,m8,or_false] at hb ⊢
   rcases hb with rfl | rfl | rfl | rfl | rfl <;> simp)
  refine Z3.zcn D o1 o2 o3 st p1 p2 p3 (x:=u1) (y:=u2) (u:=u3) (by simpa using hu1) (by simpa using hu2) (by simpa using hu3) λ h' zd tp sz kp=>?_
  have I1 : Inv X pins σ (upd H s.heap.objs.size (.tup [x, y, u])) { s with heap := h', toks := s.toks } := turnsTup (ch := [z, TO, i1, i2, i3]) (its := [u1, u2, u3]) I hf4 (λ b o hb e => by
      simp only [j4,m8,or_false,not_or] at hb
      exact kp b o hb.1 hb.2.1 hb.2.2.1 hb.2.2.2.1 hb.2.2.2.2 e) (h9 _) (by show 3<=r9;rw[ubp];decide) (.cons ru1 (.cons ru2 (.cons ru3 .nil))) ⟨_,tp,rfl,⟨_,rfl⟩,rfl⟩
  have fr:H s.heap.objs.size=none:=I.fresh
  have zne:∀ b∈[z,TI,TO,i1,i2,i3],b≠s.heap.objs.size:=λ b hb e=>by
   have key:∃ o,s.heap.get? b=some o:=by
    obtain⟨q1,q2,⟨_,_,_,q3⟩,⟨o4,e4,_⟩,⟨o5,e5,_⟩,⟨o6,e6,_⟩⟩:=st
    simp only [j4,m8,or_false] at hb
    rcases hb with rfl | rfl | rfl | rfl | rfl | rfl
    ·exact⟨_,q1⟩
    ·exact⟨_,q2⟩
    ·exact⟨_,q3⟩
    ·exact⟨_,e4⟩
    ·exact⟨_,e5⟩
    ·exact⟨_,e6⟩
   obtain⟨o,ho⟩:=key
   exact absurd (j0 ho) (by rw[e];exact ubu _)
  refine⟨_,rfl,wpAny_letOwnedTupleGo_zip zd.z λ h2 zd2 sb=>?_⟩
  obtain⟨f0,f1,f2,f3,f4,f5⟩:=hf z (by simp)
  have I2:Inv X pins σ (upd H s.heap.objs.size (.tup [x,y,u])) { s with heap:=h2,toks:=s.toks }:=Inv.turned (s:={ s with heap:=h',toks:=s.toks }) (it:=z) (t':=s.toks) I1 (λ b o hb e=>sb.extBut b o hb e) (by rw[aN (zne z (by simp))];exact f0) f1 f3 f4 f5
  refine⟨.ref s.heap.objs.size,_,I2,rfl,⟨_,x,y,u,fr,rfl,rfl,λ zs hz=>by rw[I.tuple_inj hz q1];exact hx,λ zs hz=>by rw[I.tuple_inj hz q2];exact hy,λ zs hz=>by rw[I.tuple_inj hz q3];exact hu⟩,?_,λ b hb=>by rw[aN (zne b hb)];exact (hf b hb).1⟩
  obtain⟨_,w2,⟨a3,b3,c3,w3⟩,w4,w5,w6⟩:=zd
  exact⟨zd2,sb.extBut _ _ D.n1 w2,⟨a3,b3,c3,sb.extBut _ _ D.n2 w3⟩,Z3.bI w4 λ o e=>sb.extBut _ _ D.n3 e,Z3.bI w5 λ o e=>sb.extBut _ _ D.n4 e,Z3.bI w6 λ o e=>sb.extBut _ _ D.n5 e⟩
 done:=by
  intro X hP hw hK hc i pins s σ H E I hf st hg
  subst hP hw hK
  obtain⟨xs,q1,hx⟩:=hg
  obtain⟨its1,r1,p1,z1⟩:=I.tuple q1
  have l1:=r1.length
  have hf4:∀ b∈[z,TO,i1,i2,i3],FpOk X pins H b:=λ b hb=>hf b (by
   simp only [j4,m8,or_false] at hb ⊢
   rcases hb with rfl | rfl | rfl | rfl | rfl <;> simp)
  refine Z3.zcm (I.ok.hd hc) D o1 st p1 (by simp;left) λ h' kp=>⟨rfl,?_⟩
  exact turns (ch:=[z,TO,i1,i2,i3]) (t':=s.toks) I hf4 λ b o hb e=>by
   simp only [j4,m8,or_false,not_or] at hb
   exact kp b o hb.1 hb.2.1 hb.2.2.1 hb.2.2.2.1 hb.2.2.2.2 e
 self:=λ _ _ _ _ _ st h=>ufg st.z h
def iZip3 (K:b8)(ta:TA):TI:=λ σ H R=>ta σ H λ vs H1=>∃ l1 l2 l3,vs=[.ref l1,.ref l2,.ref l3]/\(∃ xs,SqT K H1 l1 xs)/\(∃ ys,SqT K H1 l2 ys)/\(∃ zs,SqT K H1 l3 zs)/\R (Itz3 K l1 l2 l3) H1
theorem zcf {X:Cx}{elts:List uct}{kk:Nat}{pos':Pos}{a b c:uct}{ta:TA}{p pos:Pos}(hg:Gl X "zip")(hm:X.mg "zip"=none)(ha:PA X [a,b,c] ta)
  (hs:ubc [a,b,c] X.env=[(false,eval a X.env),(false,eval b X.env),(false,eval c X.env)]:=by rfl) (hs2:ubc [b,c] X.env=[(false,eval b X.env),(false,eval c X.env)]:=by rfl) :
  PI X (.Tuple elts kk pos') (.Call (.Name "zip" p) [a,b,c] [] pos) (iZip3 X.K ta):=by
 intro pins s σ H R I h
 refine Call_ (dN I hg hm boot_zip (ubj (thn (ha pos pins s σ H _ I h) λ us s1 ⟨vs,H1,I1,r1,q1⟩=>?_) (by rw[hs,hs2]) (by rw[hs2];rfl)))
 obtain⟨l1,l2,l3,e,⟨xs,qx⟩,⟨ys,qy⟩,⟨zs,qz⟩,q⟩:=q1
 subst e
 cases r1 with
 | cons r rr =>
  cases rr with
  | cons r' rr =>
   cases rr with
   | cons r'' rr =>
    cases rr
    cases r
    cases r'
    cases r''
    obtain⟨its1,r1,p1,z1⟩:=I1.tuple qx
    obtain⟨its2,r2,p2,z2⟩:=I1.tuple qy
    obtain⟨its3,r3,p3,z3⟩:=I1.tuple qz
    have lt:∀ {l:l7}{xs:Array c9},s1.heap.IsTuple l xs->l<s1.heap.objs.size:=λ {l xs} q=>by
     obtain⟨o,e,_⟩:=q;exact j0 e
    refine Z3.zH p1 p2 p3 λ h' zd sz kp=>ufg zd.z ?_
    have I2:Inv X pins σ H1 { s1 with heap:=h',toks:=s1.toks }:=I1.kept (t':=s1.toks) kp
    refine⟨s1.heap.objs.size+5,[s1.heap.objs.size+5,s1.heap.objs.size+3,s1.heap.objs.size+4,s1.heap.objs.size,s1.heap.objs.size+1,s1.heap.objs.size+2],_,_,H1,rfl,I2,xS (Z3.zc5 _) (Z3.kJ (lt p1)) (Z3.kJ (lt p2)) (Z3.kJ (lt p3)),zd,λ b hb=>?_,q⟩
    have hb':s1.heap.objs.size<=b:=by
     simp only [j4,m8,or_false] at hb
     rcases hb with rfl | rfl | rfl | rfl | rfl | rfl
     ·exact uby _ _
     ·exact uby _ _
     ·exact uby _ _
     ·exact h9 _
     ·exact uby _ _
     ·exact uby _ _
    exact I1.fpOk hb' (I1.hok.fresh hb')
section
variable {g:TG}{te:TE}{own:List Str}{js:List Nat}{σ:L2.St}{H1:Hp}{Q:VK}
theorem zE {K:b8}{a b c:l7}{xs ys zs:List V}(hx:H1 a=some (.tup xs))(hy:H1 b=some (.tup ys))(hz:H1 c=some (.tup zs))(Sg:L2.St->Prop)(R:Nat->V->Hp->Prop)(hn:xs.length<=1000)(e1:ys.length=xs.length)(e2:zs.length=xs.length)
  (h0:Sg (start3 own js σ)) (mono:∀ i v H H',TupKeep H H'->R i v H->R i v H')
  (step:∀ i x y z T σ' H',xs[i]?=some x->ys[i]?=some y->zs[i]?=some z->Same H1 H'->H' T=none->Sg σ'->∀ C:L2.St->V->Hp->Prop,(∀ σ3 v H5,Sg σ3->Same H' H5->R i v H5->C σ3 v H5)->g (.ref T) σ' (upd H' T (.tup [x,y,z])) λ σ3 H3=>te σ3 H3 λ v H5=>C σ3 v H5)
  (fin:∀ D vs H',H1 D=none->Same H1 H'->H' D=some (.lst vs)->vs.length=xs.length->(∀ i v,vs[i]?=some v->R i v H')->Q (.ref D) H'):CompGo own js g tTrue te σ Q (Itz3 K a b c) H1:=by
 refine gT xs.length Sg R hn h0 mono (λ i H' hi s=>⟨xs,ys,zs,xs[i],ys[i]'(by left),zs[i]'(by left),SqT.of (s _ _ hx),SqT.of (s _ _ hy),SqT.of (s _ _ hz),by simp [hi],by simp [show i<ys.length by left],by simp [show i<zs.length by left]⟩)
  (λ H' s=>⟨xs,SqT.of (s _ _ hx),h9 _⟩) (λ i x σ' H' H2 hi s hyy sg C hC=>?_) fin
 obtain⟨T,x1,y1,z1,hT,rfl,rfl,f1,f2,f3⟩:=hyy
 exact step i x1 y1 z1 T σ' H' (f1 _ (SqT.of (s _ _ hx))) (f2 _ (SqT.of (s _ _ hy))) (f3 _ (SqT.of (s _ _ hz))) s hT sg C hC
end
section
variable {X:Cx}
end
end L3
namespace Hx
open PySem PySem.W
structure Ch where
 i:Nat
 a:Nat
 t:Nat
 j:Nat
 u:Nat
 b:Nat:=0
def stt (p:l9)(i:Nat):udi:=p.main.body.getD i (.Pass ⟨0,0,0,0⟩)
def fileS:Str:=v9 "/claim/cut.py"
def mdV (p:l9)(c:Ch):c9:=match stt p c.j with
 | .Assign _ (.Constant (.str x) _ _) _=>.str x c.u
 | _=>.str (v9 "__main__") c.u
def sT (xs:List c9):Obj:=⟨.type "tuple",none,.seq xs.toArray 0,#[]⟩
def fE (xs:List c9):Obj:=⟨.none,none,.fields xs.toArray,#[]⟩
def tks:List Str->Nat->List c9
 | [],_=>[]
 | v::r,t=>.str v t::tks r (t+1)
def z:c9:=.int 0 0
def cdO (nm q:Str)(t:Nat)(l:Int)(na fl:Int)(k:c9)(fn:Bool)(tb vs cs tp:c9)(u:Nat):Obj :=
 ⟨.type "code",none,.fields #[.str nm t,.str q (t+1),.str fileS (t+2),.int l 0,.int na 0,z,z,.int fl 0,k,.bool fn,.int 181 0,tb,.none,vs,cs,tp,.int u 0,.int l 0,.str fileS (u+1)],#[]⟩
def ent (P:Params)(s:Str)(t:Nat)(v:c9):DictEntry:=⟨PyData.keyHash P s,.str s t,v⟩
def dO (es:List DictEntry)(n:Nat):Obj:=⟨.type "dict",none,.dict es.toArray n,#[]⟩
structure Got where
 os:List Obj
 en:List DictEntry
 tb:List c9
def fO (P:Params)(md:c9)(a t:Nat)(name:Str)(args:Arguments)(body:List udi)(scope:Scope)(bind:Str)(pos:Pos):Got :=
 let fd:FuncData:=⟨name,bind,args,.stmts body,scope,0,[],.none,.none,.none,.none,none,.none,.none,0⟩
 let k (vs cs:c9) (b u:Nat) (h:List Obj):Got :=
  ⟨h++[⟨.none,none,.func fd,#[]⟩,cdO name bind t pos.line args.args.length 3 (.ref a) true (.ref (a+1)) vs cs (.ref b) u,
   ⟨.type "function",none,.func ⟨name,bind,args,.stmts body,scope,3,[],.none,.none,.none,md,none,.ref (b+1),.none,0⟩,#[]⟩],
   [ent P name (u+2) (.ref (b+2))],[.int pos.line 0,.int pos.col 0,.ref (b+1)]⟩
 match localNames args scope (.stmts body) with
 | none=>k .none .none (a+2) (t+3) [sT [],fE []]
 | some (vs,cs)=>k (.ref (a+2)) (.ref (a+3)) (a+4) (t+3+vs.length+cs.length) [sT [],fE [],sT (tks vs (t+3)),sT (tks cs (t+3+vs.length))]
def mro0:List c9:=[.type "ValueError",.type "Exception",.type "BaseException",.type "object"]
def clO (P:Params)(md:c9)(a t:Nat)(base:Option Nat)(sub:List c9)(name bind:Str)(pos:Pos):Got :=
 let l:Int:=pos.line
 let w:=base.isNone
 let C:=a+9-(if w then 0 else 0)
 let bs:c9:=match base with | none=>.type "ValueError" | some b=>.ref b
 let e1:=ent P (v9 "__module__") (t+7) md
 let e2:=ent P (v9 "__firstlineno__") (t+11) (.int l (t+10))
 let e3:=ent P (v9 "__static_attributes__") (t+12) (.ref (a+7))
 ⟨[sT [bs],⟨.type "builtin_function_or_method",none,.fields #[.builtin "type.__prepare__",.type "type"],#[]⟩,
  dO [e1,ent P (v9 "__qualname__") (t+9) (.str bind (t+8)),e2,e3] 4,sT [],fE [],
  cdO name bind (t+2) l 0 0 (.ref (a+3)) false (.ref (a+4)) .none .none .none (t+5),
  ⟨.type "frame",none,.plain,#[some (.ref (a+5)),some (.ref 3),some (.ref (a+2)),none,some md,none,some (.ref 0)]⟩,sT [],
  dO (e1::e2::e3::(if w then [ent P (v9 "__weakref__") (t+14) (.ref (a+10)),ent P (v9 "__doc__") (t+15) .none] else [ent P (v9 "__doc__") (t+13) .none])) (if w then 3 else 2),
  ⟨.type "type",none,.cls ⟨name,[bs],.ref C::(match base with | none=>mro0 | some b=>.ref b::mro0),a+8,bind,true,[],sub,false,none,false⟩,
   #[some (.ref a),none,some (.str name t),some (.str bind (t+8)),some (.builtin "ValueError.__new__"),some (.bool true)]⟩] ++
  (if w then [⟨.type "getset_descriptor",none,.fields #[.str (v9 "__weakref__") (t+13),.ref C,.builtin "ExceptionGroup.__weakref__",.none],#[]⟩] else []) ++
  [⟨.type "super",none,.fields #[.ref C,.ref C,.ref C],#[]⟩,⟨.type "builtin_function_or_method",none,.fields #[.builtin "object.__init_subclass__",.ref C],#[]⟩],
  [ent P name (t+(if w then 17 else 15)) (.ref C)],[.int l 0,.int pos.col 0,.ref (a+5)]⟩
def got (p:l9)(P:Params)(cs:List Ch)(c:Ch):Got:=match stt p c.i with
 | .FunctionDef name args body _ _ _ scope _ bind pos=>fO P (mdV p c) c.a c.t name args body scope bind pos
 | .ClassDef name _ _ _ _ _ _ _ bind _ pos=>clO P (mdV p c) c.a c.t (if c.b==0 then none else some c.b) (cs.filterMap λ d=>if d.b==c.a+9 then some (.ref (d.a+9)) else none) name bind pos
 | _=>⟨[],[],[]⟩
def nameNow (p:l9)(cs:List Ch):Option c9:=match cs.getLast? with
 | some c=>some (mdV p { c with j:=c.j,u:=c.u })
 | none=>none
def setName (P:Params)(v:Option c9):List DictEntry->List DictEntry
 | e::r=>(match v with | some v=>{ e with val:=v } | none=>e)::r
 | []=>[]
def globO (p:l9)(P:Params)(cs:List Ch)(en:List DictEntry):Obj->Obj
 | ⟨c,d,.dict es n,s⟩=>⟨c,d,.dict (setName P (nameNow p cs) es.toList++en).toArray (n+en.length),s⟩
 | o=>o
def objs (p:l9)(P:Params)(B:List Obj)(cs:List Ch):List Obj :=
 let gs:=cs.map (got p P cs)
 match B with
 | b0::b1::b2::b3::r=>b0::b1::b2::globO p P cs (gs.flatMap (·.en)) b3::(r++(sT []::fE (gs.flatMap (·.tb)) ::
  cdO (v9 "<module>") (v9 "<module>") 182 1 0 0 (.ref 11) false (.ref 12) .none .none .none 185 ::
  ⟨.type "frame",none,.plain,#[some (.ref 13),some (.ref 3),some (.ref 3),none,some (.str (v9 "__main__") 164),none,some (.ref 0)]⟩::gs.flatMap (·.os)))
 | _=>[]
def spl:List Obj->List Obj × List Obj
 | []=>([],[])
 | x::r=>(x::(spl r).2,(spl r).1)
def braun:Nat->List Obj->BT
 | 0,_=>.nil
 | _+1,[]=>.nil
 | f+1,o::r=>.node o (braun f (spl r).1) (braun f (spl r).2)
structure Cut where
 k:Nat
 n:Nat
 t:Nat
def hpT (p:l9)(B:Params->List Obj)(cs:List Ch)(c:Cut)(P:Params):Heap:=absHeap (braun 12 (objs p P (B P) (cs.take c.k))) c.n {}
def stT (p:l9)(B:Params->List Obj)(D:Drawn)(cs:List Ch)(c:Cut)(w:uak)(os:OsState):SharedT :=
 ⟨braun 12 (objs p w.params (B w.params) (cs.take c.k)),c.n,{},ues [],D,c.t,os⟩
def env (p:l9):Env:={ scope:=p.main.scope,locals:=mainNs,globals:=mainNs,cells:=[],code:=.ref 13,frame:=some 14 }
def cE (p:l9):Code:=.body p.main.body (env p)
def pos0:Pos:=⟨0,0,0,0⟩
def posOf (p:l9):Nat->Pos
 | 0=>pos0
 | k+1=>match stt p k with
  | .Assign [.Name _ q] _ _=>q
  | .FunctionDef _ _ _ _ _ _ _ _ _ q=>q
  | .ClassDef _ _ _ _ _ _ _ _ _ _ q=>q
  | _=>pos0
def ann0:Option c9:=some (.ref 6)
def PieceT (p:l9)(B:Params->List Obj)(D:Drawn)(cs:List Ch)(a b:Cut)(N:Nat):Prop:=∀ w:uak,
 (λ os=>segRunT treeTable p w 11 ann0 1 N (stT p B D cs a w os) (piecesOf ((p.main.body.drop a.k).take (b.k-a.k)) (env p) (cE p) (posOf p a.k) [topFrame pos0]))=λ os=>some (Flow.next,stT p B D cs b w os,cE p,posOf p b.k)
def PreT (p:l9)(B:Params->List Obj)(D:Drawn)(h:Params->Heap)(t:Nat)(cs:List Ch)(a:Cut):Prop:=∀ w:uak,
 (λ os=>topGo treeTable p w 11 ann0 12 ⟨h w.params,ues [],D,t,os⟩ (topStub p))=λ os=>some ((stT p B D cs a w os).abs,⟨denote treeTable (cE p),cE p,pos0,[topFrame pos0]⟩)
def BlockT (p:l9):Prop:=∀ (w:uak)(s:d7),segRun treeTable p w 11 ann0 1 1 s (blockOf p.main.body (env p) (cE p) pos0 [topFrame pos0])=some (.next,s,cE p,pos0)
noncomputable def boots (P:Params):List Obj:=[boot_o_0 P,boot_o_1 P,boot_o_2 P,boot_o_3 P,boot_o_4 P,boot_o_5 P,boot_o_6 P,boot_o_7 P,boot_o_8 P,boot_o_9 P,boot_o_10 P]
def qv (p:l9)(is:List Nat):l9:={ p with main:={ p.main with body:=is.map (stt p) } }
def nmO:udi->Option Str
 | .FunctionDef n ..=>some n
 | .ClassDef n ..=>some n
 | _=>none
def lz (p:l9)(is:List Nat)(n:Nat):List Str:=(d8 n).filterMap λ i=>if is.contains i then none else nmO (stt p i)
def kk (a:Nat)(g:Got):List (Nat × Obj):=match g.os with
 | [_,_,_,c,f]=>[(a+3,c),(a+4,f)]
 | [_,_,_,_,_,c,f]=>[(a+5,c),(a+6,f)]
 | _::_::_::_::_::_::_::_::d::C::_=>[(a+8,d),(a+9,C)]
 | _=>[]
def Kf (p:l9)(B:Params->List Obj)(cs:List Ch)(P:Params):Frag :=
 let gs:=cs.map (got p P cs)
 (3,globO p P cs (gs.flatMap (·.en)) ((B P).getD 3 (sT [])))::(cs.zip gs).flatMap λ c=>kk c.1.a c.2
def LookA (p:l9)(B:Params->List Obj)(D:Drawn)(h:Params->Heap)(cs:List Ch)(c:Cut):Prop:=∀ w:uak,(λ os =>
  (staticsOk (importedModules p.main.body) (h w.params) (hpT p B cs c w.params)&&namesBound p (hpT p B cs c w.params)&&gensDone ⟨hpT p B cs c w.params,ues [],D,c.t,os⟩&&laidKept (h w.params) (hpT p B cs c w.params)))=λ _:OsState=>true
def LookB (p:l9)(B:Params->List Obj)(D:Drawn)(cs:List Ch)(c:Cut)(is:List Nat)(rc:WRecords):Prop:=∀ w:uak,(λ os =>
  openSeen (qv p is) (lz p is c.k) (importedModules p.main.body) (λ s=>xlAt (qv p is) [] s&&recOk rc s) true ⟨hpT p B cs c w.params,ues [],D,c.t,os⟩)=λ _:OsState=>openGood (qv p is) (lz p is c.k)
def LookC (p:l9)(B:Params->List Obj)(cs:List Ch)(c:Cut)(as:List Nat):Prop:=∀ w:uak,as.map (hpT p B cs c w.params).get?=(Kf p B cs w.params).map λ p=>some p.2
section
variable {p:l9}{D:Drawn}{cs:List Ch}
theorem zcz {w:uak}{s:d7}{c:Code}{q:Pos}:topRun treeTable p w 11 ann0 2 s ⟨doneF .next,c,q,[topFrame pos0]⟩=some s:=rfl
theorem zG {w:uak}{os:OsState}{c:Cut}(h:p.main.body.drop c.k=[]) :
  topRun treeTable p w 11 ann0 2 (stT p boots boot_drawn cs c w os).abs (restOf (p.main.body.drop c.k) (env p) (cE p) (posOf p c.k) [topFrame pos0])=some (stT p boots boot_drawn cs c w os).abs:=by
 rw[h];exact piece_nil zcz
theorem chain {w:uak}{os:OsState}{a b:Cut}{N M:Nat}{r:d7}(h:PieceT p boots boot_drawn cs a b N)(le:a.k<=b.k)
  (k:topRun treeTable p w 11 ann0 M (stT p boots boot_drawn cs b w os).abs (restOf (p.main.body.drop b.k) (env p) (cE p) (posOf p b.k) [topFrame pos0])=some r) :
  topRun treeTable p w 11 ann0 (N+M) (stT p boots boot_drawn cs a w os).abs (restOf (p.main.body.drop a.k) (env p) (cE p) (posOf p a.k) [topFrame pos0])=some r:=by
 have e:p.main.body.drop a.k=(p.main.body.drop a.k).take (b.k-a.k)++p.main.body.drop b.k:=by
  have x:=(ua6 (b.k-a.k) (p.main.body.drop a.k)).symm
  rw[ufm,Nat.add_sub_cancel' le] at x;exact x
 rw[e];exact piece_app (segRun_of (congrFun (h w) os)) k
theorem zb8 {w:uak}{os:OsState}{M:Nat}{r:d7}(pre:PreT p boots boot_drawn boot_heap boot_toks cs ⟨0,15,187⟩)(bl:BlockT p)
  (k:topRun treeTable p w 11 ann0 M (stT p boots boot_drawn cs ⟨0,15,187⟩ w os).abs (restOf (p.main.body.drop 0) (env p) (cE p) (posOf p 0) [topFrame pos0])=some r) :
  topRun treeTable p w 11 ann0 (12+(1+M)) ⟨boot_heap w.params,ues [],boot_drawn,boot_toks,os⟩ (topStub p)=some r :=
 go_top (congrFun (pre w) os) (piece_block (bl w _) k)
theorem zcr {is as:List Nat}{rc:WRecords}{c:Cut}{M N:Nat}{e:∀ P,as=(Kf p boots cs P).map (·.1)}
  (op:opening p=plainProg p.main.scope.names) (hN:Nat.ble 600 N=true) (fe:∀ s,fenceModules? p s=some s)
  (size:∀ w:uak,((boot_heap w.params).isNs p9&&(ues []:Array GenState).size==0,(boot_heap w.params).objs.size,(boot_heap w.params).nsMap p9 "__annotations__")=(true,11,ann0))
  (run:∀ (w:uak)(os:OsState),topRun treeTable p w 11 ann0 M ⟨boot_heap w.params,ues [],boot_drawn,boot_toks,os⟩ (topStub p)=some (stT p boots boot_drawn cs c w os).abs) (le:Nat.ble M N=true)
  (hA:LookA p boots boot_drawn boot_heap cs c) (hB:LookB p boots boot_drawn cs c is rc) (hC:LookC p boots cs c as) :
  LeftO p (qv p is) (lz p is c.k) (λ s=>xlAt (qv p is) [] s&&recOk rc s) (Hook.obs (kHook (Kf p boots cs) as e)) (Hook.val (kHook (Kf p boots cs) as e)) N :=
 LeftO.of_pieces (H₀:=boot_heap) (H₁:=hpT p boots cs c) (boot_open op hN fe) size run le λ w=>funext λ os=>by
  have a:=congrFun (hA w) os
  have b:=congrFun (hB w) os
  have c:=hC w
  exact looks_pair a (looks_pair b c)
end
end Hx
set_option hygiene false
local macro_rules | `(tactic| exists $k, $s) => `(tactic| (refine rO (k := $k) D $s (fun vs H Q E h => by first | (obtain ⟨_, rfl, _⟩ := h; rfl) | (obtain ⟨_, _, rfl, _⟩ := h; rfl) | (obtain ⟨_, _, _, rfl, _⟩ := h; rfl) | (obtain ⟨_, _, _, _, rfl, _⟩ := h; rfl) | (obtain ⟨_, _, _, _, _, rfl, _⟩ := h; rfl) | (obtain ⟨_, _, _, _, _, _, rfl, _⟩ := h; rfl) | (obtain ⟨_, _, _, _, _, _, _, rfl, _⟩ := h; rfl) | (obtain ⟨_, _, _, _, _, _, _, _, rfl, _⟩ := h; rfl) | (obtain ⟨_, _, _, _, _, _, _, _, _, rfl, _⟩ := h; rfl) | (obtain ⟨_, _, _, _, _, _, _, _, _, _, rfl, _⟩ := h; rfl) | (obtain ⟨_, _, _, _, _, _, _, _, _, _, _, rfl, _⟩ := h; rfl) | (obtain ⟨_, _, _, _, _, _, _, _, _, _, _, _, rfl, _⟩ := h; rfl) | (obtain ⟨_, _, _, _, _, _, _, _, _, _, _, _, _, rfl, _⟩ := h; rfl) | (obtain ⟨_, _, _, _, _, _, _, _, _, _, _, _, _, _, rfl, _⟩ := h; rfl) | (obtain ⟨_, _, _, _, _, _, _, _, _, _, _, _, _, _, _, rfl, _⟩ := h; rfl)) (fun f cdv A outer s H vs Q E hr h => ?_); have nd := ($s).nd))
local macro_rules | `(tactic| exists $k, $s, $s2) => `(tactic| refine rO (k := $k) D $s (fun vs H Q E h => ?_) (fun f cdv A outer s H vs Q E hr h => ?_))
local macro_rules | `(‹$n:num›) => `(Ok P w K mg base $n)
set_option hygiene true
namespace Me
open PySem PySem.Spec PyProof.Rows L2 L3
def top (i:Nat):udi:=a7.main.body.getD i (.Pass ⟨0,0,0,0⟩)
abbrev s_is_whole:udi:=top 1
theorem sc_is_whole:FnScope ["thing"] ["thing"] (defScope s_is_whole):=by right
abbrev s_is_wholes:udi:=top 2
theorem sc_is_wholes:FnScope ["thing"] ["thing"] (defScope s_is_wholes):=by right
abbrev s_is_rising:udi:=top 3
theorem sc_is_rising:FnScope ["parts"] ["parts"] (defScope s_is_rising):=by right
abbrev s_is_tuple_of:udi:=top 4
theorem sc_is_tuple_of:FnScope ["thing","many"] ["thing","many"] (defScope s_is_tuple_of):=by right
abbrev s_is_place:udi:=top 6
theorem sc_is_place:FnScope ["web","thing"] ["web","thing"] (defScope s_is_place):=by right
abbrev s_is_tie_number:udi:=top 7
theorem sc_is_tie_number:FnScope ["web","thing"] ["web","thing"] (defScope s_is_tie_number):=by right
abbrev s_is_keep:udi:=top 8
theorem sc_is_keep:FnScope ["web","thing"] ["web","thing"] (defScope s_is_keep):=by right
abbrev s_whole:udi:=top 9
theorem sc_whole:FnScope ["web"] ["web"] (defScope s_whole):=by right
abbrev s_tie_between:udi:=top 10
theorem sc_tie_between:FnScope ["web","a","b","ends","number","tie"] ["web","a","b"] (defScope s_tie_between):=by right
abbrev s_are_unlike_places:udi:=top 12
theorem sc_are_unlike_places:FnScope ["web","thing"] ["web","thing"] (defScope s_are_unlike_places):=by right
abbrev s_ties_along:udi:=top 13
theorem sc_ties_along:FnScope ["web","places"] ["web","places"] (defScope s_ties_along):=by right
abbrev s_way_right:udi:=top 14
theorem sc_way_right:FnScope ["web","keep","way"] ["web","keep","way"] (defScope s_way_right):=by right
abbrev s_leads_between:udi:=top 15
theorem sc_leads_between:FnScope ["web","keep","a","b","way"] ["web","keep","a","b","way"] (defScope s_leads_between):=by right
abbrev s_way_length:udi:=top 16
theorem sc_way_length:FnScope ["web","way"] ["web","way"] (defScope s_way_length):=by right
abbrev s_tie_weights:udi:=top 17
theorem sc_tie_weights:FnScope ["web","weights","weight","tie"] ["web"] (defScope s_tie_weights):=by right
abbrev s_cost_with:udi:=top 18
theorem sc_cost_with:FnScope ["cost","length","weight"] ["cost","length","weight"] (defScope s_cost_with):=by right
abbrev s_reached_from:udi:=top 19
theorem sc_reached_from:FnScope ["web","keep","root","weights","costs","ahead","again","tie","a","b","length","one","other","cost"] ["web","keep","root"] (defScope s_reached_from):=by right
abbrev s_fars_from:udi:=top 20
theorem sc_fars_from:FnScope ["web","keep","root","costs","ahead"] ["web","keep","root"] (defScope s_fars_from):=by right
abbrev s_tree_from:udi:=top 21
theorem sc_tree_from:FnScope ["web","keep","root","costs","ahead"] ["web","keep","root"] (defScope s_tree_from):=by right
abbrev s_the_way:udi:=top 22
theorem sc_the_way:FnScope ["web","keep","a","b","tree","way"] ["web","keep","a","b"] (defScope s_the_way):=by right
abbrev s_across:udi:=top 24
theorem sc_across:FnScope ["web","tie","heights","a","b","length"] ["web","tie","heights"] (defScope s_across):=by right
abbrev s_heights_hold:udi:=top 25
theorem sc_heights_hold:FnScope ["web","keep","heights"] ["web","keep","heights"] (defScope s_heights_hold):=by right
abbrev s_heights_from:udi:=top 26
theorem sc_heights_from:FnScope ["web","keep","a","roof"] ["web","keep","a","roof"] (defScope s_heights_from):=by right
abbrev s_web_heights:udi:=top 28
theorem sc_web_heights:FnScope ["web","place"] ["web","place"] (defScope s_web_heights):=by right
abbrev s_out_of_reach:udi:=top 29
theorem sc_out_of_reach:FnScope ["height"] ["height"] (defScope s_out_of_reach):=by right
abbrev s_ties_of_ways:udi:=top 31
theorem sc_ties_of_ways:FnScope ["web","ways","ties","way"] ["web","ways"] (defScope s_ties_of_ways):=by right
abbrev s_pairs_told:udi:=top 32
theorem sc_pairs_told:FnScope ["web","pairs","ways","heights"] ["web","pairs"] (defScope s_pairs_told):=by right
abbrev s_pair_right:udi:=top 33
theorem sc_pair_right:FnScope ["web","keep","pair","way","heights","a","b","rise"] ["web","keep","pair","way","heights"] (defScope s_pair_right):=by right
abbrev s_pairs_right:udi:=top 34
theorem sc_pairs_right:FnScope ["web","pairs","told","keep","ways","papers"] ["web","pairs","told"] (defScope s_pairs_right):=by right
abbrev s_shared_by:udi:=top 35
theorem sc_shared_by:FnScope ["one","other"] ["one","other"] (defScope s_shared_by):=by right
abbrev s_partings:udi:=top 36
theorem sc_partings:FnScope ["ways","told","j","other","i","one","shared"] ["ways"] (defScope s_partings):=by right
abbrev s__law_pot:udi:=top 38
theorem sc__law_pot:FnScope ["script","k","cell","prime"] ["script","k"] (defScope s__law_pot):=by right
abbrev s__law_take:udi:=top 39
theorem sc__law_take:FnScope ["pot","many","found"] ["pot","many"] (defScope s__law_take):=by right
abbrev s__law_length:udi:=top 40
theorem sc__law_length:FnScope ["pot","way"] ["pot","way"] (defScope s__law_length):=by right
abbrev s__law_tied:udi:=top 41
theorem sc__law_tied:FnScope ["pot","n","style","a","b","beside"] ["pot","n","style","a","b"] (defScope s__law_tied):=by right
abbrev s__law_order:udi:=top 42
theorem sc__law_order:FnScope ["pot","many","left","found","turn"] ["pot","many"] (defScope s__law_order):=by right
abbrev s__law_web:udi:=top 43
theorem sc__law_web:FnScope ["pot","most","n","style","way","names","ties","b","a","one","other"] ["pot","most"] (defScope s__law_web):=by right
abbrev s__law_fars:udi:=top 45
theorem sc__law_fars:FnScope ["web","keep","start","found","turn","number","a","b","length","one","other","more"] ["web","keep","start"] (defScope s__law_fars):=by right
abbrev s__law_pairs:udi:=top 46
theorem sc__law_pairs:FnScope ["pot","n","way","rare","one","found","a","b"] ["pot","n"] (defScope s__law_pairs):=by right
abbrev s_law:udi:=top 47
theorem sc_law:FnScope ["script","at","pot","web","pairs","told","keep","ways","heights","numbers","k","a","b","parted","place","ties","most"] ["script"] (defScope s_law):=by right
section
variable {P:l9}{w:uak}{K:b8}{mg:Str->Option c9}{base:Heap}
theorem uW (T:Bi mg)(D:DefOk K mg "_law_take" s__law_take ["pot","many"]):‹1› "_law_take" ["pot","many"] spTake:=by
 exists 0,sc__law_take
 obtain⟨p,m,rfl,⟨a,b,hp,ha,hb,hb2⟩,hm,hm2,q⟩:=h
 refine⟨_,(aG (aX (aS cQ (aJ aZ (pv 0) aC (λ _ _=>rfl)) aC (nomark _)) (aG (aR (i:=2) nd rfl (m9 rfl) (aM cM (aJ aZ (pv 0) aC (λ _ _=>rfl)) (pv 1))) (aG (bS (aM pM (aJ aZ (pv 0) aC (λ _ _=>rfl)) (pv 1)) (dY (pv 0) aC dR)) (aE (aL (pv 2))))) aV) (aG (bS (aM cM (aM cB (aM eC (aJ aZ (pv 0) aC (λ _ _=>rfl)) aC) aC) aC) (dY (pv 0) aC dR)) (aE (aL (aM cM (aM pM (aM cM (aM cA (aJ aZ (pv 0) aC (λ _ _=>rfl)) aC) aC) aC) (pv 1)))))),?_⟩
 refine⟨_,rfl,p,_,_,_,rfl,rfl,SqL.of hp,rfl,_,_,rfl,rfl,_,rfl,?_⟩
 refine ite2 (λ c=>?_) (λ c=>?_)
 ·refine⟨_,rfl,p,_,_,_,rfl,rfl,SqL.of hp,rfl,_,rfl,_,_,rfl,rfl,hm,?_⟩
  refine⟨_,rfl,p,_,_,_,rfl,rfl,SqL.of hp,rfl,_,rfl,_,_,rfl,rfl,⟨hm,hm2⟩,?_⟩
  refine⟨_,rfl,p,_,0,0,rfl,rfl,hp,rfl,_,rfl,?_⟩
  refine q _ _ (uc4 _ (by left)) (ucz _ hm) But.upd ⟨a / m,b,aO,Int.ediv_nonneg ha (by left),hb,hb2⟩
 ·refine⟨_,rfl,p,_,_,_,rfl,rfl,SqL.of hp,rfl,_,_,rfl,rfl,.inr ⟨by decide,by decide⟩,_,_,rfl,rfl,_,_,rfl,rfl,(by show (0:Int)<2147483647;decide),?_⟩
  refine⟨_,rfl,p,_,1,1,rfl,rfl,hp,rfl,?_⟩
  have n1:0<=(b*48271+12820163)%2147483647:=uc4 _ (by decide)
  have n2:(b*48271+12820163)%2147483647<2147483647:=ucz _ (by decide)
  refine⟨_,rfl,p,_,_,_,rfl,rfl,SqL.of aO,rfl,_,_,rfl,rfl,⟨by decide,by decide,by left⟩,_,_,rfl,rfl,(by show (0:Int)<2147483629;decide),_,_,rfl,rfl,⟨by decide,by decide⟩,_,rfl,_,_,rfl,rfl,hm,?_⟩
  exact q _ _ (uc4 _ (by left)) (ucz _ hm) But.upd ⟨a,_,aO,ha,n1,n2⟩
theorem vY (T:Bi mg)(D:DefOk K mg "_law_pot" s__law_pot ["script","k"]):‹1› "_law_pot" ["script","k"] (spPot K):=by
 exists 0,sc__law_pot
 obtain⟨a,k,ns,rfl,hS,hk0,hk1,q⟩:=h
 have hl:(ns.map V.int).length=ns.length:=c8 _
 refine⟨_,(aG (aR (i:=2) nd rfl (m9 rfl) aC) (aG (aX (aS cO (pv 1) (aQ bG rfl T.z_len (by symm) (aA (pv 0) aB)) (nomark _)) (aE (aR (i:=2) nd rfl (m9 rfl) (aM cM (aJ aZ (pv 0) (pv 1) (λ _ _=>rfl)) (aM pL (aM pL (aM cA aC aC) (aM cA aC aC)) (aM cA aC aC))))) aV) (aG (aR (i:=3) nd rfl (m9 rfl) (aJ aZ (dZ (aA aC (aA aC (aA aC (aA aC (aA aC aB)))))) (aM cM (pv 1) aC) (λ _ _=>rfl))) (aE (aL (dZ (aA (aQ (jI rfl) rfl T.z_max (by symm) (aA aC (aA (aM cL (pv 2) (aM cA aC aC)) aB))) (aA (aM cM (aM cA (aM cB (aM cB (aM cM (pv 2) (pv 3)) (aM eC aC (pv 1))) aC) aC) aC) aB)))))))),?_⟩
  -- behind the test: cell is some number that is not below nought
 have rest : ∀ (cell : Int), 0 <= cell → ∀ (σ : L2.St), σ = [some (.ref a), some (.int k), some (.int cell), none] →
     (tSeq (tAsg (tOp (rIxL K) (tLst (tCons (tC (.int 2147483629)) (tCons (tC (.int 2147483587)) (tCons (tC (.int 2147483579)) (tCons (tC (.int 2147483563)) (tCons (tC (.int 2147483549)) tNil)))))) (tOp (rI (λ _ j=>0<j) λ i j=>.int (i%j)) (tVar 1) (tC (.int 5)))) (gName 3))
       (tRet (tLst (tCons (tCB (λ xs H Q=>∃ i j,xs=[.int i,.int j]/\Q (.int (if j>i then j else i)) H) (tCons (tC (.int 0)) (tCons (tOp (rI0 λ i j=>.int (i-j)) (tVar 2) (tOp (rI CPow λ i j=>.int (i^j.toNat)) (tC (.int 10)) (tC (.int 18)))) tNil)))
         (tCons (tOp (rI (λ _ j=>0<j) λ i j=>.int (i%j)) (tOp (rI CPow λ i j=>.int (i^j.toNat)) (tOp (rI0 λ i j=>.int (i+j)) (tOp (rI0 λ i j=>.int (i+j)) (tOp (rI (λ _ j=>0<j) λ i j=>.int (i%j)) (tVar 2) (tVar 3)) (tOp (rI CMul λ i j=>.int (i*j)) (tC (.int 7919)) (tVar 1))) (tC (.int 11))) (tC (.int 3))) (tC (.int 2147483647))) tNil)))))
       { nx:=λ _ H'=>Q .non H',rt:=Q } σ H:=by
  intro cell hc σ hσ
  subst hσ
  refine⟨(by show 5<=r9;decide),λ l hl=>?_⟩
  refine⟨_,rfl,_,_,rfl,rfl,(by show (0:Int)<5;decide),?_⟩
  have m0:0<=k%5:=uc4 _ (by decide)
  have m1:k%5<5:=ucz _ (by decide)
  have pr:∃ v:Int,atI [V.int 2147483629,V.int 2147483587,V.int 2147483579,V.int 2147483563,V.int 2147483549] (k%5)=some (.int v)/\2147483549<=v/\v<=2147483629:=by
   have:k%5=0\/k%5=1\/k%5=2\/k%5=3\/k%5=4:=by left
   rcases this with e | e | e | e | e <;> rw[e] <;> exact⟨_,rfl,by decide,by decide⟩
  obtain⟨v,hv,v1,v2⟩:=pr
  refine⟨l,_,_,_,rfl,rfl,SqL.of aO,hv,?_⟩
  have S1:Same H (upd H l (.lst [V.int 2147483629,V.int 2147483587,V.int 2147483579,V.int 2147483563,V.int 2147483549])):=aT hl
  refine⟨_,rfl,_,_,rfl,rfl,⟨by decide,by decide,by decide⟩,_,_,rfl,rfl,_,_,rfl,?_⟩
  refine⟨_,rfl,_,rfl,_,_,rfl,rfl,(by show (0:Int)<v;left),_,rfl,_,_,rfl,rfl,.inl ⟨by decide,by decide⟩,_,_,rfl,rfl,_,_,rfl,rfl,_,_,rfl,rfl,⟨by decide,by decide,?_⟩,_,_,rfl,rfl,(by show (0:Int)<2147483647;decide),?_⟩
  ·have c0:0<=cell%v:=uc4 _ (by left)
   have c1:cell%v<v:=ucz _ (by left)
   left
  refine⟨(by show 2<=r9;decide),λ l2 hl2=>?_⟩
  refine q l2 _ (S1.trans (aT hl2)) (S1.free hl2) ⟨_,_,aO,?_,uc4 _ (by decide),ucz _ (by decide)⟩
  split <;> left
 refine⟨_,rfl,_,rfl,a,_,rfl,.inl hS,_,_,rfl,rfl,_,rfl,?_⟩
 refine ite2 (λ c=>?_) (λ c=>?_)
 ·have c':k<(((ns.map V.int).length:Nat):Int):=uhb c
  rw[hl] at c'
  obtain⟨v,hv⟩:∃ v:Int,atI (ns.map V.int) k=some (.int v):=by
   have hk:k.toNat<ns.length:=by left
   have ek:k=((k.toNat:Nat):Int):=by left
   have z:atI (ns.map V.int) ((k.toNat:Nat):Int)=some (.int ns[k.toNat]):=qG (by rw[i8,c7 hk] <;> rfl)
   rw[← ek] at z
   exact⟨_,z⟩
  refine⟨_,rfl,_,rfl,a,_,_,_,rfl,rfl,hS,hv,?_⟩
  refine⟨_,_,rfl,rfl,⟨by decide,by decide,by decide⟩,_,_,rfl,rfl,⟨by decide,by decide,by decide⟩,_,_,rfl,rfl,mulB,_,_,rfl,rfl,⟨by decide,by decide,by decide⟩,_,_,rfl,rfl,mulB2,_,_,rfl,rfl,posB,?_⟩
  exact rest _ (uc4 _ (by have:=posB;left)) _ rfl
 ·exact rest 5 (by decide) _ rfl
theorem tG (T:Bi mg)(D:DefOk K mg "_law_length" s__law_length ["pot","way"])(O__law_take:‹1› "_law_take" ["pot","many"] spTake):‹2› "_law_length" ["pot","way"] spLength:=by
 exists 1,sc__law_length
 obtain⟨p,y,rfl,hp,hy0,hy5,q⟩:=h
 refine⟨_,(aG (aX (aS cO (pv 1) aC (nomark _)) (aE (aL (aJ aZ (dZ (aA aC (aA (aM cB aC (aK O__law_take hr rfl (aA (pv 0) (aA aC aB)))) aB))) (pv 1) (λ _ _=>rfl)))) aV) (aG (aX (aS bE (pv 1) aC (nomark _)) (aE (aL (aM cB aC (aK O__law_take hr rfl (aA (pv 0) (aA aC aB)))))) aV) (aG (aX (aS bE (pv 1) aC (nomark _)) (aE (aL (aJ aZ (dZ (aA aC (aA aC (aA aC (aA (aM cA aC aC) (aA (aM cL (aM cA aC aC) aC) (aA (aM cA aC aC) aB))))))) (aK O__law_take hr rfl (aA (pv 0) (aA aC aB))) (λ _ _=>rfl)))) aV) (aE (aL (aM cB aC (aM eC (aK O__law_take hr rfl (aA (pv 0) (aA (aM cA aC aC) aB))) (aK O__law_take hr rfl (aA (pv 0) (aA (aM cB (aM cA aC aC) aC) aB)))))))))),?_⟩
 refine⟨_,rfl,_,_,rfl,rfl,_,rfl,?_⟩
 refine ite2 (λ c=>?_) (λ c=>?_)
 ·have c':y<2:=uhb c
  refine⟨_,rfl,p,3,rfl,hp,by decide,by decide,λ r H1 r0 r1 b1 p1=>?_⟩
  refine⟨_,_,rfl,rfl,(by show 2<=r9;decide),λ l hl=>?_⟩
  have at_:∃ v:Int,atI [V.int 1,V.int (1+r)] y=some (.int v)/\1<=v/\v<=10^18:=by
   have:y=0\/y=1:=by left
   rcases this with e | e <;> rw[e]
   ·exact⟨1,rfl,by symm,by symm⟩
   ·exact⟨1+r,rfl,by left,by left⟩
  obtain⟨v,hv,v0,v1⟩:=at_
  refine⟨_,rfl,l,_,_,_,rfl,rfl,SqL.of aO,hv,?_⟩
  obtain⟨a',b',e',z⟩:=p1
  exact q v _ v0 v1 (b1.trans (But.new hl)) ⟨a',b',(aT hl) _ _ e',z⟩
 refine⟨_,rfl,rfl,_,rfl,?_⟩
 refine ite2 (λ c2=>?_) (λ c2=>?_)
 ·refine⟨_,rfl,p,50,rfl,hp,by decide,by decide,λ r H1 r0 r1 b1 p1=>?_⟩
  exact⟨_,_,rfl,rfl,q _ _ (by left) (by left) b1 p1⟩
 refine⟨_,rfl,rfl,_,rfl,?_⟩
 refine ite2 (λ c3=>?_) (λ c3=>?_)
 ·refine⟨_,_,rfl,rfl,⟨by decide,by decide,by decide⟩,_,_,rfl,rfl,⟨by decide,by decide,by decide⟩,_,_,rfl,rfl,_,_,rfl,rfl,⟨by decide,by decide,by decide⟩,(by show 6<=r9;decide),λ l hl=>?_⟩
  have hp':Pot (upd H l (.lst [V.int 1,V.int 2,V.int 3,V.int ((10:Int)^(18:Int).toNat),V.int ((10:Int)^(18:Int).toNat-1),V.int ((10:Int)^(17:Int).toNat)])) p:=by
   obtain⟨a',b',e',z⟩:=hp
   exact⟨a',b',(aT hl) _ _ e',z⟩
  have lp:l≠p:=by
   obtain⟨a',b',e',z⟩:=hp
   exact λ e=>by rw[e,e'] at hl;cases hl
  refine⟨_,rfl,p,6,rfl,hp',by decide,by decide,λ r H1 r0 r1 b1 p1=>?_⟩
  have at_:∃ v:Int,atI [V.int 1,V.int 2,V.int 3,V.int ((10:Int)^(18:Int).toNat),V.int ((10:Int)^(18:Int).toNat-1),V.int ((10:Int)^(17:Int).toNat)] r=some (.int v)/\1<=v/\v<=10^18:=by
   have:r=0\/r=1\/r=2\/r=3\/r=4\/r=5:=by left
   rcases this with e | e | e | e | e | e <;> rw[e] <;> exact⟨_,rfl,by symm,by symm⟩
  obtain⟨v,hv,v0,v1⟩:=at_
  refine⟨l,_,_,_,rfl,rfl,SqL.of (b1 _ _ lp aO),hv,?_⟩
  exact q v _ v0 v1 ((But.new hl).trans b1) p1
 ·refine⟨_,rfl,_,_,rfl,rfl,⟨by decide,by decide,by decide⟩,p,_,rfl,hp,by decide,by decide,λ r H1 r0 r1 b1 p1=>?_⟩
  refine⟨_,rfl,_,_,rfl,rfl,⟨by decide,by decide,by decide⟩,_,_,rfl,rfl,p,_,rfl,p1,by decide,by decide,λ r2 H2 r20 r21 b2 p2=>?_⟩
  have e9:((10:Int)^(9:Int).toNat)=1000000000:=by decide
  rw[e9] at r1 r21
  refine⟨_,_,rfl,rfl,.inl ⟨by left,by left⟩,_,_,rfl,rfl,?_⟩
  have m0:0<=r*r2:=Int.mul_nonneg r0 r20
  have m1:r*r2<=999999999*1000000000:=Int.mul_le_mul (by left) (by left) r20 (by decide)
  exact q _ _ (by left) (by left) (b1.trans b2) p2
theorem uV (T:Bi mg)(D:DefOk K mg "_law_tied" s__law_tied ["pot","n","style","a","b"])(O__law_take:‹1› "_law_take" ["pot","many"] spTake):‹2› "_law_tied" ["pot","n","style","a","b"] spTied:=by
 exists 1,sc__law_tied
 obtain⟨p,n,y,a,b,rfl,hp,q⟩:=h
 have q0:∀ k,Q (.bl k) H:=λ k=>q k H But.refl hp
 refine⟨_,(aG (aR (i:=5) nd rfl (m9 rfl) (kP (bC bE (aM cL (pv 4) (pv 3)) aC (nomark _)) (bX (bC bE (aM cL (pv 4) (pv 3)) (aM cL (pv 1) aC) (nomark _))))) (aG (aX (aS cO (pv 2) aC (nomark _)) (aE (aL (kP (pv 5) (bX (bZ (bC bE (pv 2) aC (nomark _)) (bX (bC bE (aK O__law_take hr rfl (aA (pv 0) (aA aC aB))) aC (nomark _)))))))) aV) (aG (aX (aS cO (pv 2) aC (nomark _)) (aE (aL (bC bE (bC cQ (aK O__law_take hr rfl (aA (pv 0) (aA aC aB))) aC (nomark _)) (bC bE (pv 2) aC (nomark _)) (nomark _)))) aV) (aG (aX (aS bE (pv 2) aC (nomark _)) (aE (aL (kP (bC bE (aM cL (pv 4) (pv 3)) aC (nomark _)) (bX (bZ (bC bE (aM cL (pv 4) (pv 3)) aC (nomark _)) (bX (bC cQ (aM cM (pv 4) aC) aC (nomark _)))))))) aV) (aG (aX (aS cO (pv 2) aC (nomark _)) (aE (aL (bZ (bC bE (bC bE (aM cM (pv 3) aC) (aM cM (pv 4) aC) (nomark _)) (bC bE (pv 2) aC (nomark _)) (nomark _)) (bX (bC cQ (aK O__law_take hr rfl (aA (pv 0) (aA aC aB))) aC (nomark _)))))) aV) (aE (aL bP))))))),?_⟩
 refine⟨_,rfl,_,rfl,_,_,rfl,rfl,rfl,_,rfl,?_⟩
 refine ite2 (λ c=>?_) (λ c=>?_)
 all_goals (try refine⟨_,rfl,_,rfl,_,_,rfl,rfl,_,rfl,_,_,rfl,rfl,rfl,?_⟩)
 all_goals
  refine⟨_,rfl,_,_,rfl,rfl,_,rfl,?_⟩
  refine ite2 (λ c1=>?_) (λ c1=>?_)
  ·refine⟨_,rfl,_,rfl,?_⟩
   refine ite2 (λ d=>?_) (λ d=>?_)
   ·exact q0 _
   ·refine⟨_,rfl,rfl,_,rfl,?_⟩
    refine ite2 (λ d=>?_) (λ d=>?_)
    ·exact⟨_,rfl,p,_,rfl,hp,by decide,by decide,λ r H' _ _ b1 p1=>⟨rfl,q _ _ b1 p1⟩⟩
    ·exact q0 _
  refine⟨_,rfl,_,_,rfl,rfl,_,rfl,?_⟩
  refine ite2 (λ c2=>?_) (λ c2=>?_)
  ·exact⟨_,rfl,p,_,rfl,hp,by decide,by decide,λ r H' _ _ b1 p1=>⟨_,_,rfl,rfl,_,rfl,rfl,rfl,q _ _ b1 p1⟩⟩
  refine⟨_,rfl,rfl,_,rfl,?_⟩
  refine ite2 (λ c3=>?_) (λ c3=>?_)
  ·refine⟨_,rfl,_,rfl,_,_,rfl,rfl,rfl,_,rfl,?_⟩
   refine ite2 (λ d=>?_) (λ d=>?_)
   ·exact q0 _
   ·refine⟨_,rfl,_,rfl,_,_,rfl,rfl,rfl,_,rfl,?_⟩
    refine ite2 (λ d=>?_) (λ d=>?_)
    ·exact⟨_,rfl,_,_,rfl,rfl,(by show (0:Int)<3;decide),_,_,rfl,rfl,q0 _⟩
    ·exact q0 _
  refine⟨_,rfl,_,_,rfl,rfl,_,rfl,?_⟩
  refine ite2 (λ c4=>?_) (λ c4=>?_)
  ·refine⟨_,rfl,_,_,rfl,rfl,(by show (0:Int)<2;decide),_,rfl,_,_,rfl,rfl,(by show (0:Int)<2;decide),rfl,_,rfl,rfl,rfl,_,rfl,?_⟩
   refine ite2 (λ d=>?_) (λ d=>?_)
   ·exact⟨_,rfl,p,_,rfl,hp,by decide,by decide,λ r H' _ _ b1 p1=>⟨_,_,rfl,rfl,q _ _ b1 p1⟩⟩
   ·exact q0 _
  ·exact q0 _
theorem uC (T:Bi mg)(D:DefOk K mg "_law_order" s__law_order ["pot","many"])(O__law_take:‹1› "_law_take" ["pot","many"] spTake):‹2› "_law_order" ["pot","many"] spOrder:=by
 exists 1,sc__law_order
 obtain⟨p,m,rfl,hp,hm0,hm1,q⟩:=h
 refine⟨_,(aG (aR (i:=2) nd rfl (m9 rfl) (bJ (uH rfl) rfl T.z_list (by symm) (aA (bJ iZ rfl T.z_range (by symm) (aA (pv 1) aB)) aB))) (aG (aR (i:=3) nd rfl (m9 rfl) (dZ aB)) (aG (bL PassesOwn.never rfl (dQ rfl T.z_range (aA (pv 1) aB)) (aH (i:=4) nd rfl (m9 rfl)) (aE (dW (dP ubb ucg ucf gL (pv 3) (aA (dP ubb PySem.F.slot_list_pop PySem.F.type_list_pop zat (pv 2) (aA (aK O__law_take hr rfl (aA (pv 0) (aA (aQ bG rfl T.z_len (by symm) (aA (pv 2) aB)) aB))) aB)) aB))))) (aE (aL (pv 3)))))),?_⟩
 refine⟨_,rfl,m,rfl,λ g hg=>?_⟩
 refine⟨g,m,rfl,aO,hm0,hm1,λ l hl=>?_⟩
 refine⟨(by show 0<=r9;decide),λ l2 hl2=>?_⟩
 obtain⟨H0,eH0⟩:∃ H0,H0=upd (upd (upd H g (.rng 0 m)) l (.lst ((d8 m.toNat).map λ i:Nat=>V.int (i:Int)))) l2 (.lst []):=⟨_,rfl⟩
 rw[← eH0]
 have S1:Same H (upd H g (.rng 0 m)):=aT hg
 have S2:=S1.trans (aT (o:=.lst ((d8 m.toNat).map λ i:Nat=>V.int (i:Int))) hl)
 have S3:Same H H0:=by rw[eH0];exact S2.trans (aT hl2)
 have fl:H l=none:=S1.free hl
 have fl2:H l2=none:=S2.free hl2
 have ll2:l≠l2:=λ e=>by rw[← e,aO] at hl2;cases hl2
 have el:H0 l=some (.lst ((d8 m.toNat).map λ i:Nat=>V.int (i:Int))):=by rw[eH0,aN ll2,aO]
 have el2:H0 l2=some (.lst []):=by rw[eH0,aO]
 have hp0:Pot H0 p:=by
  obtain⟨a,b,e,z⟩:=hp
  exact⟨a,b,S3 _ _ e,z⟩
 have nlp:l≠p:=by
  obtain⟨a,b,e,z⟩:=hp
  exact λ x=>by rw[x,e] at fl;cases fl
 have nl2p:l2≠p:=by
  obtain⟨a,b,e,z⟩:=hp
  exact λ x=>by rw[x,e] at fl2;cases fl2
 refine⟨_,rfl,m,rfl,by left,by left,?_⟩
 refine dD (n:=m.toNat) (λ i σ H'=>∃ (t:Option V)(ls ms:List Int),σ=[some (.ref p),some (.int m),some (.ref l),some (.ref l2),t]/\H' l=some (.lst (ls.map V.int))/\H' l2=some (.lst (ms.map V.int))/\Pot H' p /\
  (∀ b o,b≠p->H b=some o->H' b=some o)/\(ms++ls).Perm ((d8 m.toNat).map λ i:Nat=>(i:Int))/\ms.length=i) ?start ?turn ?fin
 case start=>exact⟨none,(d8 m.toNat).map λ i:Nat=>(i:Int),[],rfl,by rw[el,uaj];rfl,el2,hp0,λ b o _ e=>S3 b o e,ud5 _,rfl⟩
 case turn =>
  rintro i σ H' hi ⟨t,ls,ms,rfl,e1,e2,hp',kp,pm,hl'⟩
  have hlen:ls.length=m.toNat-i:=by
   have:=pm.length_eq
   rw[i6,c8,v4] at this
   left
  refine⟨_,rfl,.inl ⟨rfl,_,SqL.of e2⟩,_,rfl,.inl ⟨rfl,_,SqL.of e1⟩,_,rfl,_,rfl,l,_,rfl,.inl (SqL.of e1),?_⟩
  refine⟨p,_,rfl,hp',(by rw[c8];left),(by rw[c8];left),λ r H1 r0 r1 b1 p1=>?_⟩
  rw[c8] at r1
  have hr1:r.toNat<ls.length:=by left
  have er:r=((r.toNat:Nat):Int):=by left
  have six:seqIndex? r (ls.map V.int).length=some r.toNat:=(kA (by unfold ixN;rw[uhd r0,uhd (by rw[c8];left)])).1
  refine⟨l,_,r,r.toNat,.int ls[r.toNat],rfl,rfl,b1 _ _ nlp e1,by left,by left,six,by rw[i8,c7 hr1];rfl,?_⟩
  refine⟨l2,_,_,rfl,rfl,by rw[aN ll2.symm];exact b1 _ _ nl2p e2,?_,?_⟩
  ·rw[c8]
   exact ucy (by left:ms.length<=1000) (by decide)
  ·refine⟨_,ls.eraseIdx r.toNat,ms++[ls[r.toNat]],rfl,?_,?_,?_,?_,?_,by rw[i6,t6];left⟩
   ·rw[aN ll2,aO,mG]
   ·rw[aO,ubs];rfl
   ·obtain⟨a,b,e,z⟩:=p1
    exact⟨a,b,by rw[aN nl2p.symm,aN nlp.symm];exact e,z⟩
   ·intro b o hb e
    have n1:b≠l:=λ x=>by rw[x,fl] at e;cases e
    have n2:b≠l2:=λ x=>by rw[x,fl2] at e;cases e
    rw[aN n2,aN n1]
    exact b1 _ _ hb (kp _ _ hb e)
   ·refine List.Perm.trans ?_ pm
    rw[uax]
    refine ugq _ ?_
    show (ls[r.toNat]::ls.eraseIdx r.toNat).Perm ls
    exact lS ls r.toNat hr1
 case fin =>
  rintro σ H' ⟨t,ls,ms,rfl,e1,e2,hp',kp,pm,hl'⟩
  have hlen:ls=[]:=by
   have:=pm.length_eq
   rw[i6,c8,v4] at this
   exact uf6 (by left)
  subst hlen
  rw[uay] at pm
  exact⟨_,rfl,q l2 H' ms kp hp' fl2 nl2p e2 pm⟩
def WInv (H:Hp)(p ln lt:l7)(m n st wy:Int)(ms:List Int)(b a:Nat)(σ:L2.St)(H':Hp):Prop :=
 ∃ (t7 t8 t9 t10:Option V)(ys:List V)(ties:List Tie),σ=[some (.ref p),some (.int m),some (.int n),some (.int st),some (.int wy),some (.ref ln),some (.ref lt),t7,t8,t9,t10] /\
  H' ln=some (.lst (ms.map V.int))/\H' lt=some (.lst ys)/\TieL H' ys ties/\Pot H' p/\(∀ b o,b≠p->H b=some o->H' b=some o)/\Grown n.toNat ms b a ties
theorem vX (T:Bi mg)(D:DefOk K mg "_law_web" s__law_web ["pot","most"])(O__law_take:‹2› "_law_take" ["pot","many"] spTake)(O__law_order:‹2› "_law_order" ["pot","many"] spOrder)
  (O__law_tied:‹2› "_law_tied" ["pot","n","style","a","b"] spTied) (O__law_length:‹2› "_law_length" ["pot","way"] spLength):‹3› "_law_web" ["pot","most"] (spWeb K):=by
 exists 2,sc__law_web
 obtain⟨p,m,rfl,hp,hm0,hm1,q⟩:=h
 refine⟨_,(aG (aR (i:=2) nd rfl (m9 rfl) (aM cB aC (aK O__law_take hr rfl (aA (pv 0) (aA (pv 1) aB))))) (aG (aR (i:=3) nd rfl (m9 rfl) (aK O__law_take hr rfl (aA (pv 0) (aA aC aB)))) (aG (aR (i:=4) nd rfl (m9 rfl) (aK O__law_take hr rfl (aA (pv 0) (aA aC aB)))) (aG (aR (i:=5) nd rfl (m9 rfl) (aK O__law_order hr rfl (aA (pv 0) (aA (pv 2) aB)))) (aG (aR (i:=6) nd rfl (m9 rfl) (dZ aB)) (aG (bL PassesOwn.never rfl (dQ rfl T.z_range (aA (pv 2) aB)) (aH (i:=7) nd rfl (m9 rfl)) (aE (bL PassesOwn.never rfl (dQ rfl T.z_range (aA (pv 7) aB)) (aH (i:=8) nd rfl (m9 rfl)) (aE (aX (PW.pt (kI (cI (aK O__law_tied hr rfl (aA (pv 0) (aA (pv 2) (aA (pv 3) (aA (pv 8) (aA (pv 7) aB))))))) (pF (aS cO (aQ bG rfl T.z_len (by symm) (aA (pv 6) aB)) aC (nomark _))))) (aG (bS (aQ vB rfl T.z_sorted (by symm) (aA (dZ (aA (aJ aZ (pv 5) (pv 8) (λ _ _=>rfl)) (aA (aJ aZ (pv 5) (pv 7) (λ _ _=>rfl)) aB))) aB)) (zdl (n:=2) rfl (aP (aH (i:=9) nd rfl (m9 rfl)) (aP (aH (i:=10) nd rfl (m9 rfl)) bD)))) (aE (dW (dP ubb ucg ucf gL (pv 6) (aA (qS (aA (pv 9) (aA (pv 10) (aA (aK O__law_length hr rfl (aA (pv 0) (aA (pv 4) aB))) aB)))) aB))))) aV))))) (aE (aL (qS (aA (pv 2) (aA (bJ lB rfl T.z_tuple (by symm) (aA (aQ uZ rfl T.z_sorted (by symm) (aA (pv 6) aB)) aB)) aB))))))))))),?_⟩
 refine⟨_,rfl,_,rfl,p,m,rfl,hp,by left,by left,λ r1 H1 r10 r11 b1 p1=>?_⟩
 refine⟨_,_,rfl,rfl,?_⟩
 refine⟨_,rfl,p,8,rfl,p1,by decide,by decide,λ st H2 _ _ b2 p2=>?_⟩
 refine⟨_,rfl,p,5,rfl,p2,by decide,by decide,λ wy H3 wy0 wy1 b3 p3=>?_⟩
 refine⟨_,rfl,_,rfl,p,_,rfl,p3,by left,by left,λ ln H4 ms b4 p4 f4 n4 e4 pm=>?_⟩
 obtain⟨n,en⟩:∃ n:Int,n=1+r1:=⟨_,rfl⟩
 rw[← en] at pm
 have bt4:But p H H4:=b1.trans (b2.trans (b3.trans b4))
 have fln:H ln=none:=by
  cases e:H ln with
  | none=>rfl
  | some u=>rw[(b1.trans (b2.trans b3)) _ _ n4 e] at f4;cases f4
 refine⟨(by show 0<=r9;decide),λ lt hlt=>?_⟩
 have flt:H lt=none:=by
  by_cases z:lt=p
  ·obtain⟨a',b',e',_⟩:=p4;rw[z,e'] at hlt;cases hlt
  ·cases e:H lt with
   | none=>rfl
   | some u=>rw[bt4 _ _ z e] at hlt;cases hlt
 have nlt:lt≠p:=by
  obtain⟨a',b',e',_⟩:=p4
  exact λ x=>by rw[x,e'] at hlt;cases hlt
 have nln:ln≠lt:=λ x=>by rw[← x,e4] at hlt;cases hlt
 have pm0:Perm0 n.toNat ms:=Perm0.of pm
 refine⟨_,rfl,n,by rw[en],by left,by left,?_⟩
 refine dD (n:=n.toNat) (λ i σ H'=>WInv H p ln lt m n st wy ms i 0 σ H') ?start ?turn ?fin
 case start =>
  refine⟨none,none,none,none,[],[],by rw[en];rfl,by rw[aN nln];exact e4,aO,.nil,?_,λ b o hb e=>?_,Grown.start⟩
  ·obtain⟨a',b',e',z⟩:=p4
   exact⟨a',b',by rw[aN nlt.symm];exact e',z⟩
  ·rw[aN (λ x=>by rw[x,flt] at e;cases e)]
   exact bt4 _ _ hb e
 case turn =>
  rintro i σ H' hi ⟨t7,t8,t9,t10,ys,ties,rfl,g1,g2,g3,g4,g5,g6⟩
  refine⟨_,rfl,_,rfl,by left,by left,?_⟩
  have ei:((0+(i:Int)):Int).toNat=i:=by left
  rw[ei]
  refine dD (n:=i) (λ k σ H''=>(∃ t7,σ[7]?=some (some (.int (0+(i:Int))))/\t7=())/\WInv H p ln lt m n st wy ms i k σ H'') ?start2 ?turn2 ?fin2
  case start2=>exact⟨⟨(),rfl,rfl⟩,some (.int (0+(i:Int))),t8,t9,t10,ys,ties,rfl,g1,g2,g3,g4,g5,g6⟩
  case fin2 =>
   rintro σ H'' ⟨_,t7,t8,t9,t10,ys,ties,rfl,g1,g2,g3,g4,g5,g6⟩
   exact⟨t7,t8,t9,t10,ys,ties,rfl,g1,g2,g3,g4,g5,g6.down⟩
  case turn2 =>
   rintro k σ K1 hk ⟨⟨_,h7,_⟩,t7,t8,t9,t10,ys,ties,rfl,g1,g2,g3,g4,g5,g6⟩
   have e7:t7=some (.int (0+(i:Int))):=by simpa using h7
   subst e7
   have again : ∀ {u8 u9 u10 : Option V}{ys' : List V}{ts : List Tie}{J : Hp}, J ln = some (.lst (ms.map V.int)) → J lt = some (.lst ys') → TieL J ys' ts → Pot J p → (∀ b o, b ≠ p → H b = some o → J b = some o) → Grown n.toNat ms i (k+1) ts →
       (∃ t7,([some (.ref p),some (.int m),some (.int n),some (.int st),some (.int wy),some (.ref ln),some (.ref lt),some (.int (0+(i:Int))),u8,u9,u10]:L2.St)[7]?=some (some (.int (0+(i:Int))))/\t7=())/\WInv H p ln lt m n st wy ms i (k+1) [some (.ref p),some (.int m),some (.int n),some (.int st),some (.int wy),some (.ref ln),some (.ref lt),some (.int (0+(i:Int))),u8,u9,u10] J :=
    λ a1 a2 a3 a4 a5 a6=>⟨⟨(),rfl,rfl⟩,_,_,_,_,_,_,rfl,a1,a2,a3,a4,a5,a6⟩
   refine⟨_,rfl,_,rfl,_,rfl,_,rfl,_,rfl,p,_,_,_,_,rfl,g4,λ kk K2 c2 d2=>⟨kk,rfl,?_⟩⟩
   have nlnp:ln≠p:=n4
   have l1:K2 ln=some (.lst (ms.map V.int)):=c2 _ _ nlnp g1
   have l2:K2 lt=some (.lst ys):=c2 _ _ nlt g2
   have tup2:∀ a xs,K1 a=some (.tup xs)->K2 a=some (.tup xs):=λ a xs e=>c2 _ _ (λ x=>by
    obtain⟨a',b',e',_⟩:=g4
    rw[x,e'] at e;cases e) e
   have l3:TieL K2 ys ties:=g3.keep tup2
   have l5:∀ b o,b≠p->H b=some o->K2 b=some o:=λ b o hb e=>c2 _ _ hb (g5 _ _ hb e)
   have ylen:ys.length=ties.length:=Paired.length g3
   cases kk with
   | false =>
    refine iteF (iteF ?_)
    exact again l1 l2 l3 d2 l5 g6.skip
   | true =>
    refine iteT ?_
    refine⟨_,rfl,lt,_,rfl,.inl (SqL.of l2),_,_,rfl,rfl,_,rfl,?_⟩
    refine ite2 (λ c=>?_) (λ c=>?_)
    case refine_2=>exact again l1 l2 l3 d2 l5 g6.skip
    have c':((ys.length:Nat):Int)<60:=uhb c
    have hkn:k<n.toNat:=by left
    have at_:∀ j:Nat,j<n.toNat->atI (ms.map V.int) (j:Int)=some (.int (ms.getD j 0)):=λ j hj=>by
     have hj':j<ms.length:=by rw[pm0.len];exact hj
     refine qG ?_
     rw[i8,c7 hj']
     simp [ubn,hj']
    have ak:atI (ms.map V.int) (0+(k:Int))=some (.int (ms.getD k 0)):=by rw[Int.zero_add];exact at_ k hkn
    have ai:atI (ms.map V.int) (0+(i:Int))=some (.int (ms.getD i 0)):=by rw[Int.zero_add];exact at_ i hi
    refine⟨_,rfl,_,rfl,ln,_,_,_,rfl,rfl,SqL.of l1,ak,_,rfl,_,rfl,ln,_,_,_,rfl,rfl,SqL.of l1,ai,(by show 2<=r9;decide),λ s1 hs1=>?_⟩
    refine⟨s1,[ms.getD k 0,ms.getD i 0],rfl,SqL.of aO,(by show 2<64;decide),λ zs pz wz s2 hs2=>?_⟩
    obtain⟨x,y,rfl,hxy,hor⟩:=wP pz wz
    refine⟨s2,_,rfl,SqL.of aO,rfl,?_⟩
    refine⟨_,_,rfl,_,_,rfl,rfl,?_⟩
    have n1:∀ b o,K2 b=some o->b≠s1:=λ b o e=>bB e hs1
    have n2:∀ b o,K2 b=some o->b≠s2:=λ b o e=>bB (aT hs1 b o e) hs2
    have up:∀ b o,K2 b=some o->upd (upd K2 s1 (.lst [.int (ms.getD k 0),.int (ms.getD i 0)])) s2 (.lst [.int x,.int y]) b=some o:=λ b o e=>by rw[aN (n2 b o e),aN (n1 b o e)];exact e
    refine⟨_,rfl,.inl ⟨rfl,_,SqL.of (up _ _ l2)⟩,_,rfl,_,rfl,_,rfl,_,rfl,?_⟩
    refine⟨p,wy,rfl,?_,wy0,wy1,λ len K5 ln0 ln1 c5 d5=>?_⟩
    ·obtain⟨a',b',e',z⟩:=d2
     exact⟨a',b',up _ _ e',z⟩
    refine⟨(by show 3<=r9;decide),λ tp htp=>?_⟩
    have pl:∃ xs,K2 p=some (.lst xs):=d2.lst
    have up5:∀ b o,b≠p->K2 b=some o->upd K5 tp (.tup [.int x,.int y,.int len]) b=some o:=λ b o hb e=>by
     have e5:=c5 b o hb (up b o e)
     rw[aN (bB e5 htp)];exact e5
    refine⟨lt,_,_,rfl,rfl,up5 _ _ nlt l2,?_,?_⟩
    ·exact ucy (by left:ys.length<=1000) (by decide)
    have k5:∀ b o,b≠p->b≠lt->K2 b=some o->upd (upd K5 tp (.tup [.int x,.int y,.int len])) lt (.lst (ys++[.ref tp])) b=some o:=λ b o hb hb2 e=>by rw[aN hb2];exact up5 b o hb e
    have ntp:tp≠lt:=λ z=>by
     have:=c5 _ _ nlt (up _ _ l2)
     rw[← z,htp] at this;cases this
    refine again (k5 _ _ nlnp nln l1) aO (TieL.snoc (TieL.keep l3 λ a xs e=>k5 _ _ ?_ ?_ e) ?_) ?_ (λ b o hb e=>k5 _ _ hb (λ z=>by rw[z,flt] at e;cases e) (l5 _ _ hb e))
     (g6.add (x:=x) (y:=y) (l:=len) pm0 hk hi (by left) ln0 ln1 hor hxy)
    ·intro z
     obtain⟨xs',e'⟩:=pl
     rw[z,e'] at e;cases e
    ·intro z
     rw[z,l2] at e;cases e
    ·rw[aN ntp,aO];rfl
    ·obtain⟨a',b',e',z⟩:=d5
     exact⟨a',b',by rw[aN nlt.symm,aN (bB e' htp)];exact e',z⟩
 case fin =>
  rintro σ H' ⟨t7,t8,t9,t10,ys,ties,rfl,g1,g2,g3,g4,g5,g6⟩
  have ylen:ys.length=ties.length:=Paired.length g3
  have few:=g6.few
  refine⟨_,rfl,_,rfl,lt,ys,ties.map tieI,rfl,SqL.of g2,by left,lF (λ y t ⟨a,e1,e2⟩=>⟨a,e1,SqT.of e2⟩) g3,λ k hk=>?_,λ qs pq wq l hl=>?_⟩
  ·obtain⟨t,_,rfl⟩:=uau.mp hk
   exact λ z=>by cases z
  obtain⟨ts,pt,tl,wt⟩:=zbv g3 pq wq
  refine⟨l,_,rfl,.inl ⟨SqL.of aO,λ l' hl'=>?_⟩⟩
  refine⟨(by show 2<=r9;decide),λ v hv=>?_⟩
  have S1:Same H' (upd H' l (.lst (qs.map (·.1)))):=aT hl
  have S2:=S1.trans (aT (o:=.tup (qs.map (·.1))) hl')
  have S3:=S2.trans (aT (o:=.tup [.int n,.ref l']) hv)
  refine q (.ref v) _ n ts (λ b o hb e=>S3 _ _ (g5 _ _ hb e)) ?_ ⟨by left,by left,zca wt ((pt.pairwise_iff (λ {a b} h z=>h ⟨z.1.symm,z.2.symm⟩)).mpr g6.nd),by have:=pt.length_eq;left,λ t ht=>?_⟩ (by left) ?_
  ·obtain⟨a',b',e',z⟩:=g4
   exact⟨a',b',S3 _ _ e',z⟩
  ·have:=g6.ok t (pt.mem_iff.mp ht)
   have e:((n.toNat:Nat):Int)=n:=by left
   rw[e] at this
   exact this
  ·refine⟨v,_,rfl,aO,_,_,rfl,rfl,_,_,rfl,⟨l',qs.map (·.1),rfl,?_,?_⟩,rfl⟩
   ·exact (aT hv) _ _ aO
   ·exact TieL.is (tl.keep λ a xs e=>S3 _ _ e)
theorem vV (T:Bi mg)(D:DefOk K mg "is_whole" s_is_whole ["thing"]):‹1› "is_whole" ["thing"] (spD1 K (λ _=>True) wholeB):=by
 exists 0,sc_is_whole
 obtain⟨d,v,rfl,hd,_,q⟩:=h
 have q0:=q H (Same.refl H)
 have ty:=kO hd
 refine⟨_,(aE (aL (bZ (aQ (eP (n:="int")) rfl T.z_isinstance (by symm) (aA (pv 0) (aA (eR (v:=.ty "int") rfl T.z_int (by symm) rfl) aB))) (bX (zdn (aQ (eP (n:="bool")) rfl T.z_isinstance (by symm) (aA (pv 0) (aA (eR (v:=.ty "bool") rfl T.z_bool (by symm) rfl) aB)))))))),?_⟩
 cases d with
 | int i=>exact⟨_,rfl,_,_,_,rfl,ty,rfl,_,rfl,iteT ⟨_,rfl,_,_,_,rfl,ty,rfl,_,rfl,q0⟩⟩
 | bool b=>exact⟨_,rfl,_,_,_,rfl,ty,rfl,_,rfl,iteT ⟨_,rfl,_,_,_,rfl,ty,rfl,_,rfl,q0⟩⟩
 | none=>exact⟨_,rfl,_,_,_,rfl,ty,rfl,_,rfl,iteF q0⟩
 | str x=>exact⟨_,rfl,_,_,_,rfl,ty,rfl,_,rfl,iteF q0⟩
 | tuple ds=>exact⟨_,rfl,_,_,_,rfl,ty,rfl,_,rfl,iteF q0⟩
 | list ds=>exact⟨_,rfl,_,_,_,rfl,ty,rfl,_,rfl,iteF q0⟩
 | dict ds=>exact⟨_,rfl,_,_,_,rfl,ty,rfl,_,rfl,iteF q0⟩
theorem uS (T:Bi mg)(D:DefOk K mg "is_wholes" s_is_wholes ["thing"])(O_is_whole:‹1› "is_whole" ["thing"] (spD1 K (λ _=>True) wholeB)):‹2› "is_wholes" ["thing"] (spD1 K few wholesB):=by
 exists 1,sc_is_wholes
 obtain⟨d,v,rfl,hd,hfew,q⟩:=h
 have q0:=q H (Same.refl H)
 have ty:=kO hd
 refine⟨_,(aE (aL (bZ (aQ (eP (n:="tuple")) rfl T.z_isinstance (by symm) (aA (pv 0) (aA (eR (v:=.ty "tuple") rfl T.z_tuple (by symm) rfl) aB))) (bX (aQ (dS rfl) rfl T.z_all (by symm) (aA (bK (N:=["thing"]) (sc0:=defScope s_is_wholes) (own:=["part"]) (fr:=[]) (js:=[]) rfl (bW (pv 0)) (λ _ _ _ _=>(aH (i:=0) (by show uai [("part":Str)];decide +kernel) rfl (m9 rfl))) (λ _ _ _ _=>bU) (λ _ _ _ _=>(aK O_is_whole hr rfl (aA (pv 0) aB)))) aB)))))),?_⟩
 cases d with
 | int i=>exact⟨_,rfl,_,_,_,rfl,ty,rfl,_,rfl,iteF q0⟩
 | bool b=>exact⟨_,rfl,_,_,_,rfl,ty,rfl,_,rfl,iteF q0⟩
 | none=>exact⟨_,rfl,_,_,_,rfl,ty,rfl,_,rfl,iteF q0⟩
 | str x=>exact⟨_,rfl,_,_,_,rfl,ty,rfl,_,rfl,iteF q0⟩
 | list ds=>exact⟨_,rfl,_,_,_,rfl,ty,rfl,_,rfl,iteF q0⟩
 | dict ds=>exact⟨_,rfl,_,_,_,rfl,ty,rfl,_,rfl,iteF q0⟩
 | tuple ds =>
  refine⟨_,rfl,_,_,_,rfl,ty,rfl,_,rfl,iteT ?_⟩
  obtain⟨p,vs,rfl,hp,hall⟩:=hd
  have hl:=hall.length
  have hf:ds.length<=1000:=hfew
  refine⟨_,rfl,p,rfl,⟨_,SqT.of hp⟩,?_⟩
  refine eN hp (λ σ'=>σ'.length=1) (λ i v _=>v=.bl (wholeB (ds.getD i .none))) (by left) (by rfl) (λ _ _ _ _ _ h=>h) (λ i x σ' H' hx s sg C hC=>?_) (λ L ys H' hL s hH hly hys=>?_)
  ·obtain⟨d,hdi,hdx⟩:=hall.get' hx
   match σ',sg with
   | [o],_ =>
    refine⟨_,rfl,d,x,rfl,Is.same s d hdx,trivial,λ H5 s5=>hC _ _ _ rfl s5 ?_⟩
    simp [ubn,hdi]
  ·refine⟨L,_,rfl,SqL.of (by rw[hH,dU (hly.trans hl) hys]),?_⟩
   have e:((d8 ds.length).map λ i=>wholeB (ds.getD i .none)).all id=ds.all wholeB:=by
    have:((d8 ds.length).map λ i=>wholeB (ds.getD i .none))=ds.map wholeB:=by
     have:=congrArg (List.map wholeB) (L3.cC ds .none)
     rw[uaj] at this
     exact this
    rw[this,ucd]
    rfl
   rw[e]
   exact q H' s
inductive spTupN_i  (vs:List V) (H:Hp) (Q:VK):Prop
 | mk:∀ (t:l7)(xs:List V)(m:Nat),(vs=[.ref t,.int (m:Int)])->(H t=some (.tup xs))->(Q (.bl (decide (xs.length=m))) H)->spTupN_i vs H Q
def spTupN :Sp:=λ vs H Q _=>spTupN_i vs H Q
theorem sL (T:Bi mg)(D:DefOk K mg "is_tuple_of" s_is_tuple_of ["thing","many"]):‹1› "is_tuple_of" ["thing","many"] spTupN:=by
 exists 0,sc_is_tuple_of
 obtain⟨t,xs,m,rfl,ht,q⟩:=h
 refine⟨_,(aE (aL (bZ (aQ (eP (n:="tuple")) rfl T.z_isinstance (by symm) (aA (pv 0) (aA (eR (v:=.ty "tuple") rfl T.z_tuple (by symm) rfl) aB))) (bX (bC bE (aQ bG rfl T.z_len (by symm) (aA (pv 0) aB)) (pv 1) (nomark _)))))),?_⟩
 refine⟨_,rfl,_,_,_,rfl,TyOf.tup ht,rfl,_,rfl,iteT ?_⟩
 refine⟨_,rfl,t,_,rfl,.inr (SqT.of ht),_,rfl,rfl,?_⟩
 have e:decide (V.int ((xs.length:Nat):Int)=V.int (m:Int))=decide (xs.length=m):=by
  by_cases z:xs.length=m
  ·rw[uha z,uha (by rw[z])]
  ·rw[uhc z,uhc λ y=>z (by injection y with y;left)]
 rw[e]
 exact q
theorem sE (T:Bi mg)(D:DefOk K mg "is_tie_number" s_is_tie_number ["web","thing"])(O_is_whole:‹1› "is_whole" ["thing"] (spD1 K (λ _=>True) wholeB)):‹2› "is_tie_number" ["web","thing"] (spNum K):=by
 exists 1,sc_is_tie_number
 obtain⟨n,ts,d,v,u,rfl,hw,hd,q⟩:=h
 refine⟨_,(aE (aL (bZ (aK O_is_whole hr rfl (aA (pv 1) aB)) (bX (nQ kQ cO aC (pv 1) (aQ bG rfl T.z_len (by symm) (aA (aJ aY (pv 0) aC (λ _ _=>rfl)) aB))))))),?_⟩
 refine⟨_,rfl,d,u,rfl,hd,trivial,λ H1 s1=>⟨_,rfl,?_⟩⟩
 have q0:=q H1 s1
 cases d with
 | int i =>
  have e:u=.int i:=hd
  subst e
  obtain⟨p,g,ws,rfl,hp,hg,hall,hl⟩:=cD (Is.same s1 _ hw)
  refine iteT ⟨_,rfl,_,_,rfl,rfl,_,rfl,ite2 (λ c=>⟨_,rfl,p,_,_,_,rfl,rfl,SqT.of hp,rfl,g,_,rfl,.inr (SqT.of hg),_,_,rfl,rfl,?_⟩) (λ c=>?_)⟩
  ·have e:numB ts.length (.int i)=decide (i<(ws.length:Int)):=by show (decide (0<=i)&&decide (i<(ts.length:Int)))=_;rw[show decide (0<=i)=true from c,hl];rfl
   rw[e] at q0;exact q0
  ·have e:numB ts.length (.int i)=false:=by show (decide (0<=i)&&decide (i<(ts.length:Int)))=_;rw[show decide (0<=i)=false from uep.mpr c];rfl
   rw[e] at q0;exact q0
 | bool b=>exact iteF q0
 | none=>exact iteF q0
 | str x=>exact iteF q0
 | tuple ds=>exact iteF q0
 | list ds=>exact iteF q0
 | dict ds=>exact iteF q0
theorem sB (T:Bi mg)(D:DefOk K mg "is_rising" s_is_rising ["parts"]):‹1› "is_rising" ["parts"] spRisI:=by
 exists 0,sc_is_rising
 obtain⟨p,ns,rfl,hp,hn,q⟩:=h
 refine⟨_,(aE (aL (aQ (dS rfl) rfl T.z_all (by symm) (aA (bK (N:=["parts"]) (sc0:=defScope s_is_rising) (own:=["low","high"]) (fr:=[]) (js:=[]) rfl (iJ true true rfl T.z_zip (aA (pv 0) (aA (cT dI (pv 0) (cU aC) cV) aB))) (λ _ _ _ _=>(dJ (n:=2) rfl (aP (aH (i:=0) (by show uai [("low":Str),("high":Str)];decide +kernel) rfl (m9 rfl)) (aP (aH (i:=1) (by show uai [("low":Str),("high":Str)];decide +kernel) rfl (m9 rfl)) bD)))) (λ _ _ _ _=>bU) (λ _ _ _ _=>(bC cO (pv 0) (pv 1) (nomark _)))) aB)))),?_⟩
 refine⟨_,rfl,_,rfl,_,rfl,p,_,rfl,hp,λ p2 H1 S1 hp2=>?_⟩
 refine⟨p,p2,rfl,⟨_,SqT.of (S1 _ _ hp)⟩,⟨_,SqT.of hp2⟩,?_⟩
 have e2':H1 p2=some (.tup ((ns.drop 1).map V.int)):=by rw[hp2,cut1,ufr]
 refine gR (t1:=true) (t2:=true) (xs:=ns.map V.int) (zs:=(ns.drop 1).map V.int) (S1 _ _ hp) e2' (λ σ'=>σ'.length=2) (λ i v _=>v=.bl (decide (ns.getD i 0<(ns.drop 1).getD i 0))) (by rw[c8];left) (by rfl) (λ _ _ _ _ _ h=>h) (λ i x z U σ' H' hx hz s hU sg C hC=>?_) (λ L zs H' hL s hH hly hys=>?_)
 ·match σ',sg with
  | [o1,o2],_ =>
   rw[i8] at hx hz
   obtain⟨a,ha,rfl⟩:=u7.mp hx
   obtain⟨b,hb,rfl⟩:=u7.mp hz
   refine⟨U,_,rfl,SqT.of aO,rfl,_,_,rfl,_,_,rfl,rfl,?_⟩
   refine⟨_,rfl,_,rfl,a,b,rfl,rfl,?_⟩
   refine hC _ _ _ rfl (aT hU) ?_
   have e1:ns.getD i 0=a:=by simp [ubn,ha]
   have e3:(ns.drop 1).getD i 0=b:=by simp only [ubn,hb];rfl
   rw[e1,e3]
 ·refine⟨L,_,rfl,SqL.of (by rw[hH,dU hly hys]),?_⟩
  have q':=q H' (S1.trans s)
  unfold risI at q'
  rw[c8,c8]
  exact q'
theorem wV (T:Bi mg)(D:DefOk K mg "is_keep" s_is_keep ["web","thing"])(O_is_tie_number:‹2› "is_tie_number" ["web","thing"] (spNum K))(O_is_rising:‹2› "is_rising" ["parts"] spRisI):‹3› "is_keep" ["web","thing"] (spIsKeep K):=by
 exists 2,sc_is_keep
 obtain⟨n,ts,d,v,u,rfl,hw,hd,hfew,q⟩:=h
 have q0:=q H (Same.refl H)
 have ty:=kO hd
 refine⟨_,(aE (aL (bZ (aQ (eP (n:="tuple")) rfl T.z_isinstance (by symm) (aA (pv 1) (aA (eR (v:=.ty "tuple") rfl T.z_tuple (by symm) rfl) aB))) (bZ (aQ (dS rfl) rfl T.z_all (by symm) (aA (bK (N:=["web","thing"]) (sc0:=defScope s_is_keep) (own:=["part"]) (fr:=["web"]) (js:=[0]) rfl (bW (pv 1)) (λ _ _ _ _=>(aH (i:=0) (by show uai [("part":Str),("web":Str)];decide +kernel) rfl (m9 rfl))) (λ _ _ _ _=>bU) (λ _ _ _ _=>(aK O_is_tie_number hr rfl (aA (pv 1) (aA (pv 0) aB))))) aB)) (bX (aK O_is_rising hr rfl (aA (pv 1) aB))))))),?_⟩
 cases d with
 | int i=>exact⟨_,rfl,_,_,_,rfl,ty,rfl,_,rfl,iteF q0⟩
 | bool b=>exact⟨_,rfl,_,_,_,rfl,ty,rfl,_,rfl,iteF q0⟩
 | none=>exact⟨_,rfl,_,_,_,rfl,ty,rfl,_,rfl,iteF q0⟩
 | str x=>exact⟨_,rfl,_,_,_,rfl,ty,rfl,_,rfl,iteF q0⟩
 | list ds=>exact⟨_,rfl,_,_,_,rfl,ty,rfl,_,rfl,iteF q0⟩
 | dict ds=>exact⟨_,rfl,_,_,_,rfl,ty,rfl,_,rfl,iteF q0⟩
 | tuple ds =>
  refine⟨_,rfl,_,_,_,rfl,ty,rfl,_,rfl,iteT ?_⟩
  obtain⟨p,vs,rfl,hp,hall⟩:=hd
  have hl:=hall.length
  have hf:ds.length<=1000:=hfew
  refine⟨_,rfl,p,rfl,⟨_,SqT.of hp⟩,?_⟩
  refine eN hp (λ σ'=>∃ o,σ'=[o,some v]) (λ i v _=>v=.bl (numB ts.length (ds.getD i .none))) (by left) (by exact⟨none,rfl⟩) (λ _ _ _ _ _ h=>h) (λ i x σ' H' hx s sg C hC=>?_) (λ L ys H' hL s hH hly hys=>?_)
  ·obtain⟨d,hdi,hdx⟩:=hall.get' hx
   obtain⟨o,rfl⟩:=sg
   refine⟨_,rfl,_,rfl,n,ts,d,v,x,rfl,Is.same s _ hw,Is.same s d hdx,λ H5 s5=>hC _ _ _ ⟨_,rfl⟩ s5 ?_⟩
   simp [ubn,hdi]
  ·have e:((d8 ds.length).map λ i=>numB ts.length (ds.getD i .none)).all id=ds.all (numB ts.length):=by
    have z:=congrArg (List.map (numB ts.length)) (L3.cC ds .none)
    rw[uaj] at z
    have z':((d8 ds.length).map λ i=>numB ts.length (ds.getD i .none))=ds.map (numB ts.length):=z
    rw[z',ucd]
    rfl
   refine⟨L,_,rfl,SqL.of (by rw[hH,dU (hly.trans hl) hys]),_,rfl,?_⟩
   rw[e]
   have q1:=q H' s
   cases c:ds.all (numB ts.length) with
   | false =>
    refine iteF ?_
    have e1:keepB ts.length (.tuple ds)=false:=by show (ds.all (numB ts.length)&&_)=false;rw[c];rfl
    rw[e1] at q1;exact q1
   | true =>
    refine iteT ?_
    have ei:ds=(ds.map intOf).map .int:=iB λ d hd=>by
     obtain⟨i,e,_⟩:=zcl (uas.mp c d hd)
     exact⟨i,e⟩
    have ev:vs=(ds.map intOf).map V.int:=by
     rw[ei] at hall
     exact IsAll.of_ints hall
    refine⟨_,rfl,p,ds.map intOf,rfl,by rw[← ev];exact s _ _ hp,by rw[c8];exact hf,λ H2 s2=>?_⟩
    have q2:=q H2 (s.trans s2)
    have e1:keepB ts.length (.tuple ds)=risI (ds.map intOf):=by show (ds.all (numB ts.length)&&_)=_;rw[c];rfl
    rw[e1] at q2;exact q2
inductive spPlace_i (K:b8)(vs:List V)(H:Hp)(Q:VK):Prop
 | mk:∀ (n:Int)(ts:List Tie)(wv:V)(i:Int),(vs=[wv,.int i])->(Is K H (webD n ts) wv)->(∀ H',Same H H'->Q (.bl (decide (0<=i)&&decide (i<n))) H')->spPlace_i K vs H Q
def spPlace (K:b8):Sp:=λ vs H Q _=>spPlace_i K vs H Q
def placesB (n:Int)(ns:List Int):Bool:=ns.all λ i=>decide (0<=i)&&decide (i<n)
inductive spUnlike_i (K:b8)(vs:List V)(H:Hp)(Q:VK):Prop
 | mk:∀ (n:Int)(ts:List Tie)(wv:V)(p:l7)(ns:List Int),(vs=[wv,.ref p])->(Is K H (webD n ts) wv)->(IntT H p ns)->(∀ H',Same H H'->Q (.bl (placesB n ns&&decide ns.Nodup)) H')->spUnlike_i K vs H Q
def spUnlike (K:b8):Sp:=λ vs H Q _=>spUnlike_i K vs H Q
theorem vW (T:Bi mg)(D:DefOk K mg "is_place" s_is_place ["web","thing"])(O_is_whole:‹1› "is_whole" ["thing"] (spD1 K (λ _=>True) wholeB)):‹2› "is_place" ["web","thing"] (spPlace K):=by
 exists 1,sc_is_place
 obtain⟨n,ts,wv,i,rfl,isw,q⟩:=h
 obtain⟨g0,g,ws,rfl,hg0,_⟩:=cD isw
 refine⟨_,(aE (aL (bZ (aK O_is_whole hr rfl (aA (pv 1) aB)) (bX (nQ kQ cO aC (pv 1) (aJ aY (pv 0) aC (λ _ _=>rfl))))))),?_⟩
 refine⟨_,rfl,.int i,.int i,rfl,rfl,trivial,λ H1 s1=>⟨_,rfl,iteT ?_⟩⟩
 have q0:=q H1 s1
 refine⟨_,rfl,_,_,rfl,rfl,_,rfl,ite2 (λ c=>?_) (λ c=>?_)⟩
 ·rw[show decide (0<=i)=true from c,ud3] at q0
  exact⟨_,rfl,g0,_,_,_,rfl,rfl,SqT.of (s1 _ _ hg0),rfl,_,_,rfl,rfl,q0⟩
 ·rw[show decide (0<=i)=false from uep.mpr c,ug1] at q0
  exact q0
theorem rV (T:Bi mg)(D:DefOk K mg "are_unlike_places" s_are_unlike_places ["web","thing"])(O_is_place:‹2› "is_place" ["web","thing"] (spPlace K)):‹3› "are_unlike_places" ["web","thing"] (spUnlike K):=by
 exists 2,sc_are_unlike_places
 obtain⟨n,ts,wv,p,ns,rfl,isw,it,q⟩:=h
 have lm:(ns.map V.int).length=ns.length:=c8 _
 have l1000:=it.2
 refine⟨_,(aG (aX (PW.pt (cN (cP (cI (aQ (eP (n:="tuple")) rfl T.z_isinstance (by symm) (aA (pv 1) (aA (eR (v:=.ty "tuple") rfl T.z_tuple (by symm) rfl) aB))))) (cX (cP (cI (aQ (dS rfl) rfl T.z_all (by symm) (aA (bK (N:=["web","thing"]) (sc0:=defScope s_are_unlike_places) (own:=["part"]) (fr:=["web"]) (js:=[0]) rfl (bW (pv 1)) (λ _ _ _ _=>(aH (i:=0) (by show uai [("part":Str),("web":Str)];decide +kernel) rfl (m9 rfl))) (λ _ _ _ _=>bU) (λ _ _ _ _=>(aK O_is_place hr rfl (aA (pv 1) (aA (pv 0) aB))))) aB))))))) (aE (aL bP)) aV) (aE (aL (bC bE (aQ zK rfl T.z_len (by symm) (aA (bJ (zJ rfl) rfl T.z_set (by symm) (aA (pv 1) aB)) aB)) (aQ bG rfl T.z_len (by symm) (aA (pv 1) aB)) (nomark _))))),?_⟩
 refine⟨_,rfl,_,_,_,rfl,TyOf.tup it.1,rfl,_,rfl,iteF ?_⟩
 refine⟨_,rfl,p,rfl,⟨_,SqT.of it.1⟩,?_⟩
 refine eN it.1 (λ σ'=>∃ o,σ'=[o,some wv]) (λ i v _=>v=.bl ((λ i=>decide (0<=ns.getD i 0)&&decide (ns.getD i 0<n)) i)) (by left) (by exact⟨none,rfl⟩) (λ _ _ _ _ _ h=>h) (λ i x σ' H' hx s2 sg C hC=>?_) (λ L ys H2 hL s2 hH hly hys=>?_)
 ·obtain⟨o,rfl⟩:=sg
  rw[i8] at hx
  obtain⟨j,hj,rfl⟩:=u7.mp hx
  have ej:ns.getD i 0=j:=by rw[a8,hj];rfl
  refine⟨_,rfl,_,rfl,n,ts,wv,j,rfl,Is.same s2 _ isw,λ H5 s5=>hC _ _ _ ⟨_,rfl⟩ s5 ?_⟩
  show V.bl (decide (0<=j)&&decide (j<n))=V.bl (decide (0<=ns.getD i 0)&&decide (ns.getD i 0<n))
  rw[ej]
 ·refine⟨L,_,rfl,SqL.of (by rw[hH,dU (hly.trans lm) hys]),_,rfl,?_⟩
  have eall:((d8 ns.length).map λ i=>decide (0<=ns.getD i 0)&&decide (ns.getD i 0<n)).all id=placesB n ns:=by
   have z:=congrArg (List.map λ j:Int=>decide (0<=j)&&decide (j<n)) (L3.cC ns 0)
   rw[uaj] at z
   have z':((d8 ns.length).map λ i=>decide (0<=ns.getD i 0)&&decide (ns.getD i 0<n))=ns.map λ j=>decide (0<=j)&&decide (j<n):=z
   rw[z',ucd];rfl
  have q1:∀ {J:Hp},Same H2 J->Q (.bl (placesB n ns&&decide ns.Nodup)) J:=λ S=>q _ (s2.trans S)
  refine iteB2 (λ c=>?_) (λ c=>?_)
  ·rw[eall] at c
   refine⟨_,rfl,p,ns,rfl,s2 _ _ it.1,l1000,λ u J S f e=>?_⟩
   refine⟨u,_,_,rfl,e,_,rfl,p,_,rfl,.inr (SqT.of (S _ _ (s2 _ _ it.1))),rfl,?_⟩
   have q2:=q1 S
   rw[c,ud3] at q2
   have ed:decide (V.int ((HT.setN ns ns.length:Nat):Int)=V.int (((ns.map V.int).length:Nat):Int))=decide ns.Nodup:=by
    rw[lm]
    by_cases z:ns.Nodup
    ·rw[uha z,(lM ns).mpr z,uha rfl]
    ·rw[uhc z]
     exact uhc λ y=>z ((lM ns).mp (by injection y with y;left))
   rw[ed];exact q2
  ·rw[eall] at c
   have q2:=q1 (Same.refl _)
   rw[c,ug1] at q2
   exact q2
theorem tD (T:Bi mg)(D:DefOk K mg "tie_weights" s_tie_weights ["web"]):‹1› "tie_weights" ["web"] (spWeights K):=by
 exists 0,sc_tie_weights
 obtain⟨n,ts,v,rfl,hw,few60,q⟩:=h
 obtain⟨g0,g,ws,rfl,hg0,hg,hall,hlw⟩:=cD hw
 refine⟨_,(aG (aR (i:=1) nd rfl (m9 rfl) (bV aB)) (aG (aR (i:=2) nd rfl (m9 rfl) aC) (aG (bL PassesOwn.never rfl (bW (aJ aY (pv 0) aC (λ _ _=>rfl))) (aH (i:=3) nd rfl (m9 rfl)) (aG (dW (dP ubb ucg ucf iW (pv 1) (aA (pv 2) aB))) (aE (aR (i:=2) nd rfl (m9 rfl) (aM eC aC (pv 2)))))) (aE (aL (pv 1)))))),?_⟩
 refine⟨(by show 0<=1000;decide),λ l J0 S0 f0 e0=>?_⟩
 refine⟨_,rfl,g0,_,_,_,rfl,rfl,SqT.of (S0 _ _ hg0),rfl,g,rfl,⟨_,SqT.of (S0 _ _ hg)⟩,?_⟩
 refine fU (xs:=ws) (λ i σ J=>∃ y3:Option V,σ=[some (.ref g0),some (.ref l),some (.int (2^i)),y3]/\Same H J/\J l=some (.lst (pows i))) ⟨none,rfl,S0,e0⟩ (λ i σ J _ h=>by obtain⟨_,_,s,_⟩:=h;exact SqT.of (s _ _ hg)) (λ i x σ J hx h=>?_) (λ σ J h=>?_)
 ·obtain⟨y3,rfl,s1,e1⟩:=h
  have hi:i<ws.length:=(j7.mp hx).1
  refine⟨_,rfl,.inl ⟨rfl,_,SqL.of e1⟩,_,rfl,l,_,_,rfl,rfl,e1,(by unfold pows;rw[c8,v4];left),λ J1 b1 e2=>?_⟩
  refine⟨_,rfl,_,_,rfl,rfl,.inl ⟨by decide,by decide⟩,?_⟩
  refine⟨some x,?_,λ b o e=>b1 _ _ (bB e f0) (s1 _ _ e),by rw[e2,yF]⟩
  have ep:(2:Int)*2^i=2^(i+1):=by rw[Int.pow_succ,Int.mul_comm]
  show [some (V.ref g0),some (V.ref l),some (V.int (2*2^i)),some x]=_
  rw[ep]
 ·obtain⟨y3,rfl,s1,e1⟩:=h
  exact⟨_,rfl,q l J s1 f0 (by rw[e1,hlw])⟩
theorem uU (T:Bi mg)(D:DefOk K mg "cost_with" s_cost_with ["cost","length","weight"]):‹1› "cost_with" ["cost","length","weight"] (spCost K):=by
 exists 0,sc_cost_with
 obtain⟨c,x,y,l,ww,rfl,hc,q⟩:=h
 refine⟨_,(aE (aL (bY (aA (aM cB (aJ aY (pv 0) aC (λ _ _=>rfl)) (pv 1)) (aA (aM cB (aJ aY (pv 0) aC (λ _ _=>rfl)) (pv 2)) aB))))),?_⟩
 exact⟨_,rfl,c,_,_,_,rfl,rfl,SqT.of hc,rfl,_,rfl,_,_,rfl,rfl,_,rfl,c,_,_,_,rfl,rfl,SqT.of hc,rfl,_,rfl,_,_,rfl,rfl,(by show 2<=1000;decide),λ t J S f e=>q t J S e⟩
def rWB (H:Hp)(wv kv:V)(n r:Int)(ts:List Tie)(ks:List Nat)(lw lc la:l7)(m:Nat)(σ:L2.St)(J:Hp):Prop:=∃ (cs:List (Option (Int × Int)))(as:List (Option Nat))(ag:Bool)(y7 y8 y9 y10 y11 y12 y13:Option V),σ=[some wv,some kv,some (.int r),some (.ref lw),some (.ref lc),some (.ref la),some (.bl ag),y7,y8,y9,y10,y11,y12,y13] /\
 RA H J lw lc la (pows ts.length) cs as/\Far.Good (arcs ts ks) n.toNat r.toNat cs/\Far.Run (arcsB ts ks) r.toNat cs as/\(ag=false->Far.Stab2 (arcsB ts ks) cs)/\m=Far.mu cs+(if ag=true then 1 else 0)
theorem sD (T:Bi mg)(D:DefOk K mg "reached_from" s_reached_from ["web","keep","root"])(O_tie_weights:‹1› "tie_weights" ["web"] (spWeights K))(O_cost_with:‹1› "cost_with" ["cost","length","weight"] (spCost K)):‹2› "reached_from" ["web","keep","root"] (spReachedC K):=by
 exists 1,sc_reached_from
 obtain⟨n,ts,ks,wv,kv,r,rfl,⟨isw,ok,isk,ko⟩,r0,r1,q⟩:=h
 have few60:=ok.few
 have n1:=ok.n1
 have n24:=ok.n24
 obtain⟨g0,g,ws,rfl,hg0,hg,hall,hlw⟩:=cD isw
 obtain⟨kp,rfl,hkp⟩:=gJ isk
 have P:=fQ ok ko
 refine⟨_,(aG (aR (i:=3) nd rfl (m9 rfl) (aK O_tie_weights hr rfl (aA (pv 0) aB))) (aG (aR (i:=4) nd rfl (m9 rfl) (aM jY (bV (aA bO aB)) (aJ aY (pv 0) aC (λ _ _=>rfl)))) (aG (aR (i:=5) nd rfl (m9 rfl) (aM jY (bV (aA bO aB)) (aJ aY (pv 0) aC (λ _ _=>rfl)))) (aG (bS (bY (aA aC (aA aC aB))) (dY (pv 4) (pv 2) dR)) (aG (aR (i:=6) nd rfl (m9 rfl) bP) (aG (nN PassesOwn.never (cI (pv 6)) (aG (aR (i:=6) nd rfl (m9 rfl) bP) (aE (bL PassesOwn.never rfl (bW (pv 1)) (aH (i:=7) nd rfl (m9 rfl)) (aG (bS (aJ aY (aJ aY (pv 0) aC (λ _ _=>rfl)) (pv 7) (λ _ _=>rfl)) (bT (n:=3) rfl (aP (aH (i:=8) nd rfl (m9 rfl)) (aP (aH (i:=9) nd rfl (m9 rfl)) (aP (aH (i:=10) nd rfl (m9 rfl)) bD))))) (aE (bL PassesOwn.never rfl (bW (bY (aA (bY (aA (pv 8) (aA (pv 9) aB))) (aA (bY (aA (pv 9) (aA (pv 8) aB))) aB)))) (bT (n:=2) rfl (aP (aH (i:=11) nd rfl (m9 rfl)) (aP (aH (i:=12) nd rfl (m9 rfl)) bD))) (aG (aX (aS cY (aJ aZ (pv 4) (pv 11) (λ _ _=>rfl)) bO (nomark _)) (aE vS) aV) (aG (aR (i:=13) nd rfl (m9 rfl) (aK O_cost_with hr rfl (aA (aJ aZ (pv 4) (pv 11) (λ _ _=>rfl)) (aA (pv 10) (aA (aJ aZ (pv 3) (pv 7) (λ _ _=>rfl)) aB))))) (aE (aX (PW.pt (cN (aS cY (aJ aZ (pv 4) (pv 12) (λ _ _=>rfl)) bO (nomark _)) (cX (aS (zdq hr.units0) (pv 13) (aJ aZ (pv 4) (pv 12) (λ _ _=>rfl)) (nomark _))))) (aG (bS (pv 13) (dY (pv 4) (pv 12) dR)) (aG (bS (pv 11) (dY (pv 5) (pv 12) dR)) (aE (aR (i:=6) nd rfl (m9 rfl) bP)))) aV))))))))))) (aE (aL (bY (aA (pv 4) (aA (pv 5) aB))))))))))),?_⟩
 refine⟨_,rfl,n,ts,_,rfl,isw,few60,λ lw J1 S1 f1 e1=>?_⟩
 refine⟨(by show 1<=1000;decide),λ t0 J2 S2 f2 e2=>⟨_,rfl,g0,_,_,_,rfl,rfl,SqT.of (S2 _ _ (S1 _ _ hg0)),rfl,t0,n,_,rfl,rfl,e2,by left,by left,λ lc J3 S3 f3 e3=>?_⟩⟩
 have S13:=S1.trans (S2.trans S3)
 refine⟨(by show 1<=1000;decide),λ t1 J4 S4 f4 e4=>⟨_,rfl,g0,_,_,_,rfl,rfl,SqT.of (S4 _ _ (S13 _ _ hg0)),rfl,t1,n,_,rfl,rfl,e4,by left,by left,λ la J5 S5 f5 e5=>?_⟩⟩
 refine⟨(by show 2<=1000;decide),λ t2 J6 S6 f6 e6=>?_⟩
 have S36:=S4.trans (S5.trans S6)
 have elc:=S36 _ _ e3
 refine⟨_,rfl,_,rfl,lc,_,r,r.toNat,rfl,rfl,elc,dL r0 (by rw[uaa];left),?_⟩
 have Sall:Same H J6:=S13.trans S36
 have fc:H lc=none:=(S1.trans S2).free f3
 have fa:H la=none:=(S13.trans S4).free f5
 have nwc:lw≠lc:=λ z=>by rw[← z,S2 _ _ e1] at f3;cases f3
 have nwa:lw≠la:=λ z=>by rw[← z,S4 _ _ (S3 _ _ (S2 _ _ e1))] at f5;cases f5
 have nca:lc≠la:=λ z=>by rw[← z,S4 _ _ e3] at f5;cases f5
 have R0:RA H J6 lw lc la (pows ts.length) (l8 n.toNat none) (l8 n.toNat none):=⟨Sall,fc,fa,nwc,nwa,nca,S36 _ _ (S3 _ _ (S2 _ _ e1)),⟨_,elc,CostL.first _⟩,by rw[S6 _ _ e5,List.map_replicate];rfl⟩
 have R1:=R0.put (k:=r.toNat) elc (by rw[uaa];left) e6
  -- the passes
 refine⟨rWB H (.ref g0) (.ref kp) n r ts ks lw lc la,⟨_,_,_,true,none,none,none,none,none,none,none,rfl,R1,Far.Good.first (by left),Far.Run.first (by left),λ z=>(by cases z),rfl⟩,?_⟩
 rintro m σ J ⟨c0,as0,ag,y7,y8,y9,y10,y11,y12,y13,rfl,R,G,AH,St,rfl⟩
 refine⟨_,rfl,ag,rfl,?_⟩
 cases ag with
 | false =>
  refine iteF ?_
  obtain⟨cvs,hc,cl⟩:=R.co
  exact⟨_,rfl,_,rfl,(by show 2<=1000;decide),λ p J' S' f' e'=>q p lc la cvs as0 c0 J' (R.same.trans S') e' (S' _ _ hc) (S' _ _ R.ah) (cl.keep (oX S')) (AH.best P G (St rfl)) G (zb0 (St rfl))⟩
 | true =>
  refine iteT ⟨λ σ' J'=>∃ m',m'<Far.mu c0+1/\rWB H (.ref g0) (.ref kp) n r ts ks lw lc la m' σ' J',λ _ _ h=>h,?_⟩
  refine⟨_,rfl,kp,rfl,⟨_,SqT.of (R.same _ _ hkp)⟩,?_⟩
  refine fU (xs:=(keepI ks).map V.int) (λ i σ J=>∃ (cs:List (Option (Int × Int)))(as:List (Option Nat))(ag:Bool)(y7 y8 y9 y10 y11 y12 y13:Option V),σ=[some (.ref g0),some (.ref kp),some (.int r),some (.ref lw),some (.ref lc),some (.ref la),some (.bl ag),y7,y8,y9,y10,y11,y12,y13] /\
   RA H J lw lc la (pows ts.length) cs as/\Far.Good (arcs ts ks) n.toNat r.toNat cs/\Far.Run (arcsB ts ks) r.toNat cs as/\Far.PS2 c0 (λ z=>z∈arcsB ts (ks.take i)) cs ag) ⟨c0,as0,false,_,_,_,_,_,_,_,rfl,R,G,AH,.inl ⟨rfl,rfl,λ u v l k c z=>by cases z⟩⟩ (λ i σ J _ h=>?_) (λ i x σ J hx h=>?_) (λ σ J h=>?_)
  ·obtain⟨cs,as,ag,y7,y8,y9,y10,y11,y12,y13,rfl,R,_⟩:=h
   exact SqT.of (R.same _ _ hkp)
  ·obtain⟨cs,as,ag,y7,y8,y9,y10,y11,y12,y13,rfl,R,G,AH,Pt⟩:=h
   obtain⟨k,hk,rfl⟩:=iA hx
   have hkl:k<ts.length:=ko.2 k (p6 hk)
   obtain⟨ta,hta,htie⟩:=dF hall hkl
   obtain⟨t,et⟩:∃ t,t=tieAt ts k:=⟨_,rfl⟩
   rw[← et] at htie
   have tk:=ok.tie _ (bF hkl).2
   rw[← et] at tk
   refine⟨_,rfl,g0,_,_,_,rfl,rfl,SqT.of (R.same _ _ hg0),rfl,_,rfl,g,_,_,_,rfl,rfl,SqT.of (R.same _ _ hg),bQ (uat _) hta,ta,_,rfl,SqT.of (R.same _ _ htie),rfl,_,_,rfl,_,_,rfl,_,_,rfl,rfl,?_⟩
   refine⟨_,rfl,_,rfl,(by show 2<=1000;decide),λ t1 K1 T1 u1 v1=>⟨_,rfl,_,rfl,(by show 2<=1000;decide),λ t2 K2 T2 u2 v2=>⟨(by show 2<=1000;decide),λ t3 K3 T3 u3 v3=>⟨t3,rfl,⟨_,SqT.of v3⟩,?_⟩⟩⟩⟩
   have R3:=R.step (T1.trans (T2.trans T3))
   have v1':=T3 _ _ (T2 _ _ v1)
   have v2':=T3 _ _ v2
   refine fU (xs:=[V.ref t1,.ref t2]) (λ j σ J=>∃ (cs:List (Option (Int × Int)))(as:List (Option Nat))(ag:Bool)(y11 y12 y13:Option V),σ=[some (.ref g0),some (.ref kp),some (.int r),some (.ref lw),some (.ref lc),some (.ref la),some (.bl ag),some (.int (k:Int)),some (.int t.1),some (.int t.2.1),some (.int t.2.2),y11,y12,y13] /\
    RA H J lw lc la (pows ts.length) cs as/\Far.Good (arcs ts ks) n.toNat r.toNat cs/\Far.Run (arcsB ts ks) r.toNat cs as/\Far.PS2 c0 (λ z=>z∈arcsB ts (ks.take i)\/z∈(arcs2B t k).take j) cs ag/\TupKeep K3 J) ⟨cs,as,ag,_,_,_,rfl,R3,G,AH,Pt.less λ a z=>z.elim id λ z=>(by cases z),λ _ _ e=>e⟩ (λ j σ J _ h=>?_) (λ j x σ J hx h=>?_) (λ σ J h=>?_)
   ·obtain⟨cs,as,ag,y11,y12,y13,rfl,R,G,AH,Pt,tk⟩:=h
    exact SqT.of (tk _ _ v3)
   ·obtain⟨cs,as,ag,y11,y12,y13,rfl,R,G,AH,Pt,tkp⟩:=h
    obtain⟨p,u,v,rfl,hp,u0,un,v0,vn,arc,arcB,more⟩:∃ p u v,x=.ref p/\J p=some (.tup [.int u,.int v])/\0<=u/\u<n/\0<=v/\v<n/\(u.toNat,v.toNat,t.2.2)∈arcs ts ks/\(u.toNat,v.toNat,t.2.2,k)∈arcsB ts ks/\∀ z,z∈(arcs2B t k).take (j+1)->z∈(arcs2B t k).take j\/z=(u.toNat,v.toNat,t.2.2,k):=by
     have memB:∀ z,z∈arcs2B t k->z∈arcsB ts ks:=λ z hz=>arcsB_mem.mpr ⟨k,p6 hk,by rw[← et];exact hz⟩
     have mem:∀ z,z∈arcs2 t->z∈arcs ts ks:=λ z hz=>arcs_mem.mpr ⟨k,p6 hk,by rw[← et];exact hz⟩
     match j,hx with
     | 0,hx=>cases hx;exact⟨t1,t.1,t.2.1,rfl,tkp _ _ v1',by left,by left,by left,by left,mem _ (arcs2_mem.mpr (.inl rfl)),memB _ (arcs2B_mem.mpr (.inl rfl)),λ z hz=>by unfold arcs2B at *;simpa using hz⟩
     | 1,hx=>cases hx;exact⟨t2,t.2.1,t.1,rfl,tkp _ _ v2',by left,by left,by left,by left,mem _ (arcs2_mem.mpr (.inr rfl)),memB _ (arcs2B_mem.mpr (.inr rfl)),λ z hz=>by unfold arcs2B at *;simpa using hz⟩
    refine⟨p,_,rfl,SqT.of hp,rfl,_,_,rfl,_,_,rfl,rfl,?_⟩
    obtain⟨cvs,hc,cl⟩:=R.co
    have lenC:cvs.length=n.toNat:=by rw[cl.1];exact G.len
    obtain⟨x1,at1,cv1⟩:=qC cl u0 (by rw[G.len];left)
    obtain⟨x2,at2,cv2⟩:=qC cl v0 (by rw[G.len];left)
    have next:∀ {cs':List (Option (Int × Int))}{ag':Bool},Far.PS2 c0 (Far.plusA (λ z=>z∈arcsB ts (ks.take i)\/z∈(arcs2B t k).take j) (u.toNat,v.toNat,t.2.2,k)) cs' ag'->Far.PS2 c0 (λ z=>z∈arcsB ts (ks.take i)\/z∈(arcs2B t k).take (j+1)) cs' ag':=λ h=>h.less λ z hz=>by
     rcases hz with hz | hz
     ·exact .inl (.inl hz)
     ·exact (more z hz).elim (λ y=>.inl (.inr y)) .inr
    refine⟨_,rfl,_,rfl,lc,_,_,_,rfl,rfl,SqL.of hc,at1,rfl,_,rfl,ite2 (λ c1=>?_) (λ c1=>?_)⟩
    ·-- not reached
     have gu:Far.get cs u.toNat=none:=by
      cases e:Far.get cs u.toNat with
      | none=>rfl
      | some d =>
       rw[e] at cv1
       obtain⟨tt,rfl,_⟩:=cv1
       cases uhb c1
     exact⟨cs,as,ag,_,_,_,rfl,R,G,AH,next (Pt.no gu),tkp⟩
    ·obtain⟨d,gu⟩:∃ d,Far.get cs u.toNat=some d:=by
      cases e:Far.get cs u.toNat with
      | none=>rw[e] at cv1;exact absurd (uha (show x1=V.non from cv1)) c1
      | some d=>exact⟨d,rfl⟩
     rw[gu] at cv1
     obtain⟨td,rfl,htd⟩:=cv1
     have pw:=zdk (i:=k) (by left)
     refine⟨_,rfl,_,rfl,lc,_,_,_,rfl,rfl,SqL.of hc,at1,_,rfl,_,rfl,_,rfl,lw,_,_,_,rfl,rfl,SqL.of R.wl,bQ (uat _) (zcd hkl),td,_,_,_,_,rfl,htd,λ tn L1 Z1 en=>?_⟩
     have R':=R.step Z1
     have hc':=Z1 _ _ hc
     have tkp':TupKeep K3 L1:=λ a xs e=>Z1 _ _ (tkp a xs e)
     have done : ∀ (hlt : Far.get cs v.toNat = none \/ ∃ c', Far.get cs v.toNat = some c' /\ Far.lt2 (d.1+t.2.2, d.2+2^k) c') , ∀ L, L = upd (upd L1 lc (.lst (cvs.set v.toNat (.ref tn)))) la (.lst ((as.map oa).set v.toNat (.int u))) →
         RA H L lw lc la (pows ts.length) (cs.set v.toNat (some (d.1+t.2.2,d.2+2^k))) (as.set v.toNat (some u.toNat))/\Far.Good (arcs ts ks) n.toNat r.toNat (cs.set v.toNat (some (d.1+t.2.2,d.2+2^k)))/\Far.Run (arcsB ts ks) r.toNat (cs.set v.toNat (some (d.1+t.2.2,d.2+2^k))) (as.set v.toNat (some u.toNat))/\Far.PS2 c0 (λ z=>z∈arcsB ts (ks.take i)\/z∈(arcs2B t k).take (j+1)) (cs.set v.toNat (some (d.1+t.2.2,d.2+2^k))) true/\TupKeep K3 L:=λ hlt L eL=>by
      subst eL
      obtain⟨G',mm⟩:=G.step P (by left) arc (by left) pw.1 pw.2 (by left) gu hlt
      have Rp:=R'.put hc' (k:=v.toNat) (by left) en
      have Rm:=Rp.mark (k:=v.toNat) (u:=u.toNat)
      rw[uaf u0] at Rm
      exact⟨Rm,G',Far.Run.step P G AH arc arcB (by left) gu hlt,next (Pt.put mm),λ a xs e=>fW Rp.ah _ _ (fW hc' _ _ (tkp' a xs e))⟩
     have ha:=R'.ah
     have hal:(as.map oa).length=n.toNat:=by rw[c8,AH.len];exact G.len
     refine⟨_,rfl,_,rfl,lc,_,_,_,rfl,rfl,SqL.of hc',at2,rfl,_,rfl,ite2 (λ c2=>iteT ?_) (λ c2=>?_)⟩
     ·have gv:Far.get cs v.toNat=none:=by
       cases e:Far.get cs v.toNat with
       | none=>rfl
       | some d =>
        rw[e] at cv2
        obtain⟨tt,rfl,_⟩:=cv2
        cases uhb c2
      obtain⟨R2,G2,A2,P2,k2⟩:=done (.inl gv) _ rfl
      exact⟨_,rfl,_,rfl,_,rfl,lc,_,_,_,rfl,rfl,hc',dL v0 (by left),_,rfl,_,rfl,_,rfl,la,_,_,_,rfl,rfl,(by rw[aN R.nca.symm];exact ha),dL v0 (by left),_,_,true,_,_,_,rfl,R2,G2,A2,P2,k2⟩
     ·obtain⟨d2,gv⟩:∃ d,Far.get cs v.toNat=some d:=by
       cases e:Far.get cs v.toNat with
       | none=>rw[e] at cv2;exact absurd (uha (show x2=V.non from cv2)) c2
       | some d=>exact⟨d,rfl⟩
      rw[gv] at cv2
      obtain⟨te,rfl,hte⟩:=cv2
      refine⟨_,rfl,_,rfl,_,rfl,lc,_,_,_,rfl,rfl,SqL.of hc',at2,tn,te,L3.e2 (d.1+t.2.2,d.2+2^k),L3.e2 d2,rfl,rfl,SqT.of en,SqT.of (Z1 _ _ hte),_,rfl,ite2 (λ c3=>?_) (λ c3=>?_)⟩
      ·have hl:=(nT _ _).mp c3
       obtain⟨R2,G2,A2,P2,k2⟩:=done (.inr ⟨d2,gv,hl⟩) _ rfl
       exact⟨_,rfl,_,rfl,_,rfl,lc,_,_,_,rfl,rfl,hc',dL v0 (by left),_,rfl,_,rfl,_,rfl,la,_,_,_,rfl,rfl,(by rw[aN R.nca.symm];exact ha),dL v0 (by left),_,_,true,_,_,_,rfl,R2,G2,A2,P2,k2⟩
      ·have hn:¬ Far.lt2 (d.1+t.2.2,d.2+2^k) d2:=λ z=>c3 ((nT _ _).mpr z)
       exact⟨cs,as,ag,_,_,_,rfl,R',G,AH,next (Pt.old gu gv hn),tkp'⟩
   ·obtain⟨cs,as,ag,y11,y12,y13,rfl,R,G,AH,Pt,tkp⟩:=h
    refine⟨cs,as,ag,_,_,_,_,_,_,_,rfl,R,G,AH,Pt.less λ z hz=>?_⟩
    exact (xO hk hz).elim .inl λ y=>.inr (by rw[← et] at y;exact y)
  ·obtain⟨cs,as,ag,y7,y8,y9,y10,y11,y12,y13,rfl,R2,G2,A2,Pt⟩:=h
   have lk:((keepI ks).map V.int).length=ks.length:=by unfold keepI;rw[c8,c8]
   rw[lk,udz] at Pt
   rcases Pt with ⟨ea,ec,st⟩ | ⟨ea,lt⟩
   ·subst ea
    rw[← ec] at st
    exact⟨Far.mu cs+0,by rw[ec];left,cs,as,false,_,_,_,_,_,_,_,rfl,R2,G2,A2,λ _=>st,rfl⟩
   ·subst ea
    exact⟨Far.mu cs+1,by left,cs,as,true,_,_,_,_,_,_,_,rfl,R2,G2,A2,λ z=>(by cases z),rfl⟩
theorem uT (T:Bi mg)(D:DefOk K mg "fars_from" s_fars_from ["web","keep","root"])(O_reached_from:‹2› "reached_from" ["web","keep","root"] (spReached K)):‹3› "fars_from" ["web","keep","root"] (spFars K):=by
 exists 2,sc_fars_from
 obtain⟨n,ts,ks,wv,kv,r,rfl,wk,r0,r1,q⟩:=h
 have n24:=wk.2.1.n24
 refine⟨_,(aG (bS (aK O_reached_from hr rfl (aA (pv 0) (aA (pv 1) (aA (pv 2) aB)))) (bT (n:=2) rfl (aP (aH (i:=3) nd rfl (m9 rfl)) (aP (aH (i:=4) nd rfl (m9 rfl)) bD)))) (aE (aL (bK (N:=["web","keep","root","costs","ahead"]) (sc0:=defScope s_fars_from) (own:=["cost"]) (fr:=[]) (js:=[]) rfl (fT (pv 3)) (λ _ _ _ _=>(aH (i:=0) (by show uai [("cost":Str)];decide +kernel) rfl (m9 rfl))) (λ _ _ _ _=>bU) (λ _ _ _ _=>(nP (aS cY (pv 0) bO (nomark _)) bO (aJ cW (pv 0) aC (λ _ _=>rfl)))))))),?_⟩
 refine⟨_,rfl,_,rfl,_,rfl,n,ts,ks,wv,kv,r,rfl,wk,r0,r1,λ p lc la cvs avs cs J S ep ec ea cl G St=>?_⟩
 refine⟨p,_,rfl,SqT.of ep,rfl,_,_,rfl,_,_,rfl,rfl,?_⟩
 have lenC:cvs.length=n.toNat:=by rw[cl.1];exact G.len
 refine⟨_,rfl,lc,rfl,⟨_,SqL.of ec⟩,?_⟩
 refine gU ec (λ σ'=>σ'.length=1) (λ i v _=>v=ov ((Far.get cs i).map (·.1))) (by left) (by rfl) (λ _ _ _ _ _ h=>h) (λ i x σ' H' hx s2 sg C hC=>?_) (λ L ys H2 hL s2 hH hly hys=>?_)
 ·match σ',sg with
  | [o],_ =>
   have cv:=cl.2 i x hx
   refine⟨_,rfl,rfl,_,rfl,ite2 (λ c=>?_) (λ c=>?_)⟩
   ·have e:Far.get cs i=none:=by
     cases e:Far.get cs i with
     | none=>rfl
     | some d =>
      rw[e] at cv
      obtain⟨tt,rfl,_⟩:=cv
      cases uhb c
    exact hC _ _ _ rfl (Same.refl _) (by rw[e];rfl)
   ·obtain⟨d,gu⟩:∃ d,Far.get cs i=some d:=by
     cases e:Far.get cs i with
     | none=>rw[e] at cv;exact absurd (uha (show x=V.non from cv)) c
     | some d=>exact⟨d,rfl⟩
    rw[gu] at cv
    obtain⟨td,rfl,htd⟩:=cv
    exact⟨_,rfl,td,_,_,_,rfl,rfl,SqT.of (s2 _ _ htd),rfl,hC _ _ _ rfl (Same.refl _) (by rw[gu];rfl)⟩
 ·obtain⟨DD,eD⟩:∃ DD,DD=cs.map λ o=>o.map (·.1):=⟨_,rfl⟩
  have gD:∀ v,Far.get DD v=(Far.get cs v).map (·.1):=λ v=>by
   rw[eD];unfold Far.get
   rw[a8,i8,a8]
   cases cs[v]? <;> rfl
  refine q L DD H2 (S.trans s2) (S.free hL) ?_ (by rw[eD,c8];exact G.len) λ v hv=>by rw[gD];exact G.dst St v
  rw[hH]
  refine congrArg (λ z=>some (HO.lst z)) (ub3 λ i=>?_)
  have lD:DD.length=n.toNat:=by rw[eD,c8];exact G.len
  by_cases hi:i<n.toNat
  ·rw[gB (by left),gD]
   have e:ys[i]?=some ys[i]:=c7 (by left)
   rw[e,hys i _ e]
  ·rw[r6 (by left),r6 (by rw[c8];left)]
theorem tY (T:Bi mg)(D:DefOk K mg "tree_from" s_tree_from ["web","keep","root"])(O_reached_from:‹2› "reached_from" ["web","keep","root"] (spReachedB K)):‹3› "tree_from" ["web","keep","root"] (spTreeB K):=by
 exists 2,sc_tree_from
 obtain⟨n,ts,ks,wv,kv,r,rfl,wk,r0,r1,q⟩:=h
 refine⟨_,(aG (bS (aK O_reached_from hr rfl (aA (pv 0) (aA (pv 1) (aA (pv 2) aB)))) (bT (n:=2) rfl (aP (aH (i:=3) nd rfl (m9 rfl)) (aP (aH (i:=4) nd rfl (m9 rfl)) bD)))) (aE (aL (bJ dB rfl T.z_tuple (by symm) (aA (pv 4) aB))))),?_⟩
 refine⟨_,rfl,_,rfl,_,rfl,n,ts,ks,wv,kv,r,rfl,wk,r0,r1,λ p lc la cvs as cs J S ep ec ea cl G=>?_⟩
 refine⟨p,_,rfl,SqT.of ep,rfl,_,_,rfl,_,_,rfl,rfl,?_⟩
 exact⟨_,rfl,la,_,rfl,ea,λ t J2 S2 f2 e2=>q t as cs J2 (S.trans S2) e2 G⟩
theorem oP {ws:List V}{x:V}:atI (ws++[x]) (-1)=some x:=by
 unfold atI ixN
 rw[uhe (by decide),uhd (by rw[i6,t6];left)]
 show (ws++[x])[(-1+((ws++[x]).length:Int)).toNat]?=some x
 rw[i6,t6,show (-1+((ws.length+1:Nat):Int)).toNat=ws.length by left]
 simp
theorem vT (T:Bi mg)(D:DefOk K mg "the_way" s_the_way ["web","keep","a","b"])(O_tree_from:‹3› "tree_from" ["web","keep","root"] (spTreeB K)):‹4› "the_way" ["web","keep","a","b"] (spWayB K):=by
 exists 3,sc_the_way
 obtain⟨n,ts,ks,wv,kv,a,b,rfl,wk,a0,a1,b0,b1,q⟩:=h
 have n24:=wk.2.1.n24
 have KB:=eH wk.2.1 wk.2.2.2
 refine⟨_,(aG (aR (i:=4) nd rfl (m9 rfl) (aK O_tree_from hr rfl (aA (pv 0) (aA (pv 1) (aA (pv 3) aB))))) (aG (aR (i:=5) nd rfl (m9 rfl) (bV (aA (pv 2) aB))) (aG (nN PassesOwn.never (aS rM (aJ aZ (pv 5) (gA fV aC) (λ _ _=>rfl)) (pv 3) (nomark _)) (aG (aX (aS cY (aJ aY (pv 4) (aJ aZ (pv 5) (gA fV aC) (λ _ _=>rfl)) (λ _ _=>rfl)) bO (nomark _)) (aE (aL bO)) aV) (aE (dW (dP ubb ucg ucf iW (pv 5) (aA (aJ aY (pv 4) (aJ aZ (pv 5) (gA fV aC) (λ _ _=>rfl)) (λ _ _=>rfl)) aB)))))) (aE (aL (bJ dB rfl T.z_tuple (by symm) (aA (pv 5) aB))))))),?_⟩
 refine⟨_,rfl,_,rfl,_,rfl,n,ts,ks,wv,kv,b,rfl,wk,b0,b1,λ p as cs J S ep G=>?_⟩
 refine⟨_,rfl,(by show 1<=1000;decide),λ lw J1 S1 f1 e1=>?_⟩
 have lA:=G.alen
 have ep1:=S1 _ _ ep
 have fw:H lw=none:=S.free f1
 have nlp:p≠lw:=λ z=>by rw[z,f1] at ep;cases ep
 refine⟨λ m σ J2=>∃ (pre:List Nat)(c:Nat),σ=[some wv,some kv,some (.int a),some (.int b),some (.ref p),some (.ref lw)]/\Same H J2/\J2 p=some (.tup (as.map oa))/\J2 lw=some (.lst (natV (pre++[c])))/\c<n.toNat /\
  ((pre=[]/\c=a.toNat/\Far.get cs c=none/\m=0)\/∃ ca cc,Far.get cs a.toNat=some ca/\Far.get cs c=some cc/\(∀ P,Far.TPw as b.toNat P c->Far.TPw as b.toNat (P++pre.reverse) a.toNat)/\pre.length+1<=Far.beyond n.toNat cs cc.1/\m=cc.1.toNat),?_,?_⟩
 ·have e1':J1 lw=some (.lst (natV ([]++[a.toNat]))):=by rw[e1];show some (HO.lst [V.int a])=some (HO.lst [V.int ((a.toNat:Nat):Int)]);rw[uaf a0]
  cases e:Far.get cs a.toNat with
  | none=>exact⟨0,[],a.toNat,rfl,S.trans S1,ep1,e1',by left,.inl ⟨rfl,rfl,e,rfl⟩⟩
  | some ca=>exact⟨_,[],a.toNat,rfl,S.trans S1,ep1,e1',by left,.inr ⟨ca,ca,rfl,e,λ P t=>by rw[List.reverse_nil,uay];exact t,Far.xI (by left) e,rfl⟩⟩
 rintro m σ J2 ⟨pre,c,rfl,sm,hp,hw,hc,inv⟩
 have lastV:atI (natV (pre++[c])) (-1)=some (.int (c:Int)):=by
  unfold natV;rw[ubs];exact oP
 have hat:atI (as.map oa) (c:Int)=some (oa (Far.get as c)):=bQ (uat _) (by rw[v5];exact zeg (by left))
 refine⟨_,rfl,_,rfl,lw,_,_,_,rfl,rfl,SqL.of hw,lastV,_,rfl,rfl,_,rfl,?_⟩
 by_cases cb:c=b.toNat
 ·refine iteNS (by rw[cb,uaf b0]) ?_
  refine⟨_,rfl,lw,_,rfl,hw,λ t J3 S3 f3 e3=>q _ J3 (sm.trans S3) ⟨cs,as,G,.inr ?_⟩⟩
  rcases inv with ⟨_,_,ec,_⟩ | ⟨ca,cc,e1',e2',tp,hl,_⟩
  ·rw[cb,G.start] at ec;cases ec
  ·have:=Far.mS n.toNat cs cc.1
   refine⟨t,pre++[c],ca,rfl,e3,by rw[i6,t6];left,e1',?_⟩
   rw[ubk]
   have:=tp [b.toNat] (by rw[cb];exact .root)
   rw[cb];exact this
 ·have ne:decide (V.int (c:Int)=V.int b)=false:=uhc λ z=>cb (by injection z with z;left)
  rw[ne]
  refine iteT ⟨λ σ' J'=>∃ m',m'<m/\∃ (pre:List Nat)(c:Nat),σ'=[some wv,some kv,some (.int a),some (.int b),some (.ref p),some (.ref lw)]/\Same H J'/\J' p=some (.tup (as.map oa))/\J' lw=some (.lst (natV (pre++[c])))/\c<n.toNat /\
   ((pre=[]/\c=a.toNat/\Far.get cs c=none/\m'=0)\/∃ ca cc,Far.get cs a.toNat=some ca/\Far.get cs c=some cc/\(∀ P,Far.TPw as b.toNat P c->Far.TPw as b.toNat (P++pre.reverse) a.toNat)/\pre.length+1<=Far.beyond n.toNat cs cc.1/\m'=cc.1.toNat),λ _ _ h=>h,?_⟩
  refine⟨_,rfl,_,rfl,_,rfl,lw,_,_,_,rfl,rfl,SqL.of hw,lastV,p,_,_,_,rfl,rfl,SqT.of hp,hat,rfl,_,rfl,?_⟩
  cases ea:Far.get as c with
  | none =>
   refine iteT (q _ _ sm ⟨cs,as,G,.inl ⟨rfl,?_⟩⟩)
   rcases inv with ⟨_,ec,e2',_⟩ | ⟨ca,cc,_,e2',_⟩
   ·rw[← ec];exact e2'
   ·exact absurd ea (G.has c cc e2' cb)
  | some u =>
   obtain⟨l,k,cu,mm,e1',e2'⟩:=G.arc _ _ ea
   rw[ea] at hat
   rcases inv with ⟨_,_,ec,_⟩ | ⟨ca,cc,e3',e4',tp,hl,rfl⟩
   ·rw[ec] at e2';cases e2'
   ·have ecc:cc=(cu.1+l,cu.2+2^k):=uav (e4'.symm.trans e2')
    have l1:=KB.pos _ _ _ _ mm
    have cu0:=G.nn _ _ e1'
    have hu:=(oR wk.2.1 wk.2.2.2 mm).1
    have c1:cc.1=cu.1+l:=by rw[ecc]
    have bl:=Far.zO hu e1' (show cu.1<cc.1 by left)
    have ble:=Far.mS n.toNat cs cu.1
    have lenW:(natV (pre++[c])).length=pre.length+1:=by unfold natV;rw[c8,i6,t6]
    refine iteF ⟨_,rfl,.inl ⟨rfl,_,SqL.of hw⟩,_,rfl,_,rfl,_,rfl,lw,_,_,_,rfl,rfl,SqL.of hw,lastV,p,_,_,_,rfl,rfl,SqT.of hp,hat,lw,_,_,rfl,rfl,hw,by left,λ J3 b3 e3=>?_⟩
    refine⟨cu.1.toNat,by left,pre++[c],u,rfl,λ c o z=>b3 _ _ (bB z fw) (sm _ _ z),b3 _ _ nlp hp,?_,hu,.inr ⟨ca,cu,e3',e1',λ P t=>?_,by rw[i6,t6];left,rfl⟩⟩
    ·rw[e3];unfold natV;rw[ubs (l₂:=[u])];rfl
    ·have:=tp (P++[c]) (.step ea t)
     rw[ubk]
     rw[uax] at this
     exact this
theorem tE (T:Bi mg)(D:DefOk K mg "tie_between" s_tie_between ["web","a","b"]):‹1› "tie_between" ["web","a","b"] (spTB K):=by
 exists 0,sc_tie_between
 obtain⟨n,ts,wv,u,v,rfl,isw,few60,q⟩:=h
 have units:∀ {x:Nat},x<=3->(A.deeper (envOfC "tie_between" (defScope s_tie_between) s.heap.objs.size f cdv)).units+x<cLine:=λ {x} hu=>by have:=hr.units;left
 obtain⟨g0,g,ws,rfl,hg0,hg,hall,hlw⟩:=cD isw
 refine⟨_,(aG (aR (i:=3) nd rfl (m9 rfl) (bY (aA (aQ (jH rfl) rfl T.z_min (by symm) (aA (pv 1) (aA (pv 2) aB))) (aA (aQ (jI rfl) rfl T.z_max (by symm) (aA (pv 1) (aA (pv 2) aB))) aB)))) (aG (bL PassesOwn.never rfl (hX true rfl T.z_enumerate (aA (aJ aY (pv 0) aC (λ _ _=>rfl)) aB)) (bT (n:=2) rfl (aP (aH (i:=4) nd rfl (m9 rfl)) (aP (aH (i:=5) nd rfl (m9 rfl)) bD))) (aE (aX (aS qU (cT dI (pv 5) cV (cU aC)) (pv 3) (nomark _)) (aE (aL (pv 4))) aV))) (aE (aL bO)))),?_⟩
 refine⟨_,rfl,_,rfl,_,_,rfl,_,rfl,_,rfl,_,_,rfl,(by show 2<=1000;decide),λ te J1 S1 f1 e1=>?_⟩
 have eMin:(if (v:Int)<(u:Int) then (v:Int) else u)=min (u:Int) v:=by split <;> left
 have eMax:(if (v:Int)>(u:Int) then (v:Int) else u)=max (u:Int) v:=by split <;> left
 rw[eMin,eMax] at e1
 refine⟨_,rfl,g0,_,_,_,rfl,rfl,SqT.of (S1 _ _ hg0),rfl,g,rfl,⟨ws,SqX.of (S1 _ _ hg)⟩,?_⟩
 refine⟨λ i m σ J=>m=ts.length-i/\i<=ts.length/\(∃ y4 y5:Option V,σ=[some (.ref g0),some (.int (u:Int)),some (.int (v:Int)),some (.ref te),y4,y5])/\Same J1 J/\∀ k,k<i->isTB ts u v k=false,⟨_,rfl,p7 _,⟨none,none,rfl⟩,Same.refl _,λ k hk=>(by left)⟩,?_⟩
 rintro i m σ J ⟨rfl,hi,⟨y4,y5,rfl⟩,sm,pre⟩
 have sH:=S1.trans sm
 have sq:SqX true K J g ws:=SqX.of (sH _ _ hg)
 by_cases hlt:i<ts.length
 ·refine .inr ⟨⟨ws,ws[i]'(by left),sq,by simp [show i<ws.length by left]⟩,λ σ' J'=>∃ m',m'<ts.length-i/\(m'=ts.length-(i+1)/\i+1<=ts.length/\(∃ y4 y5:Option V,σ'=[some (.ref g0),some (.int (u:Int)),some (.int (v:Int)),some (.ref te),y4,y5])/\Same J1 J'/\∀ k,k<i+1->isTB ts u v k=false),λ _ _ h=>h,λ x J' hy=>?_⟩
  obtain⟨T',y,hT,rfl,rfl,ey⟩:=hy
  have hyi:=ey ws sq
  obtain⟨ta,hta,htie⟩:=dF hall hlt
  rw[hta] at hyi
  cases hyi
  have S2:=aT (o:=.tup [.int (i:Nat),.ref ta]) hT
  have htie':=S2 _ _ (sH _ _ htie)
  refine⟨T',_,rfl,SqT.of aO,rfl,_,_,rfl,_,_,rfl,rfl,?_⟩
  refine⟨_,rfl,_,rfl,ta,_,rfl,htie',λ tc J3 S3 e3=>?_⟩
  have e3':J3 tc=some (.tup (([(tieAt ts i).1,(tieAt ts i).2.1]:List Int).map V.int)):=e3
  have e1':J3 te=some (.tup (([min (u:Int) v,max (u:Int) v]:List Int).map V.int)):=S3 _ _ (S2 _ _ (sm _ _ e1))
  refine⟨_,rfl,.tuple (([(tieAt ts i).1,(tieAt ts i).2.1]:List Int).map .int),.tuple (([min (u:Int) v,max (u:Int) v]:List Int).map .int),⟨tc,_,rfl,e3',IsAll.ints _⟩,⟨te,_,rfl,e1',IsAll.ints _⟩,fN _,fN _,?_,_,rfl,?_⟩
  ·have d1:=jF [(tieAt ts i).1,(tieAt ts i).2.1]
   have d2:ue3 (.tuple (([(tieAt ts i).1,(tieAt ts i).2.1]:List Int).map .int))=ue2 (([(tieAt ts i).1,(tieAt ts i).2.1]:List Int).map .int)+1:=rfl
   exact units (uao (ufd _ _) (by rw[d2];left))
  have eq:ue5 (.tuple (([(tieAt ts i).1,(tieAt ts i).2.1]:List Int).map .int)) (.tuple (([min (u:Int) v,max (u:Int) v]:List Int).map .int))=isTB ts u v i:=zan _ _ _ _
  rw[eq]
  have SS:=S2.trans S3
  refine ite2 (λ c=>?_) (λ c=>?_)
  ·have et:tbN ts u v=some i:=by
    unfold tbN
    refine List.find?_range_eq_some.mpr ⟨c,o8.mpr hlt,λ j hj=>?_⟩
    rw[pre j hj];rfl
   have q1:=q J3 (sH.trans SS)
   rw[et] at q1
   exact⟨_,rfl,q1⟩
  ·refine⟨ts.length-(i+1),by left,rfl,hlt,⟨_,_,rfl⟩,sm.trans SS,λ k hk=>?_⟩
   by_cases z:k=i
   ·rw[z];exact uep.mpr c
   ·exact pre k (by left)
 ·have e:i=ts.length:=by left
  subst e
  refine .inl ⟨⟨ws,sq,by left⟩,?_⟩
  have et:tbN ts u v=none:=by
   unfold tbN
   refine udn.mpr λ k hk=>?_
   rw[pre k (o8.mp hk)];exact j6
  have q1:=q J sH
  rw[et] at q1
  exact q1
theorem tZ (T:Bi mg)(D:DefOk K mg "ties_along" s_ties_along ["web","places"])(O_tie_between:‹1› "tie_between" ["web","a","b"] (spTB K)):‹2› "ties_along" ["web","places"] (spAlong K):=by
 exists 1,sc_ties_along
 obtain⟨n,ts,wv,t,ws,rfl,isw,few60,ht,l24,lk,q⟩:=h
 have lenW:(natV ws).length=ws.length:=by unfold natV;rw[c8]
 have ecut:cutV (natV ws) (some 1) none=natV (ws.drop 1):=by
  unfold cutV
  have h1:HT.sIx (natV ws).length (natV ws).length none=(natV ws).length:=rfl
  rw[h1]
  by_cases z:ws=[]
  ·subst z;rfl
  ·have pos:=uco.mpr z
   have h0:HT.sIx (natV ws).length 0 (some 1)=1:=by
    unfold HT.sIx
    simp
    left
   rw[h0,uam (by rw[ua2];exact h9 _)]
   unfold natV
   rw[ufr]
 refine⟨_,(aE (aL (bK (N:=["web","places"]) (sc0:=defScope s_ties_along) (own:=["one","other"]) (fr:=["web"]) (js:=[0]) rfl (iJ true true rfl T.z_zip (aA (pv 1) (aA (cT dI (pv 1) (cU aC) cV) aB))) (λ _ _ _ _=>(dJ (n:=2) rfl (aP (aH (i:=0) (by show uai [("one":Str),("other":Str),("web":Str)];decide +kernel) rfl (m9 rfl)) (aP (aH (i:=1) (by show uai [("one":Str),("other":Str),("web":Str)];decide +kernel) rfl (m9 rfl)) bD)))) (λ _ _ _ _=>bU) (λ _ _ _ _=>(aK O_tie_between hr rfl (aA (pv 2) (aA (pv 0) (aA (pv 1) aB)))))))),?_⟩
 refine⟨_,rfl,_,rfl,_,rfl,t,_,rfl,ht,λ t2 J1 S1 e1=>?_⟩
 rw[ecut] at e1
 refine⟨t,t2,rfl,⟨_,SqX.of (t:=true) (S1 _ _ ht)⟩,⟨_,SqX.of (t:=true) e1⟩,?_⟩
 have lenD:(natV (ws.drop 1)).length=ws.length-1:=by unfold natV;rw[c8,ua2]
 refine gR (t1:=true) (t2:=true) (xs:=natV ws) (zs:=natV (ws.drop 1)) (S1 _ _ ht) e1 (λ σ'=>∃ o1 o2,σ'=[o1,o2,some wv]) (λ i x _=>x=V.int (((tbN ts (ws.getD i 0) (ws.getD (i+1) 0)).getD 0:Nat):Int)) (by left) (by exact⟨none,none,rfl⟩) (λ _ _ _ _ _ h=>h) (λ i x z U σ' H' hxi hzi s2 hU sg C hC=>?_) (λ L ys H2 hL s2 hH hly hys=>?_)
 ·obtain⟨o1,o2,rfl⟩:=sg
  obtain⟨u,hu,rfl⟩:=cZ hxi
  obtain⟨v,hv,rfl⟩:=cZ hzi
  rw[udm,uej] at hv
  obtain⟨k,ek,hk⟩:=fF lk hu hv
  have eu:ws.getD i 0=u:=by rw[a8,hu];rfl
  have ev:ws.getD (i+1) 0=v:=by rw[a8,hv];rfl
  refine⟨U,_,rfl,SqT.of aO,rfl,_,_,rfl,_,_,rfl,rfl,?_⟩
  have SU:=aT (o:=.tup [V.int (u:Int),.int (v:Int)]) hU
  refine⟨_,rfl,_,rfl,_,rfl,n,ts,wv,u,v,rfl,Is.same (S1.trans (s2.trans SU)) _ isw,few60,λ H5 s5=>hC _ _ _ ⟨_,_,rfl⟩ (SU.trans s5) ?_⟩
  rw[eu,ev,ek];rfl
 ·refine q L H2 (S1.trans s2) ?_
  rw[hH]
  refine congrArg (λ z=>some (HO.lst z)) (ub3 λ i=>?_)
  have hl2:ys.length=ws.length-1:=by rw[hly,lenW,lenD];left
  unfold alongN natV
  rw[uaj,i8]
  by_cases hi:i<ws.length-1
  ·have e:ys[i]?=some ys[i]:=c7 (by left)
   rw[e,hys i _ e,ucp hi];rfl
  ·rw[r6 (by left),r6 (by rw[v4];left)];rfl
theorem tX (T:Bi mg)(D:DefOk K mg "way_length" s_way_length ["web","way"])(O_ties_along:‹2› "ties_along" ["web","places"] (spAlong K)):‹3› "way_length" ["web","way"] (spWLen K):=by
 exists 2,sc_way_length
 obtain⟨n,ts,wv,t,ws,rfl,isw,few60,ht,l24,lk,q⟩:=h
 obtain⟨g0,g,tws,rfl,hg0,hg,hall,hlw⟩:=cD isw
 refine⟨_,(aE (aL (aQ (zI rfl) rfl T.z_sum (by symm) (aA (bK (N:=["web","way"]) (sc0:=defScope s_way_length) (own:=["tie"]) (fr:=["web"]) (js:=[0]) rfl (fT (aK O_ties_along hr rfl (aA (pv 0) (aA (pv 1) aB)))) (λ _ _ _ _=>(aH (i:=0) (by show uai [("tie":Str),("web":Str)];decide +kernel) rfl (m9 rfl))) (λ _ _ _ _=>bU) (λ _ _ _ _=>(aJ cW (aJ cW (aJ cW (pv 1) aC (λ _ _=>rfl)) (pv 0) (λ _ _=>rfl)) aC (λ _ _=>rfl)))) aB)))),?_⟩
 refine⟨_,rfl,_,rfl,n,ts,_,t,ws,rfl,isw,few60,ht,l24,lk,λ l J1 S1 e1=>?_⟩
 refine⟨l,rfl,⟨_,SqL.of e1⟩,?_⟩
 have lenA:(natV (alongN ts ws)).length=ws.length-1:=by unfold natV alongN;rw[c8,c8,v4]
 refine gU e1 (λ σ'=>∃ o,σ'=[o,some (.ref g0)]) (λ i x _=>x=V.int (tieAt ts ((alongN ts ws).getD i 0)).2.2) (by left) (by exact⟨none,rfl⟩) (λ _ _ _ _ _ h=>h) (λ i x σ' H' hx s2 sg C hC=>?_) (λ L ys H2 hL s2 hH hly hys=>?_)
 ·obtain⟨o,rfl⟩:=sg
  obtain⟨k,hk,rfl⟩:=cZ hx
  have hkl:=jS lk k (p6 hk)
  obtain⟨ta,hta,htie⟩:=dF hall hkl
  have s12:=S1.trans s2
  have ek:(alongN ts ws).getD i 0=k:=by rw[a8,hk];rfl
  exact⟨_,rfl,g0,_,_,_,rfl,rfl,SqT.of (s12 _ _ hg0),rfl,_,rfl,g,_,_,_,rfl,rfl,SqT.of (s12 _ _ hg),bQ (uat _) hta,ta,_,_,_,rfl,rfl,SqT.of (s12 _ _ htie),rfl,hC _ _ _ ⟨_,rfl⟩ (Same.refl _) (by rw[ek])⟩
 ·refine⟨L,(alongN ts ws).map λ k=>(tieAt ts k).2.2,rfl,?_,?_⟩
  ·rw[hH]
   refine congrArg (λ z=>some (HO.lst z)) (ub3 λ i=>?_)
   have hl2:ys.length=ws.length-1:=by rw[hly,lenA]
   have la:(alongN ts ws).length=ws.length-1:=by unfold alongN;rw[c8,v4]
   rw[i8,i8]
   by_cases hi:i<ws.length-1
   ·have e:ys[i]?=some ys[i]:=c7 (by left)
    have e2:(alongN ts ws)[i]?=some ((alongN ts ws).getD i 0):=by rw[a8,c7 (by left)];rfl
    rw[e,hys i _ e,e2];rfl
   ·rw[r6 (by left),r6 (by left)];rfl
  ·rw[mV]
   exact q H2 (S1.trans s2)
theorem sZ (T:Bi mg)(D:DefOk K mg "ties_along" s_ties_along ["web","places"])(O_tie_between:‹1› "tie_between" ["web","a","b"] (spTB K)):‹2› "ties_along" ["web","places"] (spAlongO K):=by
 exists 1,sc_ties_along
 obtain⟨n,ts,wv,t,ws,rfl,isw,few60,ht,l24,q⟩:=h
 have lenW:(natV ws).length=ws.length:=by unfold natV;rw[c8]
 have ecut:cutV (natV ws) (some 1) none=natV (ws.drop 1):=by
  unfold cutV
  have h1:HT.sIx (natV ws).length (natV ws).length none=(natV ws).length:=rfl
  rw[h1]
  by_cases z:ws=[]
  ·subst z;rfl
  ·have pos:=uco.mpr z
   have h0:HT.sIx (natV ws).length 0 (some 1)=1:=by
    unfold HT.sIx
    simp
    left
   rw[h0,uam (by rw[ua2];exact h9 _)]
   unfold natV
   rw[ufr]
 refine⟨_,(aE (aL (bK (N:=["web","places"]) (sc0:=defScope s_ties_along) (own:=["one","other"]) (fr:=["web"]) (js:=[0]) rfl (iJ true true rfl T.z_zip (aA (pv 1) (aA (cT dI (pv 1) (cU aC) cV) aB))) (λ _ _ _ _=>(dJ (n:=2) rfl (aP (aH (i:=0) (by show uai [("one":Str),("other":Str),("web":Str)];decide +kernel) rfl (m9 rfl)) (aP (aH (i:=1) (by show uai [("one":Str),("other":Str),("web":Str)];decide +kernel) rfl (m9 rfl)) bD)))) (λ _ _ _ _=>bU) (λ _ _ _ _=>(aK O_tie_between hr rfl (aA (pv 2) (aA (pv 0) (aA (pv 1) aB)))))))),?_⟩
 refine⟨_,rfl,_,rfl,_,rfl,t,_,rfl,ht,λ t2 J1 S1 e1=>?_⟩
 rw[ecut] at e1
 refine⟨t,t2,rfl,⟨_,SqX.of (t:=true) (S1 _ _ ht)⟩,⟨_,SqX.of (t:=true) e1⟩,?_⟩
 have lenD:(natV (ws.drop 1)).length=ws.length-1:=by unfold natV;rw[c8,ua2]
 refine gR (t1:=true) (t2:=true) (xs:=natV ws) (zs:=natV (ws.drop 1)) (S1 _ _ ht) e1 (λ σ'=>∃ o1 o2,σ'=[o1,o2,some wv]) (λ i x _=>x=oa (tbN ts (ws.getD i 0) (ws.getD (i+1) 0))) (by left) (by exact⟨none,none,rfl⟩) (λ _ _ _ _ _ h=>h) (λ i x z U σ' H' hxi hzi s2 hU sg C hC=>?_) (λ L ys H2 hL s2 hH hly hys=>?_)
 ·obtain⟨o1,o2,rfl⟩:=sg
  obtain⟨u,hu,rfl⟩:=cZ hxi
  obtain⟨v,hv,rfl⟩:=cZ hzi
  rw[udm,uej] at hv
  have eu:ws.getD i 0=u:=by rw[a8,hu];rfl
  have ev:ws.getD (i+1) 0=v:=by rw[a8,hv];rfl
  refine⟨U,_,rfl,SqT.of aO,rfl,_,_,rfl,_,_,rfl,rfl,?_⟩
  have SU:=aT (o:=.tup [V.int (u:Int),.int (v:Int)]) hU
  refine⟨_,rfl,_,rfl,_,rfl,n,ts,wv,u,v,rfl,Is.same (S1.trans (s2.trans SU)) _ isw,few60,λ H5 s5=>hC _ _ _ ⟨_,_,rfl⟩ (SU.trans s5) ?_⟩
  rw[eu,ev]
 ·refine q L H2 (S1.trans s2) ?_
  rw[hH]
  refine congrArg (λ z=>some (HO.lst z)) (ub3 λ i=>?_)
  have hl2:ys.length=ws.length-1:=by rw[hly,lenW,lenD];left
  unfold alongO
  rw[i8]
  by_cases hi:i<ws.length-1
  ·have e:ys[i]?=some ys[i]:=c7 (by left)
   rw[e,hys i _ e,ucp hi];rfl
  ·rw[r6 (by left),r6 (by rw[v4];left)];rfl
inductive spWayI_i (K:b8)(vs:List V)(H:Hp)(Q:VK):Prop
 | mk:∀ (n:Int)(ts:List Tie)(ks:List Nat)(wv kv:V)(p:l7)(ws:List Int),(vs=[wv,kv,.ref p])->(WK K H n ts ks wv kv)->(IntT H p ws)->(ws.length<=40)->(∀ H',Same H H'->Q (.bl (rightI n ts ks ws).isSome) H')->spWayI_i K vs H Q
def spWayI (K:b8):Sp:=λ vs H Q _=>spWayI_i K vs H Q
theorem tW (T:Bi mg)(D:DefOk K mg "way_right" s_way_right ["web","keep","way"])(O_are_unlike_places:‹3› "are_unlike_places" ["web","thing"] (spUnlike K))(O_ties_along:‹3› "ties_along" ["web","places"] (spAlongO K)):‹4› "way_right" ["web","keep","way"] (spWayI K):=by
 exists 3,sc_way_right
 obtain⟨n,ts,ks,wv,kv,p,ws,rfl,⟨isw,ok,isk,ko⟩,hp,l40,q⟩:=h
 obtain⟨kp,rfl,hkp⟩:=gJ isk
 rw[← cJ] at hkp
 have lm:(ws.map V.int).length=ws.length:=c8 _
 refine⟨_,(aG (aX (PW.pt (cN (cP (cI (aK O_are_unlike_places hr rfl (aA (pv 0) (aA (pv 2) aB))))) (cX (aS bE (aQ bG rfl T.z_len (by symm) (aA (pv 2) aB)) aC (nomark _))))) (aE (aL bP)) aV) (aE (aL (aQ (dS rfl) rfl T.z_all (by symm) (aA (bK (N:=["web","keep","way"]) (sc0:=defScope s_way_right) (own:=["tie"]) (fr:=["keep"]) (js:=[1]) rfl (fT (aK O_ties_along hr rfl (aA (pv 0) (aA (pv 2) aB)))) (λ _ _ _ _=>(aH (i:=0) (by show uai [("tie":Str),("keep":Str)];decide +kernel) rfl (m9 rfl))) (λ _ _ _ _=>bU) (λ _ _ _ _=>(bC iV (pv 0) (pv 1) (by with_unfolding_all rfl)))) aB))))),?_⟩
 refine⟨_,rfl,_,rfl,n,ts,wv,p,ws,rfl,isw,hp,λ H1 s1=>⟨_,rfl,?_⟩⟩
 have no:∀ {J:Hp},Same H J->¬ ((ws≠[]/\ws.Nodup)/\ws.all (λ i=>decide (0<=i)&&decide (i<n))=true)->Q (.bl false) J:=λ S c=>by
  have:=q _ S
  unfold rightI at this
  rw[uhe c] at this
  exact this
 cases epl:placesB n ws with
 | false=>exact iteT (iteT (no s1 λ z=>by rw[show ws.all (λ i=>decide (0<=i)&&decide (i<n))=false from epl] at z;cases z.2))
 | true =>
 by_cases nod:ws.Nodup
 case neg =>
  rw[uhc nod]
  exact iteT (iteT (no s1 λ z=>nod z.1.2))
 rw[uha nod]
 refine iteF ⟨_,rfl,p,_,rfl,.inr (SqT.of (s1 _ _ hp.1)),rfl,_,rfl,?_⟩
 by_cases ne:ws=[]
 ·subst ne
  exact iteT (no s1 λ z=>z.1.1 rfl)
 rw[uhc (p:=V.int (((ws.map V.int).length:Nat):Int)=V.int 0) (λ z=>by injection z with z;have:=uco.mpr ne;left)]
 refine iteF ?_
 have al:ws.all (λ i=>decide (0<=i)&&decide (i<n))=true:=epl
 have pl:∀ i∈ws,0<=i/\i<n:=λ i hi=>by
  have:=uas.mp al i hi
  rw[o7,decide_eq_true_iff,decide_eq_true_iff] at this
  exact this
 obtain⟨us,eus⟩:∃ us:List Nat,ws=keepI us:=⟨ws.map ubo,by
  unfold keepI
  rw[uaj]
  conv=>lhs;rw[← uc2 ws]
  refine uaz λ i hi=>?_
  show i=((i.toNat:Nat):Int)
  have:=pl i hi;left⟩
 have lus:us.length=ws.length:=by rw[eus];unfold keepI;rw[c8]
 have hpn:H p=some (.tup (natV us)):=by rw[cJ,← eus];exact hp.1
 refine⟨_,rfl,_,rfl,n,ts,_,p,us,rfl,Is.same s1 _ isw,ok.few,s1 _ _ hpn,by left,λ l J1 S1 e1=>?_⟩
 have s11:=s1.trans S1
 refine⟨l,rfl,⟨_,SqL.of e1⟩,?_⟩
 have lenA:(alongO ts us).length=us.length-1:=by unfold alongO;rw[c8,v4]
 refine gU e1 (λ σ'=>∃ o,σ'=[o,some (.ref kp)]) (λ i v _=>v=.bl ((λ i=>(stepY ts ks ws i).isSome) i)) (by left) (by exact⟨none,rfl⟩) (λ _ _ _ _ _ h=>h) (λ i x σ' H' hx s2 sg C hC=>?_) (λ L ys H2 hL s2 hH hly hys=>?_)
 ·obtain⟨o,rfl⟩:=sg
  have hi:=(j7.mp hx).1
  unfold alongO at hx
  rw[i8,ucp (by left)] at hx
  have ex:x=oa (tbN ts (us.getD i 0) (us.getD (i+1) 0)):=(uav hx).symm
  have est:(stepY ts ks ws i).isSome=inV (oa (tbN ts (us.getD i 0) (us.getD (i+1) 0))) (natV ks):=by
   rw[zdu ok ko]
   unfold stepY
   rw[eus]
   unfold keepI
   have g:∀ j,(us.map λ k:Nat=>(k:Int)).getD j 0=((us.getD j 0:Nat):Int):=λ j=>by
    rw[a8,a8,i8]
    cases us[j]? <;> rfl
   rw[g,g]
  subst ex
  refine⟨_,rfl,_,rfl,kp,_,rfl,.inr (SqT.of (s2 _ _ (s11 _ _ hkp))),?_,nY ks,hC _ _ _ ⟨_,rfl⟩ (Same.refl _) ?_⟩
  ·cases tbN ts (us.getD i 0) (us.getD (i+1) 0) <;> rfl
  ·show V.bl (inV _ (natV ks))=V.bl (stepY ts ks ws i).isSome
   rw[est]
 ·refine⟨L,_,rfl,SqL.of (by rw[hH,dU (hly.trans lenA) hys]),?_⟩
  have ea:((d8 (us.length-1)).map λ i=>(stepY ts ks ws i).isSome).all id=(rightI n ts ks ws).isSome:=by
   unfold rightI
   rw[uhd ⟨⟨ne,nod⟩,al⟩,lU,lus,ucd];rfl
  rw[ea]
  exact q H2 (s11.trans s2)
theorem zem {ws:List Int}(h:1<=ws.length):atI (ws.map V.int) 0=some (.int (ws.getD 0 0)):=bQ (v6 0) (by
 rw[show (0:Int).toNat=0 from rfl,i8,a8,c7 (show 0<ws.length by left)];rfl)
theorem zel {ws:List Int}(h:1<=ws.length):atI (ws.map V.int) (-1)=some (.int (ws.getD (ws.length-1) 0)):=by
 unfold atI ixN
 rw[uhe (by decide),uhd (by rw[c8];left)]
 show (ws.map V.int)[(-1+((ws.map V.int).length:Int)).toNat]?=_
 rw[c8,show (-1+(ws.length:Int)).toNat=ws.length-1 by left,i8,a8,c7 (show ws.length-1<ws.length by left)];rfl
theorem gQ (x y:Int):decide (V.int x=V.int y)=decide (x=y):=by
 by_cases z:x=y
 ·rw[uha z,uha (by rw[z])]
 ·rw[uhc z,uhc λ h=>z (by injection h)]
theorem yC {n:Int}{ts:List Tie}{ks:List Nat}{ws:List Int}{x:Int}(h:rightI n ts ks ws=some x):1<=ws.length:=by
 unfold rightI at h
 split at h
 ·rename_i c
  exact uco.mpr c.1.1
 ·cases h
inductive spLeadsI_i (K:b8)(vs:List V)(H:Hp)(Q:VK):Prop
 | mk:∀ (n:Int)(ts:List Tie)(ks:List Nat)(wv kv:V)(p:l7)(ws:List Int)(a b:Int),(vs=[wv,kv,.int a,.int b,.ref p])->(WK K H n ts ks wv kv)->(IntT H p ws)->(ws.length<=40)->(∀ H',Same H H'->Q (.bl (leadsI n ts ks a b ws)) H')->spLeadsI_i K vs H Q
def spLeadsI (K:b8):Sp:=λ vs H Q _=>spLeadsI_i K vs H Q
theorem sA (T:Bi mg)(D:DefOk K mg "leads_between" s_leads_between ["web","keep","a","b","way"])(O_way_right:‹4› "way_right" ["web","keep","way"] (spWayI K)):‹5› "leads_between" ["web","keep","a","b","way"] (spLeadsI K):=by
 exists 4,sc_leads_between
 obtain⟨n,ts,ks,wv,kv,p,ws,a,b,rfl,wk,iT,l40,q⟩:=h
 refine⟨_,(aE (aL (bZ (aK O_way_right hr rfl (aA (pv 0) (aA (pv 1) (aA (pv 4) aB)))) (bZ (bC bE (aJ aY (pv 4) aC (λ _ _=>rfl)) (pv 2) (nomark _)) (bX (bC bE (aJ aY (pv 4) (gA fV aC) (λ _ _=>rfl)) (pv 3) (nomark _))))))),?_⟩
 refine⟨_,rfl,_,rfl,_,rfl,n,ts,ks,wv,kv,p,ws,rfl,wk,iT,l40,λ H1 s1=>?_⟩
 have q1:=q H1 s1
 unfold leadsI at q1
 cases er:rightI n ts ks ws with
 | none =>
  rw[er] at q1
  exact⟨_,rfl,iteF q1⟩
 | some x =>
  rw[er] at q1
  have lp:=yC er
  refine⟨_,rfl,iteT ?_⟩
  refine⟨_,rfl,p,_,_,_,rfl,rfl,SqT.of (iT.same s1).1,zem lp,_,rfl,rfl,_,rfl,?_⟩
  rw[gQ]
  cases e1:decide (ws.getD 0 0=a) with
  | false =>
   rw[e1] at q1
   exact iteF q1
  | true =>
   rw[e1] at q1
   refine iteT ⟨_,rfl,_,rfl,p,_,_,_,rfl,rfl,SqT.of (iT.same s1).1,zel lp,_,rfl,rfl,?_⟩
   rw[gQ]
   exact q1
theorem sY (T:Bi mg)(D:DefOk K mg "ties_along" s_ties_along ["web","places"])(O_tie_between:‹1› "tie_between" ["web","a","b"] (spTB K)):‹2› "ties_along" ["web","places"] (spAlongW K):=by
 exists 1,sc_ties_along
 obtain⟨n,ts,wv,t,ws,rfl,isw,few60,ht,l24,lk,q⟩:=h
 have lenW:(natV ws).length=ws.length:=by unfold natV;rw[c8]
 have ecut:cutV (natV ws) (some 1) none=natV (ws.drop 1):=by
  unfold cutV
  have h1:HT.sIx (natV ws).length (natV ws).length none=(natV ws).length:=rfl
  rw[h1]
  by_cases z:ws=[]
  ·subst z;rfl
  ·have pos:=uco.mpr z
   have h0:HT.sIx (natV ws).length 0 (some 1)=1:=by
    unfold HT.sIx
    simp
    left
   rw[h0,uam (by rw[ua2];exact h9 _)]
   unfold natV
   rw[ufr]
 refine⟨_,(aE (aL (bK (N:=["web","places"]) (sc0:=defScope s_ties_along) (own:=["one","other"]) (fr:=["web"]) (js:=[0]) rfl (iJ true true rfl T.z_zip (aA (pv 1) (aA (cT dI (pv 1) (cU aC) cV) aB))) (λ _ _ _ _=>(dJ (n:=2) rfl (aP (aH (i:=0) (by show uai [("one":Str),("other":Str),("web":Str)];decide +kernel) rfl (m9 rfl)) (aP (aH (i:=1) (by show uai [("one":Str),("other":Str),("web":Str)];decide +kernel) rfl (m9 rfl)) bD)))) (λ _ _ _ _=>bU) (λ _ _ _ _=>(aK O_tie_between hr rfl (aA (pv 2) (aA (pv 0) (aA (pv 1) aB)))))))),?_⟩
 refine⟨_,rfl,_,rfl,_,rfl,t,_,rfl,ht,λ t2 J1 S1 e1=>?_⟩
 rw[ecut] at e1
 refine⟨t,t2,rfl,⟨_,SqX.of (t:=true) (S1 _ _ ht)⟩,⟨_,SqX.of (t:=true) e1⟩,?_⟩
 have lenD:(natV (ws.drop 1)).length=ws.length-1:=by unfold natV;rw[c8,ua2]
 refine gR (t1:=true) (t2:=true) (xs:=natV ws) (zs:=natV (ws.drop 1)) (S1 _ _ ht) e1 (λ σ'=>∃ o1 o2,σ'=[o1,o2,some wv]) (λ i x _=>x=V.int (((tbN ts (ws.getD i 0) (ws.getD (i+1) 0)).getD 0:Nat):Int)) (by left) (by exact⟨none,none,rfl⟩) (λ _ _ _ _ _ h=>h) (λ i x z U σ' H' hxi hzi s2 hU sg C hC=>?_) (λ L ys H2 hL s2 hH hly hys=>?_)
 ·obtain⟨o1,o2,rfl⟩:=sg
  obtain⟨u,hu,rfl⟩:=cZ hxi
  obtain⟨v,hv,rfl⟩:=cZ hzi
  rw[udm,uej] at hv
  obtain⟨k,ek,hk⟩:=fF lk hu hv
  have eu:ws.getD i 0=u:=by rw[a8,hu];rfl
  have ev:ws.getD (i+1) 0=v:=by rw[a8,hv];rfl
  refine⟨U,_,rfl,SqT.of aO,rfl,_,_,rfl,_,_,rfl,rfl,?_⟩
  have SU:=aT (o:=.tup [V.int (u:Int),.int (v:Int)]) hU
  refine⟨_,rfl,_,rfl,_,rfl,n,ts,wv,u,v,rfl,Is.same (S1.trans (s2.trans SU)) _ isw,few60,λ H5 s5=>hC _ _ _ ⟨_,_,rfl⟩ (SU.trans s5) ?_⟩
  rw[eu,ev,ek];rfl
 ·refine q L H2 (S1.trans s2) ?_
  rw[hH]
  refine congrArg (λ z=>some (HO.lst z)) (ub3 λ i=>?_)
  have hl2:ys.length=ws.length-1:=by rw[hly,lenW,lenD];left
  unfold alongN natV
  rw[uaj,i8]
  by_cases hi:i<ws.length-1
  ·have e:ys[i]?=some ys[i]:=c7 (by left)
   rw[e,hys i _ e,ucp hi];rfl
  ·rw[r6 (by left),r6 (by rw[v4];left)];rfl
theorem yM (T:Bi mg)(D:DefOk K mg "across" s_across ["web","tie","heights"]):‹1› "across" ["web","tie","heights"] (spAcross K):=by
 exists 0,sc_across
 obtain⟨n,ts,wv,k,p,hs,rfl,isw,ok,hkl,ht,hlh,q⟩:=h
 obtain⟨g0,g,ws,rfl,hg0,hg,hall,hlw⟩:=cD isw
 obtain⟨ta,hta,htie⟩:=dF hall hkl
 have tk:=ok.tie _ (bF hkl).2
 refine⟨_,(aG (bS (aJ aY (aJ aY (pv 0) aC (λ _ _=>rfl)) (pv 1) (λ _ _=>rfl)) (bT (n:=3) rfl (aP (aH (i:=3) nd rfl (m9 rfl)) (aP (aH (i:=4) nd rfl (m9 rfl)) (aP (aH (i:=5) nd rfl (m9 rfl)) bD))))) (aE (aL (aQ zbh rfl T.z_abs (by symm) (aA (aM cL (aJ aY (pv 2) (pv 3) (λ _ _=>rfl)) (aJ aY (pv 2) (pv 4) (λ _ _=>rfl))) aB))))),?_⟩
 refine⟨_,rfl,g0,_,_,_,rfl,rfl,SqT.of hg0,rfl,_,rfl,g,_,_,_,rfl,rfl,SqT.of hg,bQ (uat _) hta,ta,_,rfl,SqT.of htie,rfl,_,_,rfl,_,_,rfl,_,_,rfl,rfl,?_⟩
 exact⟨_,rfl,_,rfl,p,_,_,_,rfl,rfl,SqT.of ht.1,qZ (by left) (by left),_,rfl,_,rfl,p,_,_,_,rfl,rfl,SqT.of ht.1,qZ (by left) (by left),_,_,rfl,rfl,_,rfl,q⟩
theorem sM (T:Bi mg)(D:DefOk K mg "heights_hold" s_heights_hold ["web","keep","heights"])(O_is_wholes:‹2› "is_wholes" ["thing"] (spD1 K few wholesB))(O_across:‹2› "across" ["web","tie","heights"] (spAcross K)):‹3› "heights_hold" ["web","keep","heights"] (spHold K):=by
 exists 2,sc_heights_hold
 obtain⟨n,ts,ks,wv,kv,p,hs,rfl,⟨isw,ok,isk,ko⟩,ht,q⟩:=h
 have n1:=ok.n1
 have few60:=ok.few
 obtain⟨g0,g,ws,rfl,hg0,hg,hall,hlw⟩:=cD isw
 obtain⟨kp,rfl,hkp⟩:=gJ isk
 refine⟨_,(aG (aX (PW.pt (cN (cP (cI (aK O_is_wholes hr rfl (aA (pv 2) aB)))) (cX (aS rM (aQ bG rfl T.z_len (by symm) (aA (pv 2) aB)) (aJ aY (pv 0) aC (λ _ _=>rfl)) (nomark _))))) (aE (aL bP)) aV) (aE (aL (aQ (dS rfl) rfl T.z_all (by symm) (aA (bK (N:=["web","keep","heights"]) (sc0:=defScope s_heights_hold) (own:=["tie"]) (fr:=["web","heights"]) (js:=[0,2]) rfl (bW (pv 1)) (λ _ _ _ _=>(aH (i:=0) (by show uai [("tie":Str),("web":Str),("heights":Str)];decide +kernel) rfl (m9 rfl))) (λ _ _ _ _=>bU) (λ _ _ _ _=>(bC kQ (aK O_across hr rfl (aA (pv 1) (aA (pv 0) (aA (pv 2) aB)))) (aJ cW (aJ cW (aJ cW (pv 1) aC (λ _ _=>rfl)) (pv 0) (λ _ _=>rfl)) aC (λ _ _=>rfl)) (nomark _)))) aB))))),?_⟩
 refine⟨_,rfl,.tuple (hs.map .int),_,rfl,ht.is,(by show (hs.map udt).length<=1000;rw[c8];exact ht.2),λ H1 s1=>⟨_,rfl,iteB2 (λ _=>?_) (λ c=>?_)⟩⟩
 case refine_2=>rw[vN] at c;cases c
 have t1:=ht.same s1
 refine⟨_,rfl,p,_,rfl,.inr (SqT.of t1.1),_,rfl,g0,_,_,_,rfl,rfl,SqT.of (s1 _ _ hg0),rfl,rfl,_,rfl,?_⟩
 by_cases hn:hs.length=n.toNat
 case neg =>
  have ne:decide (V.int (((hs.map V.int).length:Nat):Int)=V.int n)=false:=uhc λ e=>by
   have:(((hs.map V.int).length:Nat):Int)=n:=by injection e
   rw[c8] at this
   left
  rw[ne]
  refine iteT ?_
  have q1:=q H1 s1
  have e:holdB n ts ks hs=false:=by unfold holdB;rw[uhc hn];rfl
  rw[e] at q1;exact q1
 refine iteNS (by rw[c8,hn];congr 1;left) ?_
 refine⟨_,rfl,kp,rfl,⟨_,SqT.of (s1 _ _ hkp)⟩,?_⟩
 have lk:((keepI ks).map V.int).length=ks.length:=by unfold keepI;rw[c8,c8]
 have lks:=ko.len
 refine eN (s1 _ _ hkp) (λ σ'=>∃ o,σ'=[o,some (.ref g0),some (.ref p)]) (λ i v _=>v=.bl (decide (acrossI ts hs (ks.getD i 0)<=(tieAt ts (ks.getD i 0)).2.2))) (by left) (by exact⟨none,rfl⟩) (λ _ _ _ _ _ h=>h) (λ i x σ' H' hx s2 sg C hC=>?_) (λ L ys H2 hL s2 hH hly hys=>?_)
 ·obtain⟨o,rfl⟩:=sg
  obtain⟨k,hk,rfl⟩:=iA hx
  have hkl:k<ts.length:=ko.2 k (p6 hk)
  obtain⟨ta,hta,htie⟩:=dF hall hkl
  have s12:=s1.trans s2
  have ek:ks.getD i 0=k:=by rw[a8,hk];rfl
  refine⟨_,rfl,_,rfl,_,rfl,n,ts,_,k,p,hs,rfl,Is.same s12 _ isw,ok,hkl,ht.same s12,hn,?_⟩
  refine⟨_,rfl,g0,_,_,_,rfl,rfl,SqT.of (s12 _ _ hg0),rfl,_,rfl,g,_,_,_,rfl,rfl,SqT.of (s12 _ _ hg),bQ (uat _) hta,ta,_,_,_,rfl,rfl,SqT.of (s12 _ _ htie),rfl,_,_,rfl,rfl,hC _ _ _ ⟨_,rfl⟩ (Same.refl _) ?_⟩
  rw[ek]
 ·refine⟨L,_,rfl,SqL.of (by rw[hH,dU (hly.trans lk) hys]),?_⟩
  have q1:=q H2 (s1.trans s2)
  have e:holdB n ts ks hs=((d8 ks.length).map λ i=>decide (acrossI ts hs (ks.getD i 0)<=(tieAt ts (ks.getD i 0)).2.2)).all id:=by
   unfold holdB
   rw[uha hn,ud3]
   have z:=congrArg (List.map λ k=>decide (acrossI ts hs k<=(tieAt ts k).2.2)) (L3.cC ks 0)
   rw[uaj] at z
   have z':((d8 ks.length).map λ i=>decide (acrossI ts hs (ks.getD i 0)<=(tieAt ts (ks.getD i 0)).2.2))=ks.map λ k=>decide (acrossI ts hs k<=(tieAt ts k).2.2):=z
   rw[z',ucd];rfl
  rw[e] at q1;exact q1
theorem sN (T:Bi mg)(D:DefOk K mg "heights_from" s_heights_from ["web","keep","a","roof"])(O_fars_from:‹3› "fars_from" ["web","keep","root"] (spFars K)):‹4› "heights_from" ["web","keep","a","roof"] (spHFrom K):=by
 exists 3,sc_heights_from
 obtain⟨n,ts,ks,wv,kv,a,roof,rfl,wk,a0,a1,q⟩:=h
 have n24:=wk.2.1.n24
 refine⟨_,(aE (aL (bJ dB rfl T.z_tuple (by symm) (aA (bK (N:=["web","keep","a","roof"]) (sc0:=defScope s_heights_from) (own:=["length"]) (fr:=["roof"]) (js:=[3]) rfl (fT (aK O_fars_from hr rfl (aA (pv 0) (aA (pv 1) (aA (pv 2) aB))))) (λ _ _ _ _=>(aH (i:=0) (by show uai [("length":Str),("roof":Str)];decide +kernel) rfl (m9 rfl))) (λ _ _ _ _=>bU) (λ _ _ _ _=>(nP (aS cY (pv 0) bO (nomark _)) (pv 1) (aQ (jH rfl) rfl T.z_min (by symm) (aA (pv 0) (aA (pv 1) aB)))))) aB)))),?_⟩
 refine⟨_,rfl,_,rfl,_,rfl,n,ts,ks,wv,kv,a,rfl,wk,a0,a1,λ l DD J S f1 e1 lD hD=>?_⟩
 refine⟨l,rfl,⟨_,SqL.of e1⟩,?_⟩
 refine gU e1 (λ σ'=>∃ o,σ'=[o,some (.int roof)]) (λ i v _=>v=.int (capO roof (Far.get DD i))) (by rw[c8];left) (by exact⟨none,rfl⟩) (λ _ _ _ _ _ h=>h) (λ i x σ' H' hx s2 sg C hC=>?_) (λ L ys H2 hL s2 hH hly hys=>?_)
 ·obtain⟨o,rfl⟩:=sg
  have hi:i<DD.length:=by have:=(j7.mp hx).1;rw[c8] at this;exact this
  rw[gB hi] at hx
  cases hx
  refine⟨_,rfl,rfl,_,rfl,?_⟩
  cases e:Far.get DD i with
  | none=>exact iteT ⟨_,rfl,hC _ _ _ ⟨_,rfl⟩ (Same.refl _) (by rw[e];rfl)⟩
  | some x=>exact iteF ⟨_,rfl,_,rfl,_,_,rfl,hC _ _ _ ⟨_,rfl⟩ (Same.refl _) (by rw[e];rfl)⟩
 ·have lY:ys.length=DD.length:=by rw[hly,c8]
  refine⟨L,_,rfl,hH,λ t J2 S2 f2 e2=>q t DD J2 (S.trans (s2.trans S2)) ?_ lD hD⟩
  rw[e2]
  refine congrArg (λ z=>some (HO.tup z)) (ub3 λ i=>?_)
  by_cases hi:i<DD.length
  ·have e:ys[i]?=some ys[i]:=c7 (by left)
   rw[e,hys i _ e,i8,i8,c7 hi]
   unfold Far.get
   rw[a8,c7 hi];rfl
  ·rw[r6 (by left),r6 (by rw[c8,c8];left)]
theorem zaq (T:Bi mg)(D:DefOk K mg "whole" s_whole ["web"]):‹1› "whole" ["web"] (spWhole K):=by
 exists 0,sc_whole
 obtain⟨n,ts,v,rfl,hw,few60,q⟩:=h
 obtain⟨g0,g,ws,rfl,hg0,hg,hall,hlw⟩:=cD hw
 refine⟨_,(aE (aL (bJ (kY rfl) rfl T.z_tuple (by symm) (aA (bJ iZ rfl T.z_range (by symm) (aA (aQ bG rfl T.z_len (by symm) (aA (aJ aY (pv 0) aC (λ _ _=>rfl)) aB)) aB)) aB)))),?_⟩
 refine⟨_,rfl,g0,_,_,_,rfl,rfl,SqT.of hg0,rfl,g,_,rfl,.inr (SqT.of hg),_,rfl,λ r hr'=>?_⟩
 refine⟨r,_,rfl,aO,by left,by left,λ l H' S f e=>q l H' ((aT hr').trans S) ((aT (o:=.rng 0 _) hr').free f) ?_⟩
 rw[e,show ((ws.length:Nat):Int).toNat=ts.length by left]
inductive spWH_i (K:b8)(vs:List V)(H:Hp)(Q:VK):Prop
 | mk:∀ (n:Int)(ts:List Tie)(wv:V)(r:Nat),(vs=[wv,.int (r:Int)])->(Is K H (webD n ts) wv)->(WebOk n ts)->(r<n.toNat)->(∀ p H',Same H H'->H' p=some (.tup ((htP n ts r).map V.int))->Q (.ref p) H')->spWH_i K vs H Q
def spWH (K:b8):Sp:=λ vs H Q _=>spWH_i K vs H Q
theorem sX (T:Bi mg)(D:DefOk K mg "web_heights" s_web_heights ["web","place"])(O_heights_from:‹4› "heights_from" ["web","keep","a","roof"] (spHFrom K))(O_whole:‹4› "whole" ["web"] (spWhole K)):‹5› "web_heights" ["web","place"] (spWH K):=by
 exists 4,sc_web_heights
 obtain⟨n,ts,wv,r,rfl,isw,ok,hr_,q⟩:=h
 have few60:=ok.few
 refine⟨_,(aE (aL (aK O_heights_from hr rfl (aA (pv 0) (aA (aK O_whole hr rfl (aA (pv 0) aB)) (aA (pv 1) (aA (aM cA aC aC) aB))))))),?_⟩
 refine⟨_,rfl,_,rfl,n,ts,wv,rfl,isw,few60,λ lk J1 S1 f1 e1=>?_⟩
 refine⟨_,rfl,_,_,rfl,rfl,⟨by decide,by decide,by decide⟩,n,ts,d8 ts.length,wv,.ref lk,(r:Int),10^20,rfl,⟨Is.same S1 _ isw,ok,eJ e1,bR ts⟩,by left,by left,λ p DD J2 S2 e2 lD hD=>?_⟩
 rw[v5] at hD
 have eD:=zd7 ok lD hD
 subst eD
 exact q p J2 (S1.trans S2) e2
inductive spTOW_i (K:b8)(vs:List V)(H:Hp)(Q:VK):Prop
 | mk:∀ (n:Int)(ts:List Tie)(wv:V)(p:l7)(ys:List V)(os:List (Option (List Nat))),(vs=[wv,.ref p])->(Is K H (webD n ts) wv)->(WebOk n ts)->(H p=some (.tup ys))->(ys.length=os.length)->(ys.length<=30)->((∀ (i:Nat)(o:Option (List Nat))(v:V),os[i]?=some o->ys[i]?=some v->WyV H ts o v))->(∀ t H',Same H H'->H' t=some (.tup (natV (twK ts os)))->Q (.ref t) H')->spTOW_i K vs H Q
def spTOW (K:b8):Sp:=λ vs H Q _=>spTOW_i K vs H Q
theorem sJ (T:Bi mg)(D:DefOk K mg "ties_of_ways" s_ties_of_ways ["web","ways"])(O_ties_along:‹2› "ties_along" ["web","places"] (spAlongW K)):‹3› "ties_of_ways" ["web","ways"] (spTOW K):=by
 exists 2,sc_ties_of_ways
 obtain⟨n,ts,wv,p,ys,os,rfl,isw,ok,hp,leq,l30,hos,q⟩:=h
 have few60:=ok.few
 refine⟨_,(aG (aR (i:=2) nd rfl (m9 rfl) (bV aB)) (aG (bL PassesOwn.never rfl (bW (pv 1)) (aH (i:=3) nd rfl (m9 rfl)) (aE (aX (aS pK (pv 3) bO (nomark _)) (aE (dW (dP ubb ugf uge wX (pv 2) (aA (aK O_ties_along hr rfl (aA (pv 0) (aA (pv 3) aB))) aB)))) aV))) (aE (aL (bJ dB rfl T.z_tuple (by symm) (aA (aQ (vA rfl) rfl T.z_sorted (by symm) (aA (bJ (xH rfl) rfl T.z_set (by symm) (aA (pv 2) aB)) aB)) aB)))))),?_⟩
 refine⟨(by show 0<=1000;decide),λ lf J1 S1 f1 e1=>?_⟩
 have vof:∀ i o,os[i]?=some o->∃ v,ys[i]?=some v/\WyV H ts o v:=λ i o e=>by
  have hi:=(j7.mp e).1
  have ev:ys[i]?=some ys[i]:=c7 (by left)
  exact⟨_,ev,hos i o _ e ev⟩
 have lt:∀ k∈os.flatMap (awN ts),k<ts.length:=λ k hk=>by
  obtain⟨o,ho,hk⟩:=ucb.mp hk
  obtain⟨i,hi⟩:=uc1.mp ho
  obtain⟨v,_,wy⟩:=vof i o hi
  exact (kS wy).1 k hk
 have fl:∀ i,((os.take i).flatMap (awN ts)).length<=690:=λ i=>by
  have h1:=oA (f:=awN ts) (m:=23) (os.take i) λ o ho=>by
   obtain⟨j,hj⟩:=uc1.mp (uc7 ho)
   obtain⟨v,_,wy⟩:=vof j o hj
   exact (kS wy).2
  have h2:(os.take i).length<=30:=by rw[u5];left
  have h3:=Nat.mul_le_mul_right 23 h2
  left
 refine⟨_,rfl,p,rfl,⟨_,SqT.of (S1 _ _ hp)⟩,?_⟩
 refine fU (xs:=ys) (λ i σ J=>∃ y3:Option V,σ=[some wv,some (.ref p),some (.ref lf),y3]/\But lf J1 J/\J lf=some (.lst (natV ((os.take i).flatMap (awN ts))))) ⟨none,rfl,But.refl,e1⟩ (λ i σ J _ h=>?_) (λ i x σ J hx h=>?_) (λ σ J h=>?_)
 ·obtain⟨y3,rfl,bt,_⟩:=h
  exact SqT.of (bt _ _ (bB hp f1) (S1 _ _ hp))
 ·obtain⟨y3,rfl,bt,hf⟩:=h
  have hi:=(j7.mp hx).1
  have ho:os[i]?=some os[i]:=c7 (by left)
  have wy:=hos i _ _ ho hx
  have tn:os.take (i+1)=os.take i++[os[i]]:=by rw[uen,ho];rfl
  have sm:Same H J:=λ b o e=>bt _ _ (bB e f1) (S1 _ _ e)
  have l1:=fl i
  have l2:=(kS wy).2
  generalize os[i]=o at wy tn l2
  rcases wy with ⟨rfl,rfl⟩ | ⟨t,ws,rfl,rfl,ht,l24,lk⟩
  ·refine⟨_,rfl,rfl,_,rfl,iteF ⟨_,rfl,bt,?_⟩⟩
   rw[hf,tn,ubl]
   show _=some (HO.lst (natV (_++[])))
   rw[uay]
  ·refine⟨_,rfl,rfl,_,rfl,iteT ⟨_,rfl,.inl ⟨rfl,_,SqL.of hf⟩,_,rfl,_,rfl,n,ts,wv,t,ws,rfl,Is.same sm _ isw,few60,sm _ _ ht,by left,lk,λ l4 J4 S4 e4=>?_⟩⟩
   refine⟨lf,l4,_,_,rfl,rfl,S4 _ _ hf,e4,by rw[cR,cR];change (alongN ts ws).length<=23 at l2;left,λ J5 b5 e5=>⟨_,rfl,λ b o z e=>b5 _ _ z (S4 _ _ (bt _ _ z e)),?_⟩⟩
   rw[e5,tn,ubl,vZ]
   show _=some (HO.lst (_++natV (alongN ts ws++[])))
   rw[uay]
 ·obtain⟨y3,rfl,bt,hf⟩:=h
  have l1:=fl os.length
  rw[leq,udz] at hf
  rw[udz] at l1
  have sm:Same H J:=λ b o e=>bt _ _ (bB e f1) (S1 _ _ e)
  have mfu:=oV lt
  obtain⟨fu,efu⟩:∃ fu,fu=os.flatMap (awN ts):=⟨_,rfl⟩
  rw[← efu] at hf l1 lt mfu
  have few:=zah (ns:=keepI fu) (m:=60) λ x hx=>by
   obtain⟨c,hc,rfl⟩:=uau.mp hx
   have:=lt c hc
   left
  rw[cJ] at hf
  refine⟨_,rfl,lf,keepI fu,rfl,hf,by unfold keepI;rw[c8];left,λ q1 J2 S2 f2 e2=>⟨q1,_,_,rfl,e2,by left,λ ms m1 m2 m3 l3 J3 S3 f3 e3=>⟨l3,_,rfl,e3,λ t J4 S4 f4 e4=>?_⟩⟩⟩
  rw[vQ m1 m2 m3 (cK ts os).1 mfu] at e4
  exact q t J4 (sm.trans (S2.trans (S3.trans S4))) e4
noncomputable def wysN (ts:List Tie)(prs:List (Nat × Nat)):List (Option (List Nat)):=prs.map λ p=>wyN ts p.1 p.2
structure PtV (n:Int)(ts:List Tie)(prs:List (Nat × Nat))(t ta tb tc:l7)(ys zs:List V)(H':Hp):Prop where
 e:H' t=some (.tup [.ref ta,.ref tb,.ref tc])
 ea:H' ta=some (.tup (natV (twK ts (wysN ts prs))))
 eb:H' tb=some (.tup ys)
 ec:H' tc=some (.tup zs)
 ly:ys.length=prs.length
 lz:zs.length=prs.length
 wy:∀ (i:Nat)(pr:Nat × Nat)(v:V),prs[i]?=some pr->ys[i]?=some v->WyV H' ts (wyN ts pr.1 pr.2) v
 hz:∀ (i:Nat)(pr:Nat × Nat)(v:V),prs[i]?=some pr->zs[i]?=some v->∃ a,v=.ref a/\H' a=some (.tup ((htP n ts pr.1).map V.int))
def PrsOk (n:Int)(prs:List (Nat × Nat)):Prop:=prs.length<=30/\∀ pr∈prs,pr.1<n.toNat/\pr.2<n.toNat
inductive spPT_i (K:b8)(vs:List V)(H:Hp)(Q:VK):Prop
 | mk:∀ (n:Int)(ts:List Tie)(wv:V)(p:l7)(ps:List V)(prs:List (Nat × Nat)),(vs=[wv,.ref p])->(Is K H (webD n ts) wv)->(WebOk n ts)->(H p=some (.tup ps))->(IsAll K H (prs.map prD) ps)->(PrsOk n prs)->(∀ t ta tb tc ys zs H',Same H H'->PtV n ts prs t ta tb tc ys zs H'->Q (.ref t) H')->spPT_i K vs H Q
def spPT (K:b8):Sp:=λ vs H Q _=>spPT_i K vs H Q
theorem uA (T:Bi mg)(D:DefOk K mg "pairs_told" s_pairs_told ["web","pairs"])(O_the_way:‹5› "the_way" ["web","keep","a","b"] (spWayM K))(O_whole:‹5› "whole" ["web"] (spWhole K))(O_web_heights:‹5› "web_heights" ["web","place"] (spWH K))(O_ties_of_ways:‹5› "ties_of_ways" ["web","ways"] (spTOW K)):‹6› "pairs_told" ["web","pairs"] (spPT K):=by
 exists 5,sc_pairs_told
 obtain⟨n,ts,wv,p,ps,prs,rfl,isw,ok,hp,hps,⟨l30,hpr⟩,q⟩:=h
 have few60:=ok.few
 have lps:ps.length=prs.length:=by rw[hps.length,c8]
 refine⟨_,(aG (aR (i:=2) nd rfl (m9 rfl) (bJ dB rfl T.z_tuple (by symm) (aA (bK (N:=["web","pairs","ways","heights"]) (sc0:=defScope s_pairs_told) (own:=["a","b"]) (fr:=["web"]) (js:=[0]) rfl (bW (pv 1)) (λ _ _ _ _=>(dJ (n:=2) rfl (aP (aH (i:=0) (by show uai [("a":Str),("b":Str),("web":Str)];decide +kernel) rfl (m9 rfl)) (aP (aH (i:=1) (by show uai [("a":Str),("b":Str),("web":Str)];decide +kernel) rfl (m9 rfl)) bD)))) (λ _ _ _ _=>bU) (λ _ _ _ _=>(aK O_the_way hr rfl (aA (pv 2) (aA (aK O_whole hr rfl (aA (pv 2) aB)) (aA (pv 0) (aA (pv 1) aB))))))) aB))) (aG (aR (i:=3) nd rfl (m9 rfl) (bJ dB rfl T.z_tuple (by symm) (aA (bK (N:=["web","pairs","ways","heights"]) (sc0:=defScope s_pairs_told) (own:=["a","b"]) (fr:=["web"]) (js:=[0]) rfl (bW (pv 1)) (λ _ _ _ _=>(dJ (n:=2) rfl (aP (aH (i:=0) (by show uai [("a":Str),("b":Str),("web":Str)];decide +kernel) rfl (m9 rfl)) (aP (aH (i:=1) (by show uai [("a":Str),("b":Str),("web":Str)];decide +kernel) rfl (m9 rfl)) bD)))) (λ _ _ _ _=>bU) (λ _ _ _ _=>(aK O_web_heights hr rfl (aA (pv 2) (aA (pv 0) aB))))) aB))) (aE (aL (bY (aA (aK O_ties_of_ways hr rfl (aA (pv 0) (aA (pv 2) aB))) (aA (pv 2) (aA (pv 3) aB)))))))),?_⟩
 refine⟨_,rfl,p,rfl,⟨_,SqT.of hp⟩,?_⟩
 refine eN hp (λ σ'=>∃ o1 o2,σ'=[o1,o2,some wv]) (λ i v J=>WyV J ts (wyN ts (prs.getD i (0,0)).1 (prs.getD i (0,0)).2) v) (by left) (by exact⟨none,none,rfl⟩) (λ i v J J' k h=>h.tk k) (λ i x σ' H' hx s2 sg C hC=>?_) (λ L ys J1 hL S1 hH hly hys=>?_)
 ·obtain⟨o1,o2,rfl⟩:=sg
  obtain⟨pr,t,hpi,rfl,ht⟩:=iO (IsAll.same s2 _ hps) hx
  have er:prs.getD i (0,0)=pr:=by rw[a8,hpi];rfl
  rw[er] at hC
  have:=hpr pr (p6 hpi)
  refine⟨t,_,rfl,SqT.of ht,rfl,_,_,rfl,_,_,rfl,rfl,?_⟩
  refine⟨_,rfl,_,rfl,n,ts,wv,rfl,Is.same s2 _ isw,few60,λ lk J2 S2 f2 e2=>?_⟩
  refine⟨_,rfl,_,rfl,n,ts,d8 ts.length,wv,.ref lk,_,_,rfl,⟨Is.same (s2.trans S2) _ isw,ok,eJ e2,bR ts⟩,by left,by left,by left,by left,λ v J3 S3 hv=>hC _ _ _ ⟨_,_,rfl⟩ (S2.trans S3) ?_⟩
  rw[v5,v5] at hv
  exact zec ok hv
 refine⟨L,_,rfl,hH,λ tb J2 S2 f2 e2=>?_⟩
 have S02:=S1.trans S2
 have hp2:=S02 _ _ hp
 refine⟨_,rfl,p,rfl,⟨_,SqT.of hp2⟩,?_⟩
 refine eN hp2 (λ σ'=>∃ o1 o2,σ'=[o1,o2,some wv]) (λ i v J=>∃ a,v=.ref a/\J a=some (.tup ((htP n ts (prs.getD i (0,0)).1).map V.int))) (by left) (by exact⟨none,none,rfl⟩) (λ i v J J' k h=>by obtain⟨a,e1,e2⟩:=h;exact⟨a,e1,k _ _ e2⟩) (λ i x σ' H' hx s2 sg C hC=>?_) (λ L2 zs J3 hL2 S3 hH2 hlz hzs=>?_)
 ·obtain⟨o1,o2,rfl⟩:=sg
  obtain⟨pr,t,hpi,rfl,ht⟩:=iO (IsAll.same (S02.trans s2) _ hps) hx
  have er:prs.getD i (0,0)=pr:=by rw[a8,hpi];rfl
  rw[er] at hC
  have:=hpr pr (p6 hpi)
  refine⟨t,_,rfl,SqT.of ht,rfl,_,_,rfl,_,_,rfl,rfl,?_⟩
  exact⟨_,rfl,_,rfl,n,ts,wv,pr.1,rfl,Is.same (S02.trans s2) _ isw,ok,this.1,λ p5 H5 S5 e5=>hC _ _ _ ⟨_,_,rfl⟩ S5 ⟨p5,rfl,e5⟩⟩
 refine⟨L2,_,rfl,hH2,λ tc J4 S4 f4 e4=>?_⟩
 have S24:=S3.trans S4
 have wys:∀ (i:Nat)(pr:Nat × Nat)(v:V),prs[i]?=some pr->ys[i]?=some v->WyV J4 ts (wyN ts pr.1 pr.2) v:=λ i pr v h1 h2=>by
  have:=hys i v h2
  rw[a8,h1] at this
  exact (this.same S2).same S24
 have ly:ys.length=prs.length:=by left
 refine⟨_,rfl,_,rfl,n,ts,wv,tb,ys,wysN ts prs,rfl,Is.same (S02.trans S24) _ isw,ok,S24 _ _ e2,by unfold wysN;rw[c8,ly],by left,λ i o v ho hv=>?_,λ ta J5 S5 e5=>?_⟩
 ·unfold wysN at ho
  rw[i8] at ho
  obtain⟨pr,h1,rfl⟩:=u7.mp ho
  exact wys i pr v h1 hv
 refine⟨_,rfl,_,rfl,(by show 3<=1000;decide),λ t J6 S6 f6 e6=>?_⟩
 have S46:=S5.trans S6
 refine q t ta tb tc ys zs J6 (S02.trans (S24.trans S46)) ⟨e6,S6 _ _ e5,S46 _ _ (S24 _ _ e2),S46 _ _ e4,ly,by left,λ i pr v h1 h2=>(wys i pr v h1 h2).same S46,λ i pr v h1 h2=>?_⟩
 obtain⟨a,e,z⟩:=hzs i v h2
 rw[a8,h1] at z
 exact⟨a,e,S46 _ _ (S4 _ _ z)⟩
inductive spLPairs_i (K:b8)(vs:List V)(H:Hp)(Q:VK):Prop
 | mk:∀ (p:l7)(n:Int),(vs=[.ref p,.int n])->(Pot H p)->(1<=n)->(n<=24)->(∀ t ps prs H',But p H H'->Pot H' p->H' t=some (.tup ps)->IsAll K H' (prs.map prD) ps->PrsOk n prs->Q (.ref t) H')->spLPairs_i K vs H Q
def spLPairs (K:b8):Sp:=λ vs H Q _=>spLPairs_i K vs H Q
theorem jT:∀ prs:List (Nat × Nat),tupAll (prs.map prD)=true:=λ prs=>by
 induction prs with
 | nil=>rfl
 | cons x r ih=>show (tupD (prD x)&&tupAll (r.map prD))=true;rw[ih];rfl
theorem sO (T:Bi mg)(D:DefOk K mg "_law_pairs" s__law_pairs ["pot","n"])(O__law_take:‹1› "_law_take" ["pot","many"] spTake):‹2› "_law_pairs" ["pot","n"] (spLPairs K):=by
 exists 1,sc__law_pairs
 obtain⟨p,n,rfl,hp,n1,n24,q⟩:=h
 refine⟨_,(aG (aR (i:=2) nd rfl (m9 rfl) (aK O__law_take hr rfl (aA (pv 0) (aA aC aB)))) (aG (aR (i:=3) nd rfl (m9 rfl) (aJ aZ (bV (aA aC (aA aC (aA aC (aA aC (aA aC aB)))))) (pv 2) (λ _ _=>rfl))) (aG (aR (i:=4) nd rfl (m9 rfl) (aK O__law_take hr rfl (aA (pv 0) (aA (pv 1) aB)))) (aG (aR (i:=5) nd rfl (m9 rfl) (bV aB)) (aG (bL PassesOwn.never rfl (dQ rfl T.z_range (aA (pv 1) aB)) (aH (i:=6) nd rfl (m9 rfl)) (aE (bL PassesOwn.never rfl (yI rfl T.z_range (aA (aM cB (pv 6) aC) (aA (pv 1) aB))) (aH (i:=7) nd rfl (m9 rfl)) (aE (aX (PW.pt (kI (aS cQ (pv 2) aC (nomark _)) (kI (aS bE (aK O__law_take hr rfl (aA (pv 0) (aA (pv 3) aB))) aC (nomark _)) (pF (PW.pt (cN (aS cO (pv 2) aC (nomark _)) (cN (aS bE (pv 4) (pv 6) (nomark _)) (cX (aS bE (pv 4) (pv 7) (nomark _)))))))))) (aE (dW (dP ubb ucg ucf iW (pv 5) (aA (bY (aA (pv 6) (aA (pv 7) aB))) aB)))) aV))))) (aE (aL (bJ dB rfl T.z_tuple (by symm) (aA (cT zb2 (pv 5) cV (cU aC)) aB))))))))),?_⟩
 refine⟨_,rfl,p,5,rfl,hp,by decide,by decide,λ way H1 w0 w1 b1 p1=>?_⟩
 obtain⟨x,ex,x0,x24⟩:∃ x:Int,atI [V.int 1,.int 4,.int 2,.int 1,.int 1] way=some (.int x)/\1<=x/\x<=4:=by
  have:way=0\/way=1\/way=2\/way=3\/way=4:=by left
  rcases this with rfl | rfl | rfl | rfl | rfl
  ·exact⟨1,rfl,by decide,by decide⟩
  ·exact⟨4,rfl,by decide,by decide⟩
  ·exact⟨2,rfl,by decide,by decide⟩
  ·exact⟨1,rfl,by decide,by decide⟩
  ·exact⟨1,rfl,by decide,by decide⟩
 refine⟨(by show 5<=1000;decide),λ l0 J0 S0 f0 e0=>⟨_,rfl,l0,_,_,_,rfl,rfl,SqL.of e0,ex,?_⟩⟩
 refine⟨_,rfl,_,rfl,p,n,rfl,p1.same S0,by left,by left,λ one H2 o0 o1 b2 p2=>?_⟩
 refine⟨(by show 0<=1000;decide),λ lf J1 S1 f1 e1=>?_⟩
 have bH:But p H J1:=b1.trans ((Same.but S0).trans (b2.trans (Same.but S1)))
 have fH2:∀ b o,b≠p->H b=some o->b≠lf:=λ b o hb e z=>by
  have:=(b1.trans ((Same.but S0).trans b2)) _ _ hb e
  rw[z,f1] at this;cases this
 have nlp:lf≠p:=λ z=>by
  obtain⟨xs,e⟩:=p2.lst
  rw[z,e] at f1;cases f1
 refine⟨_,rfl,n,rfl,by left,by left,?_⟩
 refine dD (n:=n.toNat) (λ i σ J=>∃ (ys:List V)(prs:List (Nat × Nat))(y6 y7:Option V),σ=[some (.ref p),some (.int n),some (.int way),some (.int x),some (.int one),some (.ref lf),y6,y7]/\But p H J/\Pot J p/\J lf=some (.lst ys)/\IsAll K J (prs.map prD) ys/\prs.length<=24*i/\∀ pr∈prs,pr.1<n.toNat/\pr.2<n.toNat) ⟨[],[],none,none,rfl,bH,p2.same S1,e1,rfl,h9 _,λ _ h=>(by cases h)⟩ (λ i σ J hi h=>?_) (λ σ J h=>?_)
 ·obtain⟨ys,prs,y6,y7,rfl,bt,pt,hf,hall,lp,hpr⟩:=h
  refine⟨_,rfl,_,_,rfl,rfl,_,rfl,_,_,rfl,⟨by left,by left,by left,by left⟩,?_⟩
  refine dD (n:=(n-(0+(i:Int)+1)).toNat) (λ j σ J=>∃ (ys:List V)(prs:List (Nat × Nat))(y7:Option V),σ=[some (.ref p),some (.int n),some (.int way),some (.int x),some (.int one),some (.ref lf),some (.int (0+(i:Int))),y7]/\But p H J/\Pot J p/\J lf=some (.lst ys)/\IsAll K J (prs.map prD) ys/\prs.length<=24*i+j/\∀ pr∈prs,pr.1<n.toNat/\pr.2<n.toNat) ⟨ys,prs,_,rfl,bt,pt,hf,hall,lp,hpr⟩ (λ j σ J hj h=>?_) (λ σ J h=>?_)
  ·clear hall hf bt pt lp hpr
   obtain⟨ys,prs,y7,rfl,bt,pt,hf,hall,lp,hpr⟩:=h
   have lys:ys.length=prs.length:=by rw[hall.length,c8]
   apply brJ (A:=λ (J:Hp)=>But p H J/\Pot J p/\J lf=some (.lst ys)/\IsAll K J (prs.map prD) ys)
   case main =>
    intro tail
    refine⟨_,rfl,_,_,rfl,rfl,_,rfl,ite2 (λ c=>?_) (λ c=>?_)⟩
    ·refine⟨_,rfl,_,rfl,p,x,rfl,pt,by left,by left,λ r J2 r0 r1 b2 p2=>⟨rfl,_,rfl,ite2 (λ c=>?_) (λ c=>?_)⟩⟩
     ·obtain⟨xsp,exp⟩:=pt.lst
      have st:=(⟨bt.trans b2,p2,b2 _ _ nlp hf,IsAll.but b2 exp _ (jT _) hall⟩:But p H J2/\Pot J2 p/\J2 lf=some (.lst ys)/\IsAll K J2 (prs.map prD) ys)
      refine⟨_,rfl,_,_,rfl,rfl,_,rfl,ite2 (λ c=>?_) (λ c=>?_)⟩
      ·exact iteT (tail J2 st)
      ·refine⟨_,rfl,_,rfl,rfl,_,rfl,ite2 (λ c=>?_) (λ c=>?_)⟩
       ·exact iteT (tail J2 st)
       ·refine⟨_,rfl,_,rfl,rfl,_,rfl,ite2 (λ c=>?_) (λ c=>?_)⟩
        ·exact tail J2 st
        ·exact⟨ys,prs,_,rfl,st.1,st.2.1,st.2.2.1,st.2.2.2,by left,hpr⟩
     ·obtain⟨xsp,exp⟩:=pt.lst
      exact⟨ys,prs,_,rfl,bt.trans b2,p2,b2 _ _ nlp hf,IsAll.but b2 exp _ (jT _) hall,by left,hpr⟩
    ·exact⟨ys,prs,_,rfl,bt,pt,hf,hall,by left,hpr⟩
   case tail =>
   rintro J2 ⟨bt,pt,hf,hall⟩
   refine⟨_,rfl,.inl ⟨rfl,_,SqL.of hf⟩,_,rfl,_,rfl,(by show 2<=1000;decide),λ t J3 S3 f3 e3=>⟨lf,_,_,rfl,rfl,S3 _ _ hf,by left,λ J4 b4 e4=>?_⟩⟩
   have tlf:t≠lf:=λ z=>by rw[z,hf] at f3;cases f3
   refine⟨_,prs++[(i,i+1+j)],_,rfl,λ b o hb e=>b4 _ _ (fH2 b o hb e) (S3 _ _ (bt _ _ hb e)),?_,e4,?_,by rw[i6,t6];left,λ pr h=>?_⟩
   ·obtain⟨a',b',e',z⟩:=pt
    exact⟨a',b',b4 _ _ nlp.symm (S3 _ _ e'),z⟩
   ·rw[ubs]
    refine IsAll.append (IsAll.but b4 (S3 _ _ hf) _ (jT _) (IsAll.same S3 _ hall)) ⟨_,_,rfl,⟨t,_,rfl,b4 _ _ tlf e3,?_⟩,rfl⟩
    have:=IsAll.ints (K:=K) (H:=J4) [((i:Nat):Int),((i+1+j:Nat):Int)]
    rw[show (0:Int)+(i:Int)=((i:Nat):Int) by left,show ((i:Nat):Int)+1+(j:Int)=((i+1+j:Nat):Int) by left]
    exact this
   ·rcases u4.mp h with h | h
    ·exact hpr pr h
    ·rw[k8.mp h];exact⟨hi,by show i+1+j<n.toNat;left⟩
  ·obtain⟨ys,prs,y7,rfl,bt,pt,hf,hall,lp,hpr⟩:=h
   exact⟨ys,prs,_,_,rfl,bt,pt,hf,hall,by left,hpr⟩
 ·obtain⟨ys,prs,y6,y7,rfl,bt,pt,hf,hall,lp,hpr⟩:=h
  refine⟨_,rfl,_,rfl,lf,_,rfl,SqL.of hf,λ p2 hp2=>⟨p2,_,rfl,aO,λ t J3 S3 f3 e3=>?_⟩⟩
  have S:=(aT hp2).trans S3
  have ec:cutV ys none (some 30)=ys.take 30:=kD ys 30
  rw[ec] at e3
  refine q t _ (prs.take 30) J3 (bt.trans (Same.but S)) (pt.same S) e3 ?_ ⟨by rw[u5];left,λ pr h=>hpr pr (uc7 h)⟩
  have l:=hall.length
  refine IsAll.of (by rw[u5,c8,u5,l,c8]) λ i d v hd hv=>?_
  rw[i8,ued] at hd
  rw[ued] at hv
  by_cases z:i<30
  ·rw[uhd z] at hd hv
   obtain⟨d',h1,h2⟩:=IsAll.from_ (IsAll.same S _ hall) hv
   rw[i8,hd] at h1
   cases h1
   exact h2
  ·rw[uhe z] at hv;cases hv
inductive spOut_i  (vs:List V) (H:Hp) (Q:VK):Prop
 | mk:∀ (x:Int),(vs=[.int x])->(Q (.bl (decide (10^20<=x))) H)->spOut_i vs H Q
def spOut :Sp:=λ vs H Q _=>spOut_i vs H Q
theorem sK (T:Bi mg)(D:DefOk K mg "out_of_reach" s_out_of_reach ["height"]):‹1› "out_of_reach" ["height"] spOut:=by
 exists 0,sc_out_of_reach
 obtain⟨x,rfl,q⟩:=h
 refine⟨_,(aE (aL (bC zef (pv 0) (aM cA aC aC) (nomark _)))),?_⟩
 exact⟨_,rfl,_,_,rfl,rfl,⟨by decide,by decide,by decide⟩,_,_,rfl,rfl,q⟩
theorem rP {hs:List Int}{v:Nat}(h:v<hs.length):atI (hs.map V.int) (v:Int)=some (.int (hN hs v)):=bQ (uat _) (by rw[v5,i8,c7 h];unfold hN;rw[a8,c7 h];rfl)
inductive spShare50_i  (vs:List V) (H:Hp) (Q:VK):Prop
 | mk:∀ (a b:Option (List Nat))(x y:V),(vs=[x,y])->(OpV H a x)->(OpV H b y)->(∀ l H',Same H H'->H l=none->H' l=some (.lst (natV (shN a b)))->Q (.ref l) H')->spShare50_i vs H Q
def spShare50 :Sp:=λ vs H Q _=>spShare50_i vs H Q
theorem uR (T:Bi mg)(D:DefOk K mg "shared_by" s_shared_by ["one","other"]):‹1› "shared_by" ["one","other"] spShare50:=by
 exists 0,sc_shared_by
 obtain⟨a,b,x,y,rfl,ha,hb,q⟩:=h
 have nil:∀ l H',Same H H'->H l=none->H' l=some (.lst [])->shN a b=[]->Q (.ref l) H':=λ l H' S f e z=>q l H' S f (by rw[z];exact e)
 refine⟨_,(aG (aX (PW.pt (cN (aS cY (pv 0) bO (nomark _)) (cX (aS cY (pv 1) bO (nomark _))))) (aE (aL (bV aB))) aV) (aE (aL (bK (N:=["one","other"]) (sc0:=defScope s_shared_by) (own:=["place"]) (fr:=["other"]) (js:=[1]) rfl (bW (pv 0)) (λ _ _ _ _=>(aH (i:=0) (by show uai [("place":Str),("other":Str)];decide +kernel) rfl (m9 rfl))) (λ _ _ _ _=>(jW (aS iV (pv 0) (pv 1) (by with_unfolding_all rfl)))) (λ _ _ _ _=>(pv 0)))))),?_⟩
 rcases ha with ⟨rfl,rfl⟩ | ⟨ta,wa,rfl,rfl,ea,la⟩
 ·exact⟨_,rfl,rfl,_,rfl,iteT ⟨(by show 0<=1000;decide),λ l J S f e=>nil l J S f e rfl⟩⟩
 refine⟨_,rfl,rfl,_,rfl,iteF ?_⟩
 rcases hb with ⟨rfl,rfl⟩ | ⟨tb,wb,rfl,rfl,eb,lb⟩
 ·exact⟨_,rfl,rfl,_,rfl,iteT ⟨(by show 0<=1000;decide),λ l J S f e=>nil l J S f e rfl⟩⟩
 refine⟨_,rfl,rfl,_,rfl,iteF ?_⟩
 refine⟨_,rfl,ta,rfl,⟨_,SqT.of ea⟩,?_⟩
 have lN:=cR wa
 refine jG ea (λ σ'=>∃ o,σ'=[o,some (.ref tb)]) (λ i=>if wb.contains (wa.getD i 0)=true then some (V.int ((wa.getD i 0:Nat):Int)) else none) (by left) (by exact⟨none,rfl⟩) (λ i x σ' H' hx s2 sg C L hC hL=>?_) (λ L H2 hL S3 hH=>?_)
 ·obtain⟨o,rfl⟩:=sg
  obtain⟨k,hk,rfl⟩:=cZ hx
  have ek:wa.getD i 0=k:=by rw[a8,hk];rfl
  rw[ek] at hC hL
  refine⟨_,rfl,_,rfl,tb,_,rfl,.inr (SqT.of (s2 _ _ eb)),rfl,nY _,_,rfl,?_⟩
  show if (inV (V.int (k:Int)) (natV _))=true then _ else _
  rw[pR (by left),v5]
  refine ite2 (λ c=>⟨_,rfl,hC _ _ _ ⟨_,rfl⟩ (Same.refl _) (by rw[uhd (by rw[List.contains_eq_mem];exact c)])⟩) (λ c=>hL _ _ ⟨_,rfl⟩ (Same.refl _) (by rw[uhe (by rw[List.contains_eq_mem];exact c)]))
 ·rw[lN,nJ (λ k=>wb.contains k)] at hH
  exact q L H2 S3 hL hH
theorem zQ (z:Nat)(t:List Nat):atI (natV (z::t)) (-1)=some (V.int (((z::t).getLast (by simp):Nat):Int)):=by
 unfold atI ixN
 rw[uhe (by decide),uhd (by rw[cR,l6];left)]
 show (natV (z::t))[(-1+((natV (z::t)).length:Int)).toNat]?=_
 rw[cR,l6,show (-1+((t.length+1:Nat):Int)).toNat=t.length by left]
 unfold natV
 rw[i8,List.getLast_eq_getElem,c7 (by rw[l6];left)]
 rfl
inductive spPart50_i (K:b8)(vs:List V)(H:Hp)(Q:VK):Prop
 | mk:∀ (p:l7)(ys:List V)(os:List (Option (List Nat))),(vs=[.ref p])->(H p=some (.tup ys))->(OpsV H os ys)->(os.length<=30)->(∀ t vs ks H',Same H H'->H' t=some (.tup vs)->IsAll K H' (ks.map tupH) vs->ks.Perm (pgP os os.length)->SrK ks->Q (.ref t) H')->spPart50_i K vs H Q
def spPart50 (K:b8):Sp:=λ vs H Q _=>spPart50_i K vs H Q
theorem vU (T:Bi mg)(D:DefOk K mg "partings" s_partings ["ways"])(O_shared_by:‹1› "shared_by" ["one","other"] spShare50):‹2› "partings" ["ways"] (spPart50 K):=by
 exists 1,sc_partings
 obtain⟨p,ys,os,rfl,hp,hos,l30,q⟩:=h
 have lys:=hos.1
 refine⟨_,(aG (aR (i:=1) nd rfl (m9 rfl) (bV aB)) (aG (bL PassesOwn.never rfl (hX true rfl T.z_enumerate (aA (pv 0) aB)) (bT (n:=2) rfl (aP (aH (i:=2) nd rfl (m9 rfl)) (aP (aH (i:=3) nd rfl (m9 rfl)) bD))) (aE (bL PassesOwn.never rfl (hX true rfl T.z_enumerate (aA (cT dI (pv 0) cV (cU (pv 2))) aB)) (bT (n:=2) rfl (aP (aH (i:=4) nd rfl (m9 rfl)) (aP (aH (i:=5) nd rfl (m9 rfl)) bD))) (aG (aR (i:=6) nd rfl (m9 rfl) (aK O_shared_by hr rfl (aA (pv 5) (aA (pv 3) aB)))) (aE (aX (aS cQ (aQ bG rfl T.z_len (by symm) (aA (pv 6) aB)) aC (nomark _)) (aE (dW (dP ubb ugf uge wW (pv 1) (aA (bV (aA (bY (aA (pv 4) (aA (pv 2) (aA (aJ aZ (pv 6) aC (λ _ _=>rfl)) aB)))) (aA (bY (aA (pv 4) (aA (pv 2) (aA (aJ aZ (pv 6) (gA fV aC) (λ _ _=>rfl)) aB)))) aB))) aB)))) aV)))))) (aE (aL (bJ dB rfl T.z_tuple (by symm) (aA (aQ uG rfl T.z_sorted (by symm) (aA (pv 1) aB)) aB)))))),?_⟩
 refine⟨(by show 0<=1000;decide),λ lt J1 S1 f1 e1=>?_⟩
 have few:=pH (os:=os) l30
 refine⟨_,rfl,p,rfl,⟨_,SqX.of (t:=true) (S1 _ _ hp)⟩,?_⟩
 have keep:∀ {J:Hp},But lt J1 J->Same H J:=λ {J} bt b o e=>bt _ _ (bB e f1) (S1 _ _ e)
 refine jR (t:=true) (xs:=ys) (λ j σ J=>∃ (zs:List V)(y2 y3 y4 y5 y6:Option V),σ=[some (.ref p),some (.ref lt),y2,y3,y4,y5,y6]/\But lt J1 J/\J lt=some (.lst zs)/\TT J zs (pgP os j)) ⟨[],_,_,_,_,_,rfl,But.refl,e1,.nil⟩ (λ j σ J h=>?_) (λ j x U σ J hx hU h=>?_) (λ σ J h=>?_)
 ·obtain⟨zs,y2,y3,y4,y5,y6,rfl,bt,_⟩:=h
  exact SqX.of (t:=true) (keep bt _ _ hp)
 ·obtain⟨zs,y2,y3,y4,y5,y6,rfl,bt,hz,tt⟩:=h
  have hj:=(j7.mp hx).1
  have SU:=aT (H:=J) (o:=.tup [.int (j:Nat),x]) hU
  refine⟨U,_,rfl,SqT.of aO,rfl,_,_,rfl,_,_,rfl,rfl,?_⟩
  generalize upd J U (.tup [.int (j:Nat),x])=J2 at SU
  have sm2:Same H J2:=(keep bt).trans SU
  have ntl:∀ {a:l7}{xs:List V},J a=some (.tup xs)->a≠lt:=λ e z=>by rw[z,hz] at e;cases e
  refine⟨_,rfl,_,rfl,_,rfl,p,_,rfl,sm2 _ _ hp,λ pc J3 S3 h3=>?_⟩
  rw[show cutV ys none (some ((j:Nat):Int))=ys.take j from kD ys j] at h3
  have few2:=λ (i:Nat) (hi:i<=j)=>zcg (os:=os) (m:=os.length) (j:=j) (by left) hi
  have lpg:zs.length=(pgP os j).length:=Paired.length tt
  refine⟨_,rfl,⟨_,SqX.of (t:=true) h3⟩,?_⟩
  refine jR (t:=true) (xs:=ys.take j) (λ i σ J'=>∃ (us:List V)(y4 y5 y6:Option V),σ=[some (.ref p),some (.ref lt),some (.int (j:Nat)),some x,y4,y5,y6]/\But lt J3 J'/\J' lt=some (.lst us)/\TT J' us (pgP os j++(d8 i).flatMap λ i=>blk os i j)) ⟨zs,_,_,_,rfl,But.refl,S3 _ _ (SU _ _ hz),?_⟩ (λ i σ J' h=>?_) (λ i x' U' σ J' hx' hU' h=>?_) (λ σ J' h=>?_)
  ·rw[List.range_zero,ucs,uay]
   exact TT.keep (λ a xs e=>S3 _ _ (SU _ _ e)) tt
  ·obtain⟨us,y4,y5,y6,rfl,bt',_⟩:=h
   exact SqX.of (t:=true) (bt' _ _ (λ z=>by rw[z,(SU.trans S3) _ _ hz] at h3;cases h3) h3)
  ·obtain⟨us,y4,y5,y6,rfl,bt',hu,tt'⟩:=h
   have hi:i<j/\ys[i]?=some x':=by
    rw[ued] at hx'
    by_cases c:i<j
    ·rw[uhd c] at hx';exact⟨c,hx'⟩
    ·rw[uhe c] at hx';cases hx'
   have SV:=aT (H:=J') (o:=.tup [.int (i:Nat),x']) hU'
   refine⟨U',_,rfl,SqT.of aO,rfl,_,_,rfl,_,_,rfl,rfl,?_⟩
   generalize upd J' U' (.tup [.int (i:Nat),x'])=J4 at SV
   have sm4:∀ {a:l7}{xs:List V},H a=some (.tup xs)->J4 a=some (.tup xs):=λ {a xs} e=>SV _ _ (bt' _ _ (bB e f1) (S3 _ _ (sm2 _ _ e)))
   refine⟨_,rfl,_,rfl,os.getD i none,os.getD j none,x',x,rfl,(hos.at hi.2).same λ a xs e=>sm4 e,(hos.at hx).same λ a xs e=>sm4 e,λ l J5 S5 fl5 e5=>?_⟩
   refine⟨_,rfl,?_⟩
   have hu5:J5 lt=some (.lst us):=S5 _ _ (SV _ _ hu)
   have tt5:TT J5 us (pgP os j++(d8 i).flatMap λ i=>blk os i j):=TT.keep (λ a xs e=>S5 _ _ (SV _ _ e)) tt'
   have rng:(d8 (i+1)).flatMap (λ i=>blk os i j)=((d8 i).flatMap λ i=>blk os i j)++blkL (shN (os.getD i none) (os.getD j none)) i j:=by
    rw[ubg,ubl,ub2,ucs,uay];rfl
   have S35:∀ b o,b≠lt->J3 b=some o->J5 b=some o:=λ b o z e=>S5 _ _ (SV _ _ (bt' _ _ z e))
   have fw:=few2 (i+1) hi.1
   rw[rng] at fw
   generalize shN (os.getD i none) (os.getD j none)=sh at e5 rng fw
   refine⟨l,_,rfl,.inl (SqL.of e5),_,_,rfl,rfl,?_⟩
   cases sh with
   | nil =>
    refine⟨_,rfl,iteF ⟨us,_,_,_,rfl,λ b o z e=>S35 b o z e,hu5,?_⟩⟩
    rw[rng,zc3,uay];exact tt5
   | cons z t =>
    have lus:us.length=(pgP os j++(d8 i).flatMap λ i=>blk os i j).length:=Paired.length tt5
    rw[oO,← uax,i6,← lus] at fw
    refine⟨true,congrArg V.bl (uha (by rw[cR,l6];left)),iteT ?_⟩
    have at0:atI (natV (z::t)) 0=some (V.int (z:Int)):=bQ (i:=0) (v6 0) rfl
    have at1:atI (natV (z::t)) (-1)=some (V.int (((z::t).getLast (by simp):Nat):Int)):=zQ z t
    refine⟨_,rfl,.inl ⟨rfl,_,SqL.of hu5⟩,_,rfl,_,rfl,_,rfl,l,_,_,_,rfl,rfl,SqL.of e5,at0,(by show 3<=1000;decide),λ t1 J6 S6 f6 e6=>?_⟩
    refine⟨_,rfl,_,rfl,_,rfl,_,rfl,l,_,_,_,rfl,rfl,SqL.of (S6 _ _ e5),at1,(by show 3<=1000;decide),λ t2 J7 S7 f7 e7=>?_⟩
    refine⟨(by show 2<=1000;decide),λ l2 J8 S8 f8 e8=>?_⟩
    have S58:=S6.trans (S7.trans S8)
    have h8:=S58 _ _ hu5
    refine⟨lt,l2,_,_,rfl,rfl,h8,e8,?_,λ J9 b9 e9=>?_⟩
    ·show us.length+2<=1000
     rw[l6,l6,ud6] at fw
     left
    ·have k9:∀ {a:l7}{xs:List V},J8 a=some (.tup xs)->J9 a=some (.tup xs):=λ {a xs} e=>b9 _ _ (λ z=>by rw[z,h8] at e;cases e) e
     refine⟨_,_,_,_,rfl,λ b o z e=>b9 _ _ z (S58 _ _ (S35 _ _ z e)),e9,?_⟩
     rw[rng,oO,← uax]
     exact TT.app (TT.keep (λ a xs e=>k9 (S58 _ _ e)) tt5) (.cons ⟨t1,rfl,k9 (S8 _ _ (S7 _ _ e6))⟩ (.cons ⟨t2,rfl,k9 (S8 _ _ e7)⟩ .nil))
  ·obtain⟨us,y4,y5,y6,rfl,bt',hu,tt'⟩:=h
   have lt':(ys.take j).length=j:=by rw[u5];left
   rw[lt'] at tt'
   refine⟨us,_,_,_,_,_,rfl,λ b o z e=>bt' _ _ z (S3 _ _ (SU _ _ (bt _ _ z e))),hu,?_⟩
   have e:pgP os (j+1)=pgP os j++prwP os j:=by unfold pgP;rw[ubg,ubl,ub2,ucs,uay]
   rw[e];exact tt'
 ·obtain⟨zs,y2,y3,y4,y5,y6,rfl,bt,hz,tt⟩:=h
  rw[lys] at tt
  have lz:zs.length=(pgP os os.length).length:=Paired.length tt
  refine⟨_,rfl,lt,zs,_,rfl,hz,by left,tt,λ k hk=>?_,λ qs pq wq l J2 S2 f2 e2=>?_⟩
  ·obtain⟨i,j,x,rfl⟩:=nO k hk
   exact λ z=>by cases z
  ·obtain⟨ks,pk,tk,wk⟩:=zdd tt pq wq
   refine⟨l,_,rfl,e2,λ t J3 S3 f3 e3=>q t _ ks J3 ((keep bt).trans (S2.trans S3)) e3 ?_ pk wk⟩
   exact (TT.keep (λ a xs e=>S3 _ _ (S2 _ _ e)) tk).is
theorem uX (T:Bi mg)(D:DefOk K mg "_law_fars" s__law_fars ["web","keep","start"]):‹1› "_law_fars" ["web","keep","start"] (spFars K):=by
 exists 0,sc__law_fars
 obtain⟨n,ts,ks,wv,kv,r,rfl,⟨isw,ok,isk,ko⟩,r0,r1,q⟩:=h
 have few60:=ok.few
 have n1:=ok.n1
 have n24:=ok.n24
 obtain⟨g0,g,ws,rfl,hg0,hg,hall,hlw⟩:=cD isw
 obtain⟨kp,rfl,hkp⟩:=gJ isk
 have P:=fQ ok ko
 have inn:=iH ok ko
 obtain⟨δ,dd⟩:∃ δ:Nat->Option Int,∀ v,Far.Dst (arcs ts ks) r.toNat v (δ v):=⟨λ v=>Classical.choose (Far.iX P r.toNat v),λ v=>Classical.choose_spec (Far.iX P r.toNat v)⟩
 refine⟨_,(aG (aR (i:=3) nd rfl (m9 rfl) (aM jY (bV (aA bO aB)) (aJ aY (pv 0) aC (λ _ _=>rfl)))) (aG (bS aC (dY (pv 3) (pv 2) dR)) (aG (bL PassesOwn.never rfl (dQ rfl T.z_range (aA (aJ aY (pv 0) aC (λ _ _=>rfl)) aB)) (aH (i:=4) nd rfl (m9 rfl)) (aE (bL PassesOwn.never rfl (bW (pv 1)) (aH (i:=5) nd rfl (m9 rfl)) (aG (bS (aJ aY (aJ aY (pv 0) aC (λ _ _=>rfl)) (pv 5) (λ _ _=>rfl)) (bT (n:=3) rfl (aP (aH (i:=6) nd rfl (m9 rfl)) (aP (aH (i:=7) nd rfl (m9 rfl)) (aP (aH (i:=8) nd rfl (m9 rfl)) bD))))) (aE (bL PassesOwn.never rfl (fT (bV (aA (bY (aA (pv 6) (aA (pv 7) aB))) (aA (bY (aA (pv 7) (aA (pv 6) aB))) aB)))) (bT (n:=2) rfl (aP (aH (i:=9) nd rfl (m9 rfl)) (aP (aH (i:=10) nd rfl (m9 rfl)) bD))) (aE (aX (aS pK (aJ aZ (pv 3) (pv 9) (λ _ _=>rfl)) bO (nomark _)) (aG (aR (i:=11) nd rfl (m9 rfl) (aM cB (aJ aZ (pv 3) (pv 9) (λ _ _=>rfl)) (pv 8))) (aE (aX (PW.pt (cN (aS cY (aJ aZ (pv 3) (pv 10) (λ _ _=>rfl)) bO (nomark _)) (cX (aS cQ (aJ aZ (pv 3) (pv 10) (λ _ _=>rfl)) (pv 11) (nomark _))))) (aE (bS (pv 11) (dY (pv 3) (pv 10) dR))) aV))) aV)))))))) (aE (aL (pv 3)))))),?_⟩
 refine⟨(by show 1<=1000;decide),λ t0 J1 S1 f1 e1=>⟨_,rfl,g0,_,_,_,rfl,rfl,SqT.of (S1 _ _ hg0),rfl,t0,n,_,rfl,rfl,e1,by left,by left,λ lf J2 S2 f2 e2=>?_⟩⟩
 have S12:=S1.trans S2
 have ff:H lf=none:=S1.free f2
 refine⟨_,rfl,_,rfl,lf,_,r,r.toNat,rfl,rfl,e2,dL r0 (by rw[uaa];left),?_⟩
 have keepF:∀ {J:Hp}{o:HO},Same H J->Same H (upd J lf o):=λ {J o} s b o e=>by rw[aN (bB e ff)];exact s _ _ e
 have fst:(l8 n.toNat V.non).set r.toNat (.int 0)=(((l8 n.toNat (none:Option Int)).set r.toNat (some 0)).map ov):=by
  rw[List.map_set,List.map_replicate];rfl
 rw[fst]
 have S0:Far.Snd (arcs ts ks) n.toNat r.toNat ((l8 n.toNat none).set r.toNat (some 0)):=Far.Snd.first (by left)
 refine⟨_,rfl,g0,_,_,_,rfl,rfl,SqT.of (keepF S12 _ _ hg0),rfl,n,rfl,by left,by left,?_⟩
 refine dD (n:=n.toNat) (λ i σ J=>∃ (DD:List (Option Int))(y4 y5 y6 y7 y8 y9 y10 y11:Option V),σ=[some (.ref g0),some (.ref kp),some (.int r),some (.ref lf),y4,y5,y6,y7,y8,y9,y10,y11]/\Same H J/\J lf=some (.lst (DD.map ov))/\Far.Snd (arcs ts ks) n.toNat r.toNat DD/\Far.Done n.toNat δ DD i)
  ⟨_,none,none,none,none,none,none,none,none,rfl,keepF S12,aO,S0,Far.wS P (by left) dd S0⟩ (λ i σ J hi h=>?_) (λ σ J h=>?_)
 ·obtain⟨D0,y4,y5,y6,y7,y8,y9,y10,y11,rfl,sm,hf,sd,dn⟩:=h
  refine⟨_,rfl,kp,rfl,⟨_,SqT.of (sm _ _ hkp)⟩,?_⟩
  refine fU (xs:=(keepI ks).map V.int) (λ i' σ J=>∃ (DD:List (Option Int))(y4 y5 y6 y7 y8 y9 y10 y11:Option V),σ=[some (.ref g0),some (.ref kp),some (.int r),some (.ref lf),y4,y5,y6,y7,y8,y9,y10,y11]/\Same H J/\J lf=some (.lst (DD.map ov))/\Far.Rnd (arcs ts ks) n.toNat r.toNat δ D0 (λ z=>z∈arcs ts (ks.take i')) DD)
   ⟨D0,_,_,_,_,_,_,_,_,rfl,sm,hf,(Far.Rnd.start sd).less λ a z=>(by cases z)⟩ (λ i' σ J _ h=>?_) (λ i' x σ J hx h=>?_) (λ σ J h=>?_)
  ·obtain⟨DD,y4,y5,y6,y7,y8,y9,y10,y11,rfl,sm,_⟩:=h
   exact SqT.of (sm _ _ hkp)
  ·obtain⟨DD,y4,y5,y6,y7,y8,y9,y10,y11,rfl,sm,hf,rn⟩:=h
   obtain⟨k,hk,rfl⟩:=iA hx
   have hkl:k<ts.length:=ko.2 k (p6 hk)
   obtain⟨ta,hta,htie⟩:=dF hall hkl
   obtain⟨t,et⟩:∃ t,t=tieAt ts k:=⟨_,rfl⟩
   rw[← et] at htie
   have tk:=ok.tie _ (bF hkl).2
   rw[← et] at tk
   refine⟨_,rfl,g0,_,_,_,rfl,rfl,SqT.of (sm _ _ hg0),rfl,_,rfl,g,_,_,_,rfl,rfl,SqT.of (sm _ _ hg),bQ (uat _) hta,ta,_,rfl,SqT.of (sm _ _ htie),rfl,_,_,rfl,_,_,rfl,_,_,rfl,rfl,?_⟩
   refine⟨_,rfl,_,rfl,(by show 2<=1000;decide),λ t1 K1 T1 u1 v1=>⟨_,rfl,_,rfl,(by show 2<=1000;decide),λ t2 K2 T2 u2 v2=>⟨(by show 2<=1000;decide),λ t3 K3 T3 u3 v3=>⟨t3,rfl,⟨_,SqL.of v3⟩,?_⟩⟩⟩⟩
   have T13:=T1.trans (T2.trans T3)
   have v1':=T3 _ _ (T2 _ _ v1)
   have v2':=T3 _ _ v2
   have n3:t3≠lf:=λ z=>by rw[z,T2 _ _ (T1 _ _ hf)] at u3;cases u3
   refine za4 (xs:=[V.ref t1,.ref t2]) (λ j σ J=>∃ (DD:List (Option Int))(y9 y10 y11:Option V),σ=[some (.ref g0),some (.ref kp),some (.int r),some (.ref lf),y4,some (.int (k:Int)),some (.int t.1),some (.int t.2.1),some (.int t.2.2),y9,y10,y11]/\Same H J/\J lf=some (.lst (DD.map ov))/\Far.Rnd (arcs ts ks) n.toNat r.toNat δ D0 (λ z=>z∈arcs ts (ks.take i')\/z∈(arcs2 t).take j) DD/\But lf K3 J)
    ⟨DD,_,_,_,rfl,sm.trans T13,T13 _ _ hf,rn.less λ a z=>z.elim id λ z=>(by cases z),But.refl⟩ (λ j σ J _ h=>?_) (λ j x σ J hx h=>?_) (λ σ J h=>?_)
   ·obtain⟨DD,y9,y10,y11,rfl,_,_,_,b3⟩:=h
    exact SqL.of (b3 _ _ n3 v3)
   ·obtain⟨DD,y9,y10,y11,rfl,sm,hf,rn,b3⟩:=h
    have tkp:TupKeep K3 J:=λ a xs e=>b3 _ _ (λ z=>by rw[z,T13 _ _ ‹_›] at e;cases e) e
    obtain⟨p,u,v,rfl,hp,u0,un,v0,vn,arc,more⟩:∃ p u v,x=.ref p/\J p=some (.tup [.int u,.int v])/\0<=u/\u<n/\0<=v/\v<n/\(u.toNat,v.toNat,t.2.2)∈arcs ts ks/\∀ z,z∈(arcs2 t).take (j+1)->z∈(arcs2 t).take j\/z=(u.toNat,v.toNat,t.2.2):=by
     have mem:∀ z,z∈arcs2 t->z∈arcs ts ks:=λ z hz=>arcs_mem.mpr ⟨k,p6 hk,by rw[← et];exact hz⟩
     match j,hx with
     | 0,hx=>cases hx;exact⟨t1,t.1,t.2.1,rfl,tkp _ _ v1',by left,by left,by left,by left,mem _ (arcs2_mem.mpr (.inl rfl)),λ z hz=>by unfold arcs2 at *;simpa using hz⟩
     | 1,hx=>cases hx;exact⟨t2,t.2.1,t.1,rfl,tkp _ _ v2',by left,by left,by left,by left,mem _ (arcs2_mem.mpr (.inr rfl)),λ z hz=>by unfold arcs2 at *;simpa using hz⟩
    refine⟨p,_,rfl,SqT.of hp,rfl,_,_,rfl,_,_,rfl,rfl,?_⟩
    have lD:=rn.snd.len
    have next:∀ {D':List (Option Int)},Far.Rnd (arcs ts ks) n.toNat r.toNat δ D0 (Far.plus (λ z=>z∈arcs ts (ks.take i')\/z∈(arcs2 t).take j) (u.toNat,v.toNat,t.2.2)) D'->Far.Rnd (arcs ts ks) n.toNat r.toNat δ D0 (λ z=>z∈arcs ts (ks.take i')\/z∈(arcs2 t).take (j+1)) D':=λ h=>h.less λ z hz=>by
     rcases hz with hz | hz
     ·exact .inl (.inl hz)
     ·exact (more z hz).elim (λ y=>.inl (.inr y)) .inr
    have at1:=bQ u0 (gB (D:=DD) (i:=u.toNat) (by left))
    have at2:=bQ v0 (gB (D:=DD) (i:=v.toNat) (by left))
    refine⟨_,rfl,_,rfl,lf,_,_,_,rfl,rfl,SqL.of hf,at1,rfl,_,rfl,?_⟩
    cases gu:Far.get DD u.toNat with
    | none=>exact iteF ⟨DD,_,_,_,rfl,sm,hf,next (rn.no gu),b3⟩
    | some d =>
     rw[gu] at at1
     refine iteT ⟨_,rfl,_,rfl,lf,_,_,_,rfl,rfl,SqL.of hf,at1,_,rfl,_,_,rfl,rfl,?_⟩
     refine⟨_,rfl,_,rfl,lf,_,_,_,rfl,rfl,SqL.of hf,at2,rfl,_,rfl,?_⟩
     have put:∀ (hv:Far.get DD v.toNat=none\/∃ y,Far.get DD v.toNat=some y/\d+t.2.2<y),Far.Rnd (arcs ts ks) n.toNat r.toNat δ D0 (λ z=>z∈arcs ts (ks.take i')\/z∈(arcs2 t).take (j+1)) (DD.set v.toNat (some (d+t.2.2))):=λ hv=>next (rn.put dd arc (by left) gu hv P)
     have eset:(DD.map ov).set v.toNat (.int (d+t.2.2))=(DD.set v.toNat (some (d+t.2.2))).map ov:=by rw[List.map_set];rfl
     cases gv:Far.get DD v.toNat with
     | none =>
      refine iteT (iteT ?_)
      refine⟨_,rfl,_,rfl,_,rfl,lf,_,_,_,rfl,rfl,hf,dL v0 (by rw[c8];left),?_⟩
      exact⟨_,_,_,_,rfl,keepF sm,(by rw[aO,eset]),put (.inl gv),b3.trans But.upd⟩
     | some y =>
      rw[gv] at at2
      refine iteF ⟨_,rfl,_,rfl,lf,_,_,_,rfl,rfl,SqL.of hf,at2,_,rfl,_,_,rfl,rfl,_,rfl,ite2 (λ c=>?_) (λ c=>?_)⟩
      ·refine⟨_,rfl,_,rfl,_,rfl,lf,_,_,_,rfl,rfl,hf,dL v0 (by rw[c8];left),?_⟩
       exact⟨_,_,_,_,rfl,keepF sm,(by rw[aO,eset]),put (.inr ⟨y,gv,uhb c⟩),b3.trans But.upd⟩
      ·have hy:y<=d+t.2.2:=by
        have:=of_decide_eq_false (uep.mpr c);left
       exact⟨DD,_,_,_,rfl,sm,hf,next (rn.old gu gv hy),b3⟩
   ·obtain⟨DD,y9,y10,y11,rfl,sm,hf,rn,_⟩:=h
    refine⟨DD,_,_,_,_,_,_,_,_,rfl,sm,hf,rn.less λ z hz=>?_⟩
    exact (zS hk hz).elim .inl λ y=>.inr (by rw[← et] at y;exact y)
  ·obtain⟨DD,y4,y5,y6,y7,y8,y9,y10,y11,rfl,sm',hf',rn⟩:=h
   have lk:((keepI ks).map V.int).length=ks.length:=by unfold keepI;rw[c8,c8]
   rw[lk,udz] at rn
   exact⟨DD,_,_,_,_,_,_,_,_,rfl,sm',hf',rn.snd,Far.Done.round dd P inn sd rn (λ a h=>h) dn⟩
 ·obtain⟨DD,y4,y5,y6,y7,y8,y9,y10,y11,rfl,sm,hf,sd,dn⟩:=h
  have all:=dn.all
  exact⟨_,rfl,q lf DD J sm ff hf sd.len λ v hv=>by rw[all v hv];exact dd v⟩
theorem xC {m:Nat}{ns:List Int}(h:keepB m (.tuple (ns.map .int))=true):KeepOk m (ns.map ubo)/\keepI (ns.map ubo)=ns:=by
 have h':((ns.map udt).all (numB m)&&risI ((ns.map udt).map intOf))=true:=h
 rw[o7,uaj,show (intOf ∘ udt)=id from rfl,uc2,ucd,uas,nL] at h'
 obtain⟨h1,h2⟩:=h'
 have h3:∀ x∈ns,0<=x/\x<(m:Int):=λ x hx=>by
  have:=h1 x hx
  have e:(decide (0<=x)&&decide (x<(m:Int)))=true:=this
  rw[o7,decide_eq_true_eq,decide_eq_true_eq] at e
  exact e
 refine⟨⟨?_,λ k hk=>?_⟩,?_⟩
 ·rw[uaw]
  exact h2.imp_of_mem λ {a b} ha hb h=>by have:=h3 a ha;have:=h3 b hb;left
 ·obtain⟨x,hx,rfl⟩:=uau.mp hk
  have:=h3 x hx;left
 ·unfold keepI
  rw[uaj]
  conv=>rhs;rw[← uc2 ns]
  exact uaz λ x hx=>by have:=h3 x hx;show ((x.toNat:Nat):Int)=x;left
def OpI (H:Hp)(o:Option (List Int))(v:V):Prop:=(o=none/\v=.non)\/∃ t ws,o=some ws/\v=.ref t/\IntT H t ws/\ws.length<=40
theorem OpI.same {H H':Hp}{o:Option (List Int)}{v:V}(k:Same H H')(h:OpI H o v):OpI H' o v:=by
 rcases h with h | ⟨t,ws,e,e1,e2,z⟩
 ·exact .inl h
 ·exact .inr ⟨t,ws,e,e1,e2.same k,z⟩
def riseI (pr:Nat × Nat)(hs:List Int):Int:=hN hs pr.2-hN hs pr.1
def pjB (n:Int)(ts:List Tie)(ks:List Nat)(pr:Nat × Nat)(hs:List Int):Option (List Int)->Bool
 | none=>holdB n ts (d8 ts.length) hs&&decide (10^20<=riseI pr hs)
 | some ws=>holdB n ts (d8 ts.length) hs&&(leadsI n ts ks pr.1 pr.2 ws&&decide (riseI pr hs=(rightI n ts ks ws).getD 0))
inductive spPJ_i (K:b8)(vs:List V)(H:Hp)(Q:VK):Prop
 | mk:∀ (n:Int)(ts:List Tie)(ks:List Nat)(wv kv:V)(pa:l7)(pr:Nat × Nat)(o:Option (List Int))(x:V)(p:l7)(hs:List Int),(vs=[wv,kv,.ref pa,x,.ref p])->(WK K H n ts ks wv kv)->(H pa=some (.tup [.int (pr.1:Int),.int (pr.2:Int)]))->(pr.1<n.toNat)->(pr.2<n.toNat)->(OpI H o x)->(IntT H p hs)->(∀ H',Same H H'->Q (.bl (pjB n ts ks pr hs o)) H')->spPJ_i K vs H Q
def spPJ (K:b8):Sp:=λ vs H Q _=>spPJ_i K vs H Q
theorem uB (T:Bi mg)(D:DefOk K mg "pair_right" s_pair_right ["web","keep","pair","way","heights"])(O_heights_hold:‹5› "heights_hold" ["web","keep","heights"] (spHold K))(O_whole:‹5› "whole" ["web"] (spWhole K))(O_out_of_reach:‹5› "out_of_reach" ["height"] spOut)(O_leads_between:‹5› "leads_between" ["web","keep","a","b","way"] (spLeadsI K))(O_way_length:‹5› "way_length" ["web","way"] (spWLen K)):‹6› "pair_right" ["web","keep","pair","way","heights"] (spPJ K):=by
 exists 5,sc_pair_right
 obtain⟨n,ts,ks,wv,kv,pa,pr,o,x,p,hs,rfl,wk,hpa,l1,l2,ho,it,q⟩:=h
 have ok:=wk.2.1
 have ko:=wk.2.2.2
 have few60:=ok.few
 refine⟨_,(aG (aX (cP (cI (aK O_heights_hold hr rfl (aA (pv 0) (aA (aK O_whole hr rfl (aA (pv 0) aB)) (aA (pv 4) aB)))))) (aE (aL bP)) aV) (aG (bS (pv 2) (bT (n:=2) rfl (aP (aH (i:=5) nd rfl (m9 rfl)) (aP (aH (i:=6) nd rfl (m9 rfl)) bD)))) (aG (aR (i:=7) nd rfl (m9 rfl) (aM cL (aJ aY (pv 4) (pv 6) (λ _ _=>rfl)) (aJ aY (pv 4) (pv 5) (λ _ _=>rfl)))) (aG (aX (aS cY (pv 3) bO (nomark _)) (aE (aL (aK O_out_of_reach hr rfl (aA (pv 7) aB)))) aV) (aE (aL (bZ (aK O_leads_between hr rfl (aA (pv 0) (aA (pv 1) (aA (pv 5) (aA (pv 6) (aA (pv 3) aB)))))) (bX (bC bE (pv 7) (aK O_way_length hr rfl (aA (pv 0) (aA (pv 3) aB))) (nomark _)))))))))),?_⟩
 refine⟨_,rfl,_,rfl,n,ts,wv,rfl,wk.1,few60,λ lk J1 S1 f1 e1=>?_⟩
 refine⟨_,rfl,n,ts,d8 ts.length,wv,.ref lk,p,hs,rfl,⟨Is.same S1 _ wk.1,ok,eJ e1,bR ts⟩,it.same S1,λ J2 S2=>⟨_,rfl,?_⟩⟩
 have S12:=S1.trans S2
 cases eh:holdB n ts (d8 ts.length) hs with
 | false =>
  refine iteT ?_
  have q1:=q J2 S12
  have e:pjB n ts ks pr hs o=false:=by cases o <;> (unfold pjB;rw[eh];rfl)
  rw[e] at q1
  exact q1
 | true =>
  have ln:hs.length=n.toNat:=by
   unfold holdB at eh
   rw[o7] at eh
   exact uhb eh.1
  have hp2:=S12 _ _ it.1
  have hpa2:=S12 _ _ hpa
  refine iteF ⟨_,rfl,pa,_,rfl,SqT.of hpa2,rfl,_,_,rfl,_,_,rfl,rfl,?_⟩
  refine⟨_,rfl,_,rfl,p,_,_,_,rfl,rfl,SqT.of hp2,rP (by left),_,rfl,_,rfl,p,_,_,_,rfl,rfl,SqT.of hp2,rP (by left),_,_,rfl,rfl,?_⟩
  have q2:=q J2 S12
  rcases ho with ⟨rfl,rfl⟩ | ⟨t,ws,rfl,rfl,iT,l40⟩
  ·refine⟨_,rfl,rfl,_,rfl,iteT ⟨_,rfl,_,rfl,?_⟩⟩
   unfold pjB at q2
   rw[eh] at q2
   exact q2
  ·refine⟨_,rfl,rfl,_,rfl,iteF ?_⟩
   refine⟨_,rfl,_,rfl,_,rfl,_,rfl,_,rfl,n,ts,ks,wv,kv,t,ws,_,_,rfl,wk.same S12,iT.same S12,l40,λ J3 S3=>⟨_,rfl,?_⟩⟩
   have qq:∀ J,Same H J->Q (.bl (leadsI n ts ks pr.1 pr.2 ws&&decide (riseI pr hs=(rightI n ts ks ws).getD 0))) J:=λ J S=>by
    have z:=q J S
    unfold pjB at z
    rw[eh] at z
    exact z
   have q3:=qq J3 (S12.trans S3)
   cases el:leadsI n ts ks pr.1 pr.2 ws with
   | false =>
    rw[el] at q3
    exact iteF q3
   | true =>
    refine iteT ?_
    have er:(rightI n ts ks ws).isSome=true:=by
     unfold leadsI at el
     rw[o7] at el;exact el.1
    obtain⟨y,ey⟩:=uef.mp er
    obtain⟨us,eu,l24,lk2,ew⟩:=lW ok ko ey
    have S13:=S12.trans S3
    have ht:=(iT.same S13).1
    rw[eu,← cJ] at ht
    refine⟨_,rfl,_,rfl,_,rfl,n,ts,wv,t,us,rfl,Is.same S13 _ wk.1,few60,ht,l24,lk2,λ J4 S4=>?_⟩
    have q4:=qq J4 (S13.trans S4)
    rw[el,ey] at q4
    rw[ew]
    refine⟨rfl,?_⟩
    rw[gQ]
    exact q4
structure PpV (H:Hp)(kz:List Int)(os:List (Option (List Int)))(hss:List (List Int))(t ta tb tc:l7)(ys zs:List V):Prop where
 e:H t=some (.tup [.ref ta,.ref tb,.ref tc])
 ea:H ta=some (.tup (kz.map V.int))
 eb:H tb=some (.tup ys)
 ec:H tc=some (.tup zs)
 ly:ys.length=os.length
 lz:zs.length=hss.length
 oy:∀ (i:Nat)(o:Option (List Int))(v:V),os[i]?=some o->ys[i]?=some v->OpI H o v
 hz:∀ (i:Nat)(hs:List Int)(v:V),hss[i]?=some hs->zs[i]?=some v->∃ a,v=.ref a/\IntT H a hs
 lk:kz.length<=100
 lo:os.length<=31
 lh:hss.length<=31
theorem PpV.same {H H':Hp}{kz:List Int}{os:List (Option (List Int))}{hss:List (List Int)}{t ta tb tc:l7}{ys zs:List V}(k:Same H H')(h:PpV H kz os hss t ta tb tc ys zs):PpV H' kz os hss t ta tb tc ys zs :=
 ⟨k _ _ h.e,k _ _ h.ea,k _ _ h.eb,k _ _ h.ec,h.ly,h.lz,λ i o v a b=>(h.oy i o v a b).same k,λ i hs v a b=>by obtain⟨p,e,z⟩:=h.hz i hs v a b;exact⟨p,e,z.same k⟩,h.lk,h.lo,h.lh⟩
def natO:Option (List Int)->Option (List Nat):=udu λ ws=>ws.map ubo
def allJ (n:Int)(ts:List Tie)(kz:List Int)(prs:List (Nat × Nat))(os:List (Option (List Int)))(hss:List (List Int)):Bool :=
 (d8 prs.length).all λ i=>pjB n ts (kz.map ubo) (prs.getD i (0,0)) (hss.getD i []) (os.getD i none)
def prsJ (n:Int)(ts:List Tie)(prs:List (Nat × Nat))(kz:List Int)(os:List (Option (List Int)))(hss:List (List Int)):Bool :=
 keepB ts.length (tupI kz)&&(decide (os.length=prs.length)&&(decide (hss.length=prs.length)&&(allJ n ts kz prs os hss&&decide (keepI (twK ts (os.map natO))=kz))))
inductive spPRJ_i (K:b8)(vs:List V)(H:Hp)(Q:VK):Prop
 | mk:∀ (n:Int)(ts:List Tie)(wv:V)(p:l7)(ps:List V)(prs:List (Nat × Nat))(kz:List Int)(os:List (Option (List Int)))(hss:List (List Int))(t ta tb tc:l7)(ys zs:List V),(vs=[wv,.ref p,.ref t])->(Is K H (webD n ts) wv)->(WebOk n ts)->(H p=some (.tup ps))->(IsAll K H (prs.map prD) ps)->(PrsOk n prs)->(PpV H kz os hss t ta tb tc ys zs)->(∀ H',Same H H'->Q (.bl (prsJ n ts prs kz os hss)) H')->spPRJ_i K vs H Q
def spPRJ (K:b8):Sp:=λ vs H Q _=>spPRJ_i K vs H Q
theorem tF (T:Bi mg)(D:DefOk K mg "pairs_right" s_pairs_right ["web","pairs","told"])(O_is_tuple_of:‹6› "is_tuple_of" ["thing","many"] spTupN)(O_is_keep:‹6› "is_keep" ["web","thing"] (spIsKeep K))(O_pair_right:‹6› "pair_right" ["web","keep","pair","way","heights"] (spPJ K))(O_ties_of_ways:‹6› "ties_of_ways" ["web","ways"] (spTOW K)):‹7› "pairs_right" ["web","pairs","told"] (spPRJ K):=by
 exists 6,sc_pairs_right
 obtain⟨n,ts,wv,p,ps,prs,kz,os,hss,t,ta,tb,tc,ys,zs,rfl,isw,ok,hp,hps,pok,jv,q⟩:=h
 have units:∀ {x:Nat},x<=4->(A.deeper (envOfC "pairs_right" (defScope s_pairs_right) s.heap.objs.size f cdv)).units+x<cLine:=λ {x} hu=>by have:=hr.units;left
 have few60:=ok.few
 have lps:ps.length=prs.length:=by rw[hps.length,c8]
 have l30:=pok.1
 refine⟨_,(aG (aX (cP (cI (aK O_is_tuple_of hr rfl (aA (pv 2) (aA aC aB))))) (aE (aL bP)) aV) (aG (bS (pv 2) (bT (n:=3) rfl (aP (aH (i:=3) nd rfl (Or.inr rfl)) (aP (aH (i:=4) nd rfl (m9 rfl)) (aP (aH (i:=5) nd rfl (m9 rfl)) bD))))) (aG (aX (PW.pt (cN (cP (cI (aK O_is_keep hr rfl (aA (pv 0) (aA (pv 3) aB))))) (cN (cP (cI (aK O_is_tuple_of hr rfl (aA (pv 4) (aA (aQ bG rfl T.z_len (by symm) (aA (pv 1) aB)) aB))))) (cX (cP (cI (aK O_is_tuple_of hr rfl (aA (pv 5) (aA (aQ bG rfl T.z_len (by symm) (aA (pv 1) aB)) aB))))))))) (aE (aL bP)) aV) (aG (aX (cP (cI (aQ (dS rfl) rfl T.z_all (by symm) (aA (bK (N:=["web","pairs","told","keep","ways","papers"]) (sc0:=defScope s_pairs_right) (own:=["pair","way","heights"]) (fr:=["web","keep"]) (js:=[0,3]) rfl (zcf rfl T.z_zip (aA (pv 1) (aA (pv 4) (aA (pv 5) aB)))) (λ _ _ _ _=>(dJ (n:=3) rfl (aP (aH (i:=0) (by show uai [("pair":Str),("way":Str),("heights":Str),("web":Str),("keep":Str)];decide +kernel) rfl (m9 rfl)) (aP (aH (i:=1) (by show uai [("pair":Str),("way":Str),("heights":Str),("web":Str),("keep":Str)];decide +kernel) rfl (m9 rfl)) (aP (aH (i:=2) (by show uai [("pair":Str),("way":Str),("heights":Str),("web":Str),("keep":Str)];decide +kernel) rfl (m9 rfl)) bD))))) (λ _ _ _ _=>bU) (λ _ _ _ _=>(aK O_pair_right hr rfl (aA (pv 3) (aA (pv 4) (aA (pv 0) (aA (pv 1) (aA (pv 2) aB)))))))) aB)))) (aE (aL bP)) aV) (aE (aL (bC qU (aK O_ties_of_ways hr rfl (aA (pv 0) (aA (pv 4) aB))) (pv 3) (nomark _)))))))),?_⟩
 refine⟨_,rfl,t,_,3,rfl,jv.e,_,rfl,iteNS rfl ?_⟩
 refine⟨_,rfl,t,_,rfl,SqT.of jv.e,rfl,_,_,rfl,_,_,rfl,_,_,rfl,rfl,?_⟩
 refine⟨_,rfl,_,rfl,n,ts,tupI kz,wv,.ref ta,rfl,isw,⟨ta,_,rfl,jv.ea,IsAll.ints _⟩,(by show (kz.map udt).length<=1000;rw[c8];have:=jv.lk;left),λ J1 S1=>⟨_,rfl,?_⟩⟩
 have jv1:=jv.same S1
 have hp1:=S1 _ _ hp
 have qf:∀ J,Same H J->prsJ n ts prs kz os hss=false->Q (.bl false) J:=λ J S e=>by have z:=q J S;rw[e] at z;exact z
 cases ek:keepB ts.length (tupI kz) with
 | false =>
  refine iteT (iteT ?_)
  exact qf J1 S1 (by unfold prsJ;rw[ek];rfl)
 | true =>
 refine iteF ⟨_,rfl,_,rfl,p,_,rfl,.inr (SqT.of hp1),tb,ys,ps.length,rfl,jv1.eb,_,rfl,?_⟩
 by_cases co:os.length=prs.length
 case neg =>
  rw[uhc (show ¬ ys.length=ps.length by rw[jv1.ly];left)]
  refine iteT (iteT ?_)
  exact qf J1 S1 (by unfold prsJ;rw[ek,uhc co];rfl)
 rw[uha (show ys.length=ps.length by rw[jv1.ly];left)]
 refine iteF ⟨_,rfl,_,rfl,p,_,rfl,.inr (SqT.of hp1),tc,zs,ps.length,rfl,jv1.ec,_,rfl,?_⟩
 by_cases ch:hss.length=prs.length
 case neg =>
  rw[uhc (show ¬ zs.length=ps.length by rw[jv1.lz];left)]
  refine iteT ?_
  exact qf J1 S1 (by unfold prsJ;rw[ek,uha co,uhc ch];rfl)
 rw[uha (show zs.length=ps.length by rw[jv1.lz];left)]
 refine iteF ?_
 obtain⟨ko,ekz⟩:=xC (ns:=kz) ek
 have wk1:WK K J1 n ts (kz.map ubo) wv (.ref ta):=⟨Is.same S1 _ isw,ok,eJ (by rw[cJ,ekz];exact jv1.ea),ko⟩
 refine⟨_,rfl,_,rfl,_,rfl,p,tb,tc,rfl,⟨_,SqT.of hp1⟩,⟨_,SqT.of jv1.eb⟩,⟨_,SqT.of jv1.ec⟩,?_⟩
 refine zE hp1 jv1.eb jv1.ec (λ σ'=>∃ o1 o2 o3,σ'=[o1,o2,o3,some wv,some (.ref ta)]) (λ i v _=>v=.bl (pjB n ts (kz.map ubo) (prs.getD i (0,0)) (hss.getD i []) (os.getD i none))) (by left) (by rw[jv1.ly];left) (by rw[jv1.lz];left) (by exact⟨none,none,none,rfl⟩) (λ _ _ _ _ _ h=>h) (λ i x y z U σ' H' hx hy hz s2 hU sg C hC=>?_) (λ L bs J2 hL S2 hH hlb hbs=>?_)
 ·obtain⟨o1,o2,o3,rfl⟩:=sg
  obtain⟨pr,ap,hpi,rfl,hap⟩:=iO (IsAll.same (S1.trans s2) _ hps) hx
  have SU:=aT (H:=H') (o:=.tup [.ref ap,y,z]) hU
  have hi:=(j7.mp hx).1
  have ei:prs.getD i (0,0)=pr:=by rw[a8,hpi];rfl
  have eo:os[i]?=some (os.getD i none):=by rw[a8,c7 (by left)];rfl
  have eh:hss[i]?=some (hss.getD i []):=by rw[a8,c7 (by left)];rfl
  have oy:=(jv1.oy i _ y eo hy).same (s2.trans SU)
  obtain⟨pz,rfl,iz⟩:=jv1.hz i _ z eh hz
  have:=pok.2 pr (p6 hpi)
  refine⟨U,_,rfl,SqT.of aO,rfl,_,_,rfl,_,_,rfl,_,_,rfl,rfl,?_⟩
  refine⟨_,rfl,_,rfl,_,rfl,_,rfl,_,rfl,n,ts,_,wv,.ref ta,ap,pr,os.getD i none,y,pz,hss.getD i [],rfl,wk1.same (s2.trans SU),SU _ _ hap,this.1,this.2,oy,iz.same (s2.trans SU),λ J4 S4=>hC _ _ _ ⟨_,_,_,rfl⟩ (SU.trans S4) ?_⟩
  rw[ei]
 refine⟨L,_,rfl,SqL.of (by rw[hH,dU hlb hbs]),_,rfl,?_⟩
 have S02:=S1.trans S2
 rw[lps,show ((d8 prs.length).map λ i=>pjB n ts (kz.map ubo) (prs.getD i (0,0)) (hss.getD i []) (os.getD i none)).all id=allJ n ts kz prs os hss from by rw[ucd];rfl]
 cases ej:allJ n ts kz prs os hss with
 | false =>
  refine iteT ?_
  exact qf J2 S02 (by unfold prsJ;rw[ek,uha co,uha ch,ej];rfl)
 | true =>
 refine iteF ?_
 have jv2:=jv.same S02
 refine⟨_,rfl,_,rfl,n,ts,wv,tb,ys,os.map natO,rfl,Is.same S02 _ isw,ok,jv2.eb,by rw[c8];exact jv2.ly,by rw[jv2.ly];left,λ i o v ho hv=>?_,λ tq J3 S3 e3=>?_⟩
 ·rw[i8] at ho
  obtain⟨o',ho',rfl⟩:=u7.mp ho
  have hi:=(j7.mp ho').1
  rcases jv2.oy i o' v ho' hv with ⟨rfl,rfl⟩ | ⟨tw,ws,rfl,rfl,iT,l40⟩
  ·exact .inl ⟨rfl,rfl⟩
  ·unfold allJ at ej
   have z:=uas.mp ej i (o8.mpr (by left))
   rw[show os.getD i none=some ws by rw[a8,ho'];rfl] at z
   unfold pjB at z
   rw[o7,o7] at z
   have el:=z.2.1
   unfold leadsI at el
   rw[o7] at el
   obtain⟨x,ex⟩:=uef.mp el.1
   obtain⟨us,eu,l24,lk2,ew⟩:=lW ok ko ex
   have ht:=iT.1
   rw[eu,← cJ] at ht
   refine .inr ⟨tw,us,?_,rfl,ht,l24,lk2⟩
   show some (ws.map ubo)=some us
   rw[eu]
   unfold keepI
   rw[uaj]
   exact congrArg some ((uaz λ x _=>v5 x).trans (uc2 us))
 have S03:=S02.trans S3
 have dq:Is K J3 (tupI (keepI (twK ts (os.map natO)))) (.ref tq):=⟨tq,_,rfl,e3,by rw[cJ];exact IsAll.ints _⟩
 have dk:Is K J3 (tupI kz) (.ref ta):=⟨ta,_,rfl,S03 _ _ jv.ea,IsAll.ints _⟩
 have dep:∀ z:List Int,(tupI z).depth<=2:=λ z=>by
  have h3:=jF z
  show ue2 _+1<=2
  left
 refine⟨_,rfl,_,_,dq,dk,fN _,fN _,units (uao (ufd _ _) (uao (dep _) (by decide))),?_⟩
 have z:=q J3 S03
 unfold prsJ at z
 rw[ek,uha co,uha ch,ej] at z
 rw[show ue5 (tupI (keepI (twK ts (os.map natO)))) (tupI kz)=decide (keepI (twK ts (os.map natO))=kz) from oB _ _]
 exact z
theorem kH {ts:List Tie}{prs:List (Nat × Nat)}{i:Nat}{ws:List Nat}(h:(wysN ts prs).getD i none=some ws):∃ pr,prs[i]?=some pr/\wyN ts pr.1 pr.2=some ws:=by
 rw[a8] at h
 unfold wysN at h
 rw[i8] at h
 cases e:prs[i]? with
 | none=>rw[e] at h;cases h
 | some pr=>rw[e] at h;exact⟨pr,rfl,h⟩
theorem mX {n:Int}{ts:List Tie}(ok:WebOk n ts){prs:List (Nat × Nat)}(hp:∀ pr∈prs,pr.1<n.toNat/\pr.2<n.toNat){i:Nat}{ws:List Nat}(h:(wysN ts prs).getD i none=some ws):ws.Nodup/\linked ts ws:=by
 obtain⟨pr,hi,e⟩:=kH h
 have b:=hp pr (p6 hi)
 refine⟨(gM e).nodup,?_⟩
 cases d:dG ts pr.1 pr.2 with
 | none=>rw[rL ok d] at e;cases e
 | some x =>
  obtain⟨ws',e',tr⟩:=kN ok b.2 d
  rw[e] at e';cases e'
  exact (fZ ok (bR ts) tr).2
theorem zbp {n:Int}{ts:List Tie}(ok:WebOk n ts){prs:List (Nat × Nat)}(i j:Nat)(U W:List Nat)(h:(wysN ts prs).getD i none=some U)(h':(wysN ts prs).getD j none=some W):Far.Shr U W:=by
 obtain⟨p1,_,e1⟩:=kH h
 obtain⟨p2,_,e2⟩:=kH h'
 exact (gM e1).share (eH ok (bR ts)) (gM e2)
theorem zc9 {n:Int}{ts:List Tie}(ok:WebOk n ts){prs:List (Nat × Nat)}(hp:∀ pr∈prs,pr.1<n.toNat/\pr.2<n.toNat):∀ k∈(wysN ts prs).flatMap (awN ts),k<ts.length:=λ k hk=>by
 obtain⟨o,ho,hk⟩:=ucb.mp hk
 obtain⟨i,hi⟩:=uc1.mp ho
 cases o with
 | none=>cases hk
 | some ws=>exact jS (mX ok hp (i:=i) (by rw[a8,hi];rfl)).2 k hk
theorem qK {n:Int}{ts:List Tie}(ok:WebOk n ts){prs:List (Nat × Nat)}(hp:∀ pr∈prs,pr.1<n.toNat/\pr.2<n.toNat){i:Nat}{pr:Nat × Nat}{ws:List Nat}(hi:prs[i]?=some pr)(e:wyN ts pr.1 pr.2=some ws):∀ k∈alongN ts ws,k∈twK ts (wysN ts prs):=λ k hk =>
 (oV (zc9 ok hp) k).mpr (ucb.mpr ⟨some ws,uau.mpr ⟨pr,p6 hi,e⟩,hk⟩)
theorem zao {n:Int}{ts:List Tie}(ok:WebOk n ts){prs:List (Nat × Nat)}(hp:∀ pr∈prs,pr.1<n.toNat/\pr.2<n.toNat){i:Nat}{pr:Nat × Nat}(hi:prs[i]?=some pr):Far.Dst (arcs ts (twK ts (wysN ts prs))) pr.1 pr.2 (dG ts pr.1 pr.2):=by
 have b:=hp pr (p6 hi)
 cases d:dG ts pr.1 pr.2 with
 | none=>exact zco ok (cK _ _) d
 | some x =>
  obtain⟨ws,e,tr⟩:=kN ok b.2 d
  exact (qL ok (cK _ _) e tr d (qK ok hp hi e)).2.2
theorem xX {n:Int}{ts:List Tie}(ok:WebOk n ts){prs:List (Nat × Nat)}(hp:∀ pr∈prs,pr.1<n.toNat/\pr.2<n.toNat):prsJ n ts prs (keepI (twK ts (wysN ts prs))) ((wysN ts prs).map (udu keepI)) (prs.map λ pr=>htP n ts pr.1)=true:=by
 have l1:((wysN ts prs).map (udu keepI)).length=prs.length:=by unfold wysN;rw[c8,c8]
 have em:((wysN ts prs).map (udu keepI)).map natO=wysN ts prs:=by
  rw[uaj]
  refine (uaz λ o _=>?_).trans (uc2 _)
  cases o with
  | none=>rfl
  | some ws=>exact congrArg some (mL ws)
 unfold prsJ
 rw[wF (cK _ _),uha l1,uha (c8 _),em,uha rfl,ug9,ud3,ud3,ud3]
 unfold allJ
 rw[mL]
 refine uas.mpr λ i hi=>?_
 have hi:=o8.mp hi
 have ei:prs[i]?=some prs[i]:=c7 hi
 have b:=hp _ (p6 ei)
 rw[show prs.getD i (0,0)=prs[i] by rw[a8,ei];rfl,show (prs.map λ pr=>htP n ts pr.1).getD i []=htP n ts prs[i].1 by rw[a8,i8,ei];rfl,show ((wysN ts prs).map (udu keepI)).getD i none=(wyN ts prs[i].1 prs[i].2).map keepI by unfold wysN;rw[a8,i8,i8,ei];rfl]
 generalize prs[i]=pr at ei b
 have hold:holdB n ts (d8 ts.length) (htP n ts pr.1)=true:=zbf (s:=pr.1) ok (bR ts) (kC n ts pr.1) λ v hv=>by rw[zc2 hv];exact dA ok pr.1 v
 have rise:riseI pr (htP n ts pr.1)=capO (10^20) (dG ts pr.1 pr.2):=by
  unfold riseI
  rw[qY b.2,qY b.1,zc1 ok,oN,uhe (by decide)];left
 cases d:dG ts pr.1 pr.2 with
 | none =>
  rw[rL ok d]
  show (holdB n ts (d8 ts.length) (htP n ts pr.1)&&decide (10^20<=riseI pr (htP n ts pr.1)))=true
  rw[hold,rise,d,uha (show (10:Int)^20<=capO (10^20) none from v6 _)];rfl
 | some x =>
  obtain⟨ws,e,tr⟩:=kN ok b.2 d
  obtain⟨m,tr2,_⟩:=qL ok (cK _ _) e tr d (qK ok hp ei e)
  have rw1:=yB ok (cK ts (wysN ts prs)) b.1 m tr2
  have top:=zd6 ok b.1 d
  rw[e]
  show (holdB n ts (d8 ts.length) (htP n ts pr.1)&&(leadsI n ts (twK ts (wysN ts prs)) pr.1 pr.2 (keepI ws)&&decide (riseI pr (htP n ts pr.1)=(rightI n ts (twK ts (wysN ts prs)) (keepI ws)).getD 0)))=true
  have ends:=zab tr
  unfold leadsI
  rw[hold,rise,d,rw1,oN,uhe (by left),ends.1,ends.2,uha rfl,uha rfl]
  simp
inductive spLaw_i (K:b8)(vs:List V)(H:Hp)(Q:VK):Prop
 | mk:∀ (a:l7)(ns:List Int),(vs=[.ref a])->(SqL K H a (ns.map V.int))->(ns.length<=63)->(∀ H',Q (.bl true) H')->spLaw_i K vs H Q
def spLaw (K:b8):Sp:=λ vs H Q _=>spLaw_i K vs H Q
def many51 (r:Int):Int:=if r=0 then 10 else 24
theorem pick51 {r:Int}(h0:0<=r)(h1:r<2):atI [V.int 10,V.int 24] r=some (.int (many51 r)):=by
 have:r=0\/r=1:=by left
 rcases this with rfl | rfl <;> rfl
theorem mH (r:Int):1<=many51 r/\many51 r<=24:=by unfold many51;split <;> decide
def most51 (x:Int)(b:Bool):Int:=if b=true then 6 else x
theorem pick51b (x:Int)(b:Bool):atI [V.int x,V.int 6] (if b=true then 1 else 0)=some (.int (most51 x b)):=by cases b <;> rfl
theorem mF {x:Int}(h:1<=x/\x<=24)(b:Bool):1<=most51 x b/\most51 x b<=24:=by
 unfold most51;split
 ·decide
 ·exact h
theorem zbu {n:Int}{ts:List Tie}{prs:List (Nat × Nat)}{t ta tb tc:l7}{ys zs:List V}{H:Hp}(ok:WebOk n ts)(pok:PrsOk n prs)(pv:PtV n ts prs t ta tb tc ys zs H):PpV H (keepI (twK ts (wysN ts prs))) ((wysN ts prs).map (udu keepI)) (prs.map λ pr=>htP n ts pr.1) t ta tb tc ys zs:=by
 have lw:(wysN ts prs).length=prs.length:=by unfold wysN;rw[c8]
 have l30:=pok.1
 have n24:=ok.n24
 refine⟨pv.e,by rw[pv.ea,cJ],pv.eb,pv.ec,by rw[c8,lw];exact pv.ly,by rw[c8];exact pv.lz,λ i o v ho hv=>?_,λ i hs v ho hv=>?_,?_,by rw[c8,lw];left,by rw[c8];left⟩
 ·rw[i8] at ho
  obtain⟨o',ho',rfl⟩:=u7.mp ho
  unfold wysN at ho'
  rw[i8] at ho'
  obtain⟨pr,h1,rfl⟩:=u7.mp ho'
  rcases pv.wy i pr v h1 hv with ⟨e,rfl⟩ | ⟨tw,ws,e,rfl,e2,l24,_⟩
  ·exact .inl ⟨by rw[e];rfl,rfl⟩
  ·exact .inr ⟨tw,keepI ws,by rw[e];rfl,rfl,⟨by rw[e2,cJ],by unfold keepI;rw[c8];left⟩,by unfold keepI;rw[c8];left⟩
 ·rw[i8] at ho
  obtain⟨pr,h1,rfl⟩:=u7.mp ho
  obtain⟨a,e1,e2⟩:=pv.hz i pr v h1 hv
  exact⟨a,e1,e2,by rw[zcw];left⟩
 ·have:=(cK ts (wysN ts prs)).len
  have:=ok.few
  unfold keepI;rw[c8];left
theorem pV {D:List (Option Int)}{n v:Nat}(lD:D.length=n)(hv:v<n):atI (D.map ov) (v:Int)=some (ov (Far.get D v)):=bQ (uat _) (by rw[v5];exact gB (by left))
theorem qX {K:b8}{H:Hp}:∀ o:Option Int,Is K H (ovD o) (ov o)
 | none=>rfl
 | some _=>rfl
theorem zct:∀ o:Option Int,(ovD o).canLay0=true
 | none=>rfl
 | some _=>rfl
theorem za8:∀ o:Option Int,(ovD o).depth<=4
 | none=>by decide
 | some x=>by show ue3 (.int x)<=4;exact p7 _
theorem pT (x:Int):∀ ns:List Int,inV (.int x) (ns.map V.int)=decide (x∈ns)
 | []=>rfl
 | y::ns=>by
  have ih:=pT x ns
  unfold inV at ih ⊢
  rw[ua1,uft,ih,ucj,ub6,decide_eq_true_eq,decide_eq_true_eq,j4]
  refine or_congr ?_ Iff.rfl
  show (y==x)=true↔x=y
  rw[beq_iff_eq]
  exact⟨Eq.symm,Eq.symm⟩
theorem zb4 {v:Nat}(ks:List (List Int)):((d8 ks.length).filterMap λ i=>if decide ((ks.getD i []).getD 2 0=(v:Int))=true then some (V.int 1) else none).length=cntX v ks:=by
 have e:=congrArg (List.filterMap λ k:List Int=>if decide (k.getD 2 0=(v:Int))=true then some (V.int 1) else none) (L3.cC ks [])
 rw[ufs] at e
 rw[show ((d8 ks.length).filterMap λ i=>if decide ((ks.getD i []).getD 2 0=(v:Int))=true then some (V.int 1) else none)=ks.filterMap λ k:List Int=>if decide (k.getD 2 0=(v:Int))=true then some (V.int 1) else none from e]
 unfold cntX
 clear e
 induction ks with
 | nil=>rfl
 | cons k ks ih =>
  rw[ucq,ude]
  by_cases c:decide (k.getD 2 0=(v:Int))=true
  ·rw[uhd c,uhd c]
   show (V.int 1::_).length=_
   rw[l6,l6,ih]
  ·rw[uhe c,uhe c];exact ih
theorem zdr {f:l7}{fd:FuncData}(T:Bi mg)(F:Fun K "law" "law" s_law f fd)(O__law_take:‹7› "_law_take" ["pot","many"] spTake)(O__law_pot:‹7› "_law_pot" ["script","k"] (spPot K))(O__law_web:‹7› "_law_web" ["pot","most"] (spWeb K))
  (O__law_pairs:‹7› "_law_pairs" ["pot","n"] (spLPairs K)) (O_pairs_told:‹7› "pairs_told" ["web","pairs"] (spPT K)) (O_pairs_right:‹7› "pairs_right" ["web","pairs","told"] (spPRJ K)) (O__law_fars:‹7› "_law_fars" ["web","keep","start"] (spFars K)) (O_partings:‹7› "partings" ["ways"] (spPart50 K)):FnOk P w K mg base CX0 8 f fd ["script"] (spLaw K):=by
 refine F.ok (k:=7) sc_law (λ vs H Q E h=>?_) (λ cdv A outer s H vs Q E hr h=>?_)
 ·obtain⟨a,ns,rfl,_⟩:=h
  rfl
 obtain⟨a,ns,rfl,hS,h63,q⟩:=h
 have nd:=sc_law.nd
 have units:∀ {x:Nat},x<=4->(A.deeper (envOfC "law" (defScope s_law) s.heap.objs.size f cdv)).units+x<cLine:=λ {x} hu=>by have:=hr.units;left
 have hl:(ns.map V.int).length=ns.length:=c8 _
 refine⟨_,(aG (bL PassesOwn.never rfl (dQ rfl T.z_range (aA (aQ (jI rfl) rfl T.z_max (by symm) (aA aC (aA (aQ (jH rfl) rfl T.z_min (by symm) (aA aC (aA (aQ bG rfl T.z_len (by symm) (aA (pv 0) aB)) aB))) aB))) aB)) (aH (i:=1) nd rfl (m9 rfl)) (aG (aR (i:=2) nd rfl (m9 rfl) (aK O__law_pot hr rfl (aA (pv 0) (aA (pv 1) aB)))) (aG (aR (i:=3) nd rfl (Or.inr rfl) (aK O__law_web hr rfl (aA (pv 2) (aA (aJ aZ (bV (aA (aJ aZ (bV (aA aC (aA aC aB))) (aK O__law_take hr rfl (aA (pv 2) (aA aC aB))) (λ _ _=>rfl)) (aA aC aB))) (bJ zL rfl T.z_int (by symm) (aA (bC cQ (pv 1) aC (nomark _)) aB)) (λ _ _=>rfl)) aB)))) (aG (aR (i:=4) nd rfl (m9 rfl) (aK O__law_pairs hr rfl (aA (pv 2) (aA (aJ aY (pv 3) aC (λ _ _=>rfl)) aB)))) (aG (aR (i:=5) nd rfl (m9 rfl) (aK O_pairs_told hr rfl (aA (pv 3) (aA (pv 4) aB)))) (aG (bS (pv 5) (bT (n:=3) rfl (aP (aH (i:=6) nd rfl (m9 rfl)) (aP (aH (i:=7) nd rfl (m9 rfl)) (aP (aH (i:=8) nd rfl (m9 rfl)) bD))))) (aG (aX (aS yK (aK O_pairs_right hr rfl (aA (pv 3) (aA (pv 4) (aA (pv 5) aB)))) bP (nomark _)) (aE (aL bP)) aV) (aG (aR (i:=9) nd rfl (m9 rfl) (bJ (kY rfl) rfl T.z_tuple (by symm) (aA (bJ iZ rfl T.z_range (by symm) (aA (aQ bG rfl T.z_len (by symm) (aA (aJ aY (pv 3) aC (λ _ _=>rfl)) aB)) aB)) aB))) (aG (bL PassesOwn.never rfl (hX true rfl T.z_enumerate (aA (cT dI (pv 4) cV (cU aC)) aB)) (bT (n:=2) rfl (aP (aH (i:=10) nd rfl (m9 rfl)) (aP (bT (n:=2) rfl (aP (aH (i:=11) nd rfl (m9 rfl)) (aP (aH (i:=12) nd rfl (m9 rfl)) bD))) bD))) (aE (aX (aS zdp (aJ aZ (aK O__law_fars hr rfl (aA (pv 3) (aA (pv 6) (aA (pv 11) aB)))) (pv 12) (λ _ _=>rfl)) (aJ aZ (aK O__law_fars hr rfl (aA (pv 3) (aA (pv 9) (aA (pv 11) aB)))) (pv 12) (λ _ _=>rfl)) (nomark _)) (aE (aL bP)) aV))) (aG (aR (i:=13) nd rfl (m9 rfl) (aK O_partings hr rfl (aA (pv 7) aB))) (aG (bL PassesOwn.never rfl (dQ rfl T.z_range (aA (aJ aY (pv 3) aC (λ _ _=>rfl)) aB)) (aH (i:=14) nd rfl (Or.inr rfl)) (aG (aR (i:=15) nd rfl (m9 rfl) (aQ bG rfl T.z_len (by symm) (aA (bK (N:=["script","at","pot","web","pairs","told","keep","ways","heights","numbers","k","a","b","parted","place","ties","most"]) (sc0:=defScope s_law) (own:=["number"]) (fr:=["place","web"]) (js:=[14,3]) rfl (bW (pv 6)) (λ _ _ _ _=>(aH (i:=0) (by show uai [("number":Str),("place":Str),("web":Str)];decide +kernel) rfl (m9 rfl))) (λ _ _ _ _=>(jW (aS iV (pv 1) (cT dI (aJ cW (aJ cW (pv 2) aC (λ _ _=>rfl)) (pv 0) (λ _ _=>rfl)) cV (cU aC)) (by with_unfolding_all rfl)))) (λ _ _ _ _=>(pv 0))) aB))) (aE (aX (aS cO (aQ bG rfl T.z_len (by symm) (aA (bK (N:=["script","at","pot","web","pairs","told","keep","ways","heights","numbers","k","a","b","parted","place","ties","most"]) (sc0:=defScope s_law) (own:=["i","j","one"]) (fr:=["place"]) (js:=[14]) rfl (bW (pv 13)) (λ _ _ _ _=>(dJ (n:=3) rfl (aP (aH (i:=0) (by show uai [("i":Str),("j":Str),("one":Str),("place":Str)];decide +kernel) rfl (m9 rfl)) (aP (aH (i:=1) (by show uai [("i":Str),("j":Str),("one":Str),("place":Str)];decide +kernel) rfl (m9 rfl)) (aP (aH (i:=2) (by show uai [("i":Str),("j":Str),("one":Str),("place":Str)];decide +kernel) rfl (m9 rfl)) bD))))) (λ _ _ _ _=>(jW (aS bE (pv 2) (pv 3) (nomark _)))) (λ _ _ _ _=>aC)) aB)) (aM cL (pv 15) aC) (nomark _)) (aE (aL bP)) aV)))) (aG (aR (i:=16) nd rfl (m9 rfl) (aM eC (aQ bG rfl T.z_len (by symm) (aA (pv 4) aB)) (aM cL (aQ bG rfl T.z_len (by symm) (aA (pv 4) aB)) aC))) (aE (aX (PW.pt (cN (aS cQ (aQ bG rfl T.z_len (by symm) (aA (pv 13) aB)) (pv 16) (nomark _)) (cX (aS cQ (aM eC aC (aQ bG rfl T.z_len (by symm) (aA (pv 6) aB))) (aM cB (aM eC aC (aJ aY (pv 3) aC (λ _ _=>rfl))) (pv 16)) (nomark _))))) (aE (aL bP)) aV)))))))))))))) (aE (aL bP))),?_⟩
 refine⟨_,rfl,a,_,rfl,.inl hS,_,_,rfl,_,_,rfl,_,rfl,?_,?_,?_⟩
 ·split <;> split <;> left
 ·rw[hl];split <;> split <;> left
 generalize hj:(if (if (((ns.map V.int).length:Nat):Int)<63 then (((ns.map V.int).length:Nat):Int) else 63)>1 then (if (((ns.map V.int).length:Nat):Int)<63 then (((ns.map V.int).length:Nat):Int) else 63) else 1)=j
 have j12:j<=63:=by rw[← hj];split <;> split <;> left
 refine dD (n:=j.toNat) (λ i σ H'=>∃ xs:List (Option V),xs.length=16/\σ=some (.ref a)::xs/\Same H H') ⟨l8 16 none,rfl,rfl,Same.refl H⟩ ?turn (λ σ H' _=>q H')
 rintro i_ σ H0 hi ⟨xs,lxs,rfl,s0⟩
 obtain⟨x1,x2,x3,x4,x5,x6,x7,x8,x9,x10,x11,x12,x13,x14,x15,x16,rfl⟩:∃ x1 x2 x3 x4 x5 x6 x7 x8 x9 x10 x11 x12 x13 x14 x15 x16:Option V,xs=[x1,x2,x3,x4,x5,x6,x7,x8,x9,x10,x11,x12,x13,x14,x15,x16]:=by
  match xs,lxs with
  | [x1,x2,x3,x4,x5,x6,x7,x8,x9,x10,x11,x12,x13,x14,x15,x16],_=>exact⟨x1,x2,x3,x4,x5,x6,x7,x8,x9,x10,x11,x12,x13,x14,x15,x16,rfl⟩
 refine⟨_,rfl,_,rfl,a,_,ns,rfl,s0.seq hS,by left,by left,λ l H1 s1 fl p1=>?_⟩
 have s01:Same H H1:=s0.trans s1
 have fl0:H l=none:=s0.free fl
 refine⟨_,rfl,(by show 2<=1000;decide),λ l0 J1 S1 f1 e1=>?_⟩
 have n0:l0≠l:=λ z=>by
  obtain⟨a',b',e',_⟩:=p1
  rw[z,e'] at f1;cases f1
 have pS:=p1.same S1
 refine⟨_,rfl,l,2,rfl,pS,by decide,by decide,λ rr J2 rr0 rr1 b2 p2=>?_⟩
 have e2:=b2 _ _ n0 e1
 refine⟨l0,_,_,_,rfl,rfl,SqL.of e2,pick51 rr0 rr1,(by show 2<=1000;decide),λ l2 J3 S3 f3 e3=>?_⟩
 have n2:l2≠l:=λ z=>by
  obtain⟨a',b',e',_⟩:=p2
  rw[z,e'] at f3;cases f3
 have p3:=p2.same S3
 refine⟨_,rfl,_,_,rfl,rfl,.inr ⟨_,rfl,l2,_,_,_,rfl,rfl,SqL.of e3,pick51b _ _,l,most51 (many51 rr) (decide (0<0+(i_:Int))),rfl,p3,(mF (mH _) _).1,(mF (mH _) _).2,λ wv H2 n ts b3 p4 ok _ isw=>?_⟩⟩
 have few60:=ok.few
 have n1:=ok.n1
 have n24:=ok.n24
 have B2:But l H1 H2:=(Same.but S1).trans (b2.trans ((Same.but S3).trans b3))
 have tkb:∀ {J J':Hp},But l J J'->Pot J l->TupKeep J J':=λ b pp=>by
  obtain⟨xs,e⟩:=pp.lst
  exact λ a ys h=>b _ _ (λ z=>by rw[z,e] at h;cases h) h
 have isB:∀ {J J':Hp},TupKeep J J'->Is K J (webD n ts) wv->Is K J' (webD n ts) wv:=λ k h=>Is.tk k _ (zbt n ts) h
 obtain⟨g0,g,ws,rfl,hg0,hg,hall,hlw⟩:=cD isw
  -- pairs
 refine⟨_,rfl,_,rfl,g0,_,_,_,rfl,rfl,SqT.of hg0,rfl,l,n,rfl,p4,n1,n24,λ tp ps prs H3 b4 p5 e4 hps pok=>?_⟩
 have tk3:=tkb b4 p4
 have is3:Is K H3 (webD n ts) (.ref g0):=isB tk3 isw
 have l30:=pok.1
 have lps:ps.length=prs.length:=by rw[hps.length,c8]
 have SH:Same H H3:=λ b o e=>by
  have nl:=bB e fl0
  exact b4 _ _ nl (B2 _ _ nl (s01 _ _ e))
 refine⟨_,rfl,_,rfl,n,ts,_,tp,ps,prs,rfl,is3,ok,e4,hps,pok,λ t ta tb tc ys zs J8 S8 pv=>?_⟩
 refine⟨_,rfl,t,_,rfl,SqT.of pv.e,rfl,_,_,rfl,_,_,rfl,_,_,rfl,rfl,?_⟩
 have jv:=zbu ok pok pv
 refine⟨_,rfl,_,rfl,_,rfl,n,ts,_,tp,ps,prs,_,_,_,t,ta,tb,tc,ys,zs,rfl,Is.same S8 _ is3,ok,S8 _ _ e4,IsAll.same S8 _ hps,pok,jv,λ J9 S9=>?_⟩
 rw[xX ok pok.2]
 refine⟨_,_,rfl,rfl,_,rfl,iteF ?_⟩
 have S39:=S8.trans S9
 have hg9:J9 g0=some _:=S39 _ _ (tk3 _ _ hg0)
 have hgt9:=S39 _ _ (tk3 _ _ hg)
 have is9:=Is.same S39 _ is3
 refine⟨_,rfl,g0,_,_,_,rfl,rfl,SqT.of hg9,rfl,g,_,rfl,.inr (SqT.of hgt9),_,rfl,λ rg hrg=>⟨rg,_,rfl,aO,uat _,by left,λ ev JA SA fA eA=>?_⟩⟩
 rw[v5,hlw] at eA
 have S9A:=(aT (o:=.rng 0 (ws.length:Int)) hrg).trans SA
 have S3A:=S39.trans S9A
 have S8A:=S9.trans S9A
 refine⟨_,rfl,_,rfl,tp,_,rfl,S3A _ _ e4,λ tx JB SB eB=>?_⟩
 rw[show cutV ps none (some 6)=ps.take 6 from kD ps 6] at eB
 have S3B:=S3A.trans SB
 have S8B:=S8A.trans SB
 have isBB:=Is.same S3B _ is3
 have eta:=S8B _ _ pv.ea
 have eev:=SB _ _ eA
 refine⟨tx,rfl,⟨_,SqX.of (t:=true) eB⟩,?_⟩
 refine jR (t:=true) (xs:=ps.take 6) (λ i σ J=>∃ y10 y11 y12 y13 y14 y15 y16:Option V,σ=[some (.ref a),some (.int (0+(i_:Int))),some (.ref l),some (.ref g0),some (.ref tp),some (.ref t),some (.ref ta),some (.ref tb),some (.ref tc),some (.ref ev),y10,y11,y12,y13,y14,y15,y16]/\Same JB J) ⟨_,_,_,_,_,_,_,rfl,Same.refl _⟩ (λ i σ J h=>?_) (λ i x U σ J hx hU h=>?_) (λ σ J h=>?_)
 ·obtain⟨y10,y11,y12,y13,y14,y15,y16,rfl,SC⟩:=h
  exact SqX.of (t:=true) (SC _ _ eB)
 ·obtain⟨y10,y11,y12,y13,y14,y15,y16,rfl,SC⟩:=h
  have hx0:ps[i]?=some x:=by
   rw[ued] at hx
   by_cases c:i<6
   ·rw[uhd c] at hx;exact hx
   ·rw[uhe c] at hx;cases hx
  obtain⟨pr,t',hpi,rfl,ht'⟩:=iO (IsAll.same (S3B.trans SC) _ hps) hx0
  have hpr:=pok.2 pr (p6 hpi)
  have SU:=aT (H:=J) (o:=.tup [.int (i:Nat),.ref t']) hU
  have SCU:=SC.trans SU
  refine⟨U,_,rfl,SqT.of aO,rfl,_,_,rfl,_,_,rfl,t',_,rfl,SqT.of (SU _ _ ht'),rfl,_,_,rfl,_,_,rfl,rfl,rfl,?_⟩
  refine⟨_,rfl,_,rfl,_,rfl,n,ts,twK ts (wysN ts prs),_,.ref ta,_,rfl,⟨Is.same SCU _ isBB,ok,eJ (SCU _ _ eta),cK _ _⟩,by left,by left,λ lD DD K1 T1 g1 h1 lD1 hD1=>?_⟩
  rw[v5] at hD1
  have eD:=(hD1 _ hpr.2).unique (zao ok pok.2 hpi)
  refine⟨_,rfl,lD,_,_,_,rfl,rfl,SqL.of h1,pV lD1 hpr.2,?_⟩
  rw[eD]
  refine⟨_,rfl,_,rfl,_,rfl,n,ts,d8 ts.length,_,.ref ev,_,rfl,⟨Is.same (SCU.trans T1) _ isBB,ok,eJ ((SCU.trans T1) _ _ eev),bR ts⟩,by left,by left,λ lE DE K2 T2 g2 h2 lD2 hD2=>?_⟩
  rw[v5] at hD2
  have eE:=(hD2 _ hpr.2).unique (dA ok pr.1 pr.2)
  refine⟨_,rfl,lE,_,_,_,rfl,rfl,SqL.of h2,pV lD2 hpr.2,?_⟩
  rw[eE]
  have lay:=zct (dG ts pr.1 pr.2)
  refine⟨_,_,qX _,qX _,lay,lay,units (uao (ufd _ _) (za8 _)),_,rfl,?_⟩
  rw[SeqAt.eqv_refl _ lay]
  exact iteF ⟨_,_,_,_,_,_,_,rfl,SCU.trans (T1.trans T2)⟩
 obtain⟨y10,y11,y12,y13,y14,y15,y16,rfl,SC⟩:=h
 have S8C:=S8B.trans SC
 have lwn:(wysN ts prs).length=prs.length:=by unfold wysN;rw[c8]
 have hos:OpsV J (wysN ts prs) ys:=⟨by rw[pv.ly,lwn],λ i o v ho hv=>by
  unfold wysN at ho
  rw[i8] at ho
  obtain⟨pr,h1,rfl⟩:=u7.mp ho
  exact (pv.wy i pr v h1 hv).op.same λ a xs e=>S8C _ _ e⟩
 refine⟨_,rfl,tb,ys,_,rfl,S8C _ _ pv.eb,hos,by left,λ tf vs1 ks1 JD SD eD aD pD wD=>?_⟩
 have S3D:=S3B.trans (SC.trans SD)
 have isD:=Is.same S3D _ is3
 have ge:=λ v=>yJ ok (os:=wysN ts prs) (zbp ok) (λ i W e=>mX ok pok.2 e) v
 obtain⟨g0',g',ws',eg,hg0D,hgD,hallD,hlwD⟩:=cD isD
 cases eg
 have etaD:=(SC.trans SD) _ _ eta
 refine⟨_,rfl,g0,_,_,_,rfl,rfl,SqT.of hg0D,rfl,n,rfl,by left,by left,?_⟩
 refine dD (n:=n.toNat) (λ v σ J=>∃ y10 y11 y12 y14 y15 y16:Option V,σ=[some (.ref a),some (.int (0+(i_:Int))),some (.ref l),some (.ref g0),some (.ref tp),some (.ref t),some (.ref ta),some (.ref tb),some (.ref tc),some (.ref ev),y10,y11,y12,some (.ref tf),y14,y15,y16]/\Same JD J) ⟨_,_,_,_,_,_,rfl,Same.refl _⟩ (λ v σ J hv h=>?_) (λ σ J h=>?_)
 ·obtain⟨y10,y11,y12,y14,y15,y16,rfl,SE⟩:=h
  rw[Int.zero_add]
  have hg0J:=SE _ _ hg0D
  have hgJ:=SE _ _ hgD
  refine⟨_,rfl,ta,rfl,⟨_,SqT.of (SE _ _ etaD)⟩,?_⟩
  have ko:=cK ts (wysN ts prs)
  have lko:=ko.len
  generalize twK ts (wysN ts prs)=ks at etaD ko lko ge
  have lN:=cR ks
  refine jG (SE _ _ etaD) (λ σ'=>∃ o,σ'=[o,some (.int (v:Int)),some (.ref g0)]) (λ i=>if endB ts v (ks.getD i 0)=true then some (V.int ((ks.getD i 0:Nat):Int)) else none) (by left) (by exact⟨none,rfl⟩) (λ i x σ' H' hx s2 sg C L hC hL=>?_) (λ L1 JF hL1 SF hH1=>?_)
  ·obtain⟨o,rfl⟩:=sg
   obtain⟨k,hk,rfl⟩:=cZ hx
   have hkl:=ko.2 k (p6 hk)
   have ek:ks.getD i 0=k:=by rw[a8,hk];rfl
   rw[ek] at hC hL
   obtain⟨tk,htk,htie⟩:=dF hallD hkl
   refine⟨_,rfl,_,rfl,g0,_,_,_,rfl,rfl,SqT.of (s2 _ _ hg0J),rfl,_,rfl,g',_,_,_,rfl,rfl,SqT.of (s2 _ _ hgJ),bQ (uat _) htk,_,rfl,tk,_,rfl,s2 _ _ (SE _ _ htie),λ tc J3 S3 e3=>?_⟩
   have e3':J3 tc=some (.tup ([(tieAt ts k).1,(tieAt ts k).2.1].map V.int)):=e3
   have eb:inV (.int (v:Int)) ([(tieAt ts k).1,(tieAt ts k).2.1].map V.int)=endB ts v k:=by
    rw[pT]
    unfold endB
    rw[ucj,decide_eq_true_eq,ub6,decide_eq_true_eq,decide_eq_true_eq]
    simp [eq_comm]
   refine⟨tc,_,rfl,.inr (SqT.of e3'),rfl,rfl,_,rfl,?_⟩
   show if (inV (V.int (v:Int)) _)=true then _ else _
   rw[eb]
   exact ite2 (λ c=>⟨_,rfl,hC _ _ _ ⟨_,rfl⟩ S3 (by rw[uhd c])⟩) (λ c=>hL _ _ ⟨_,rfl⟩ S3 (by rw[uhe c]))
  rw[lN,nJ (endB ts v)] at hH1
  refine⟨L1,_,rfl,.inl (SqL.of hH1),?_⟩
  have SDF:=SE.trans SF
  have eF:=SDF _ _ eD
  have aF:=IsAll.same SDF _ aD
  have lv1:=aD.length
  rw[c8] at lv1
  have lk1:=pD.length_eq
  have few:=pH (os:=wysN ts prs) (m:=(wysN ts prs).length) (by left)
  refine⟨_,rfl,tf,rfl,⟨_,SqT.of eF⟩,?_⟩
  refine jG eF (λ σ'=>∃ o1 o2 o3,σ'=[o1,o2,o3,some (.int (v:Int))]) (λ i=>if decide ((ks1.getD i []).getD 2 0=(v:Int))=true then some (V.int 1) else none) (by left) (by exact⟨none,none,none,rfl⟩) (λ i x σ' H' hx s2 sg C L hC hL=>?_) (λ L2 JG hL2 SG hH2=>?_)
  ·obtain⟨o1,o2,o3,rfl⟩:=sg
   obtain⟨d,hd,hx'⟩:=IsAll.from_ (IsAll.same s2 _ aF) hx
   rw[i8] at hd
   obtain⟨k,hk,rfl⟩:=u7.mp hd
   have ek:ks1.getD i []=k:=by rw[a8,hk];rfl
   rw[ek] at hC hL
   obtain⟨i1,j1,x1,rfl⟩:=nO k (pD.mem_iff.mp (p6 hk))
   obtain⟨ta',us,rfl,ht',hall'⟩:=hx'
   have eu:=IsAll.of_ints (ns:=[(i1:Int),(j1:Int),(x1:Int)]) hall'
   subst eu
   refine⟨ta',_,rfl,SqT.of ht',rfl,_,_,rfl,_,_,rfl,_,_,rfl,rfl,?_⟩
   refine⟨_,rfl,_,rfl,rfl,_,rfl,?_⟩
   rw[gQ]
   exact ite2 (λ c=>hC _ _ _ ⟨_,_,_,rfl⟩ (Same.refl _) (uhd c)) (λ c=>hL _ _ ⟨_,_,_,rfl⟩ (Same.refl _) (uhe c))
  rw[show vs1.length=ks1.length from lv1] at hH2
  have lc:=zb4 (v:=v) ks1
  refine⟨L2,_,rfl,.inl (SqL.of hH2),?_⟩
  have pc:cntX v ks1=cntX v (pgP (wysN ts prs) (wysN ts prs).length):=(pD.filter _).length_eq
  have gev:=ge v
  refine⟨_,rfl,_,_,rfl,rfl,_,_,rfl,rfl,_,rfl,?_⟩
  rw[lc,cR,uhc (by left)]
  exact iteF ⟨_,_,_,_,_,_,rfl,SDF.trans SG⟩
 obtain⟨y10,y11,y12,y14,y15,y16,rfl,SE⟩:=h
 have S3E:=S3D.trans SE
 have e4E:=S3E _ _ e4
 refine⟨_,rfl,tp,_,rfl,.inr (SqT.of e4E),_,rfl,tp,_,rfl,.inr (SqT.of e4E),_,_,rfl,rfl,?_⟩
 have hpp:((ps.length*(ps.length-1):Nat):Int)=(ps.length:Int)*((ps.length:Int)-1):=by
  cases ps.length with
  | zero=>rfl
  | succ m=>rw[Int.natCast_mul,uei];congr 1;left
 have pl:=jX (wysN ts prs) (wysN ts prs).length
 have lk1:=pD.length_eq
 have lv1:=aD.length
 rw[c8] at lv1
 have kf:=zav ok (cK ts (wysN ts prs)).2 ge
 rw[show (wysN ts prs).length*((wysN ts prs).length-1)=ps.length*(ps.length-1) by rw[lwn,lps]] at pl
 have lkk:=cR (twK ts (wysN ts prs))
 have ta2:=SE _ _ etaD
 generalize hmm:(ps.length:Int)*((ps.length:Int)-1)=mm at hpp
 refine⟨_,_,rfl,rfl,.inl ⟨by left,by left⟩,?_⟩
 show gName 16 (V.int ((ps.length:Int)*((ps.length:Int)-1))) _ J _
 rw[hmm]
 refine⟨_,rfl,tf,_,rfl,.inr (SqT.of (SE _ _ eD)),_,rfl,_,_,rfl,rfl,_,rfl,?_⟩
 rw[uhc (show ¬ mm<(vs1.length:Int) by left)]
 refine iteF ?_
 refine⟨_,rfl,ta,_,rfl,.inr (SqT.of ta2),_,_,rfl,rfl,.inl ⟨by decide,by decide⟩,?_⟩
 refine⟨_,rfl,g0,_,_,_,rfl,rfl,SqT.of (SE _ _ hg0D),rfl,_,_,rfl,rfl,.inl ⟨by decide,by decide⟩,_,rfl,_,_,rfl,rfl,_,_,rfl,rfl,_,rfl,?_⟩
 rw[lkk,uhc (by left)]
 exact iteF ⟨_,rfl,rfl,SH.trans S3E⟩
end
end Me
namespace Me
open PySem PySem.Spec PyProof.Rows L2 L3
abbrev Bdq (x:Str)(st:udi)(ps:List Str):Prop:=∀ (kV doc pm:c9)(an:Option l7)(cdv ct:c9)(us:List c9),us.length=ps.length->bindArgs (ub9 x x (defArgs st) (defBody st) (defScope st) .none kV doc pm an cdv ct) ⟨us,[]⟩=pure (ps.zip us)
theorem zd5 {K:b8}{h:Heap}{mg:Str->Option c9}{x:Str}{st:udi}{ps:List Str}{f:l7}{od an:Option l7}{sl:Array (Option c9)}{oc kV dc pm cd ct:c9}(X:K.In h)(G:h.Ns p9 mg)
  (b:∀ (kV doc pm:c9)(an:Option l7)(cdv ct:c9)(us:List c9),us.length=ps.length->bindArgs (ub9 x x (defArgs st) (defBody st) (defScope st) .none kV doc pm an cdv ct) ⟨us,[]⟩=pure (ps.zip us))
  (a:ual K p9 x=some (some (.ref f))) (l:K.lookup f=some ⟨oc,od,.func (ub9 x x (defArgs st) (defBody st) (defScope st) .none kV dc pm an cd ct),sl⟩) (c:ud8 K cd x=true) (k:uds K (.ref f)=true):DefOk K mg x st ps:=by
 have F:=rC (st:=st) l c k
 exact⟨f,_,F,F.binds b,PySem.W.mg_of X G a⟩
theorem dq {p:l9}{K:b8}{h:Heap}{mg:Str->Option c9}{x:Str}{st:udi}{ps:List Str}(f c j u:Nat)(X:K.In h)(G:h.Ns p9 mg)
  (b:∀ (kV doc pm:c9)(an:Option l7)(cdv ct:c9)(us:List c9),us.length=ps.length->bindArgs (ub9 x x (defArgs st) (defBody st) (defScope st) .none kV doc pm an cdv ct) ⟨us,[]⟩=pure (ps.zip us))
  (a:ual K p9 x=some (some (.ref f)):=by kernel_rfl) (l:K.lookup f=some ⟨.type "function",none,.func (ub9 x x (defArgs st) (defBody st) (defScope st) .none .none .none (Hx.mdV p ⟨0,0,0,j,u,0⟩) none (.ref c) .none),#[]⟩:=by kernel_rfl) (cc:ud8 K (.ref c) x=true:=by kernel_rfl) (k:uds K (.ref f)=true:=by kernel_rfl):DefOk K mg x st ps:=zd5 X G b a l cc k
theorem wK:Bdq "is_whole" s_is_whole ["thing"]:=by ac_rfl
theorem vG:Bdq "is_wholes" s_is_wholes ["thing"]:=by ac_rfl
theorem vH:Bdq "is_rising" s_is_rising ["parts"]:=by ac_rfl
theorem tR:Bdq "is_tuple_of" s_is_tuple_of ["thing","many"]:=by ac_rfl
theorem wL:Bdq "is_place" s_is_place ["web","thing"]:=by ac_rfl
theorem sI:Bdq "is_tie_number" s_is_tie_number ["web","thing"]:=by ac_rfl
theorem xM:Bdq "is_keep" s_is_keep ["web","thing"]:=by ac_rfl
theorem zbk:Bdq "whole" s_whole ["web"]:=by ac_rfl
theorem tP:Bdq "tie_between" s_tie_between ["web","a","b"]:=by ac_rfl
theorem rW:Bdq "are_unlike_places" s_are_unlike_places ["web","thing"]:=by ac_rfl
theorem uJ:Bdq "ties_along" s_ties_along ["web","places"]:=by ac_rfl
theorem vD:Bdq "way_right" s_way_right ["web","keep","way"]:=by ac_rfl
theorem sG:Bdq "leads_between" s_leads_between ["web","keep","a","b","way"]:=by ac_rfl
theorem uI:Bdq "way_length" s_way_length ["web","way"]:=by ac_rfl
theorem tO:Bdq "tie_weights" s_tie_weights ["web"]:=by ac_rfl
theorem vJ:Bdq "cost_with" s_cost_with ["cost","length","weight"]:=by ac_rfl
theorem sR:Bdq "reached_from" s_reached_from ["web","keep","root"]:=by ac_rfl
theorem vI:Bdq "fars_from" s_fars_from ["web","keep","root"]:=by ac_rfl
theorem vE:Bdq "tree_from" s_tree_from ["web","keep","root"]:=by ac_rfl
theorem xL:Bdq "the_way" s_the_way ["web","keep","a","b"]:=by ac_rfl
theorem zP:Bdq "across" s_across ["web","tie","heights"]:=by ac_rfl
theorem sU:Bdq "heights_hold" s_heights_hold ["web","keep","heights"]:=by ac_rfl
theorem sV:Bdq "heights_from" s_heights_from ["web","keep","a","roof"]:=by ac_rfl
theorem tN:Bdq "web_heights" s_web_heights ["web","place"]:=by ac_rfl
theorem sS:Bdq "out_of_reach" s_out_of_reach ["height"]:=by ac_rfl
theorem sQ:Bdq "ties_of_ways" s_ties_of_ways ["web","ways"]:=by ac_rfl
theorem uK:Bdq "pairs_told" s_pairs_told ["web","pairs"]:=by ac_rfl
theorem uL:Bdq "pair_right" s_pair_right ["web","keep","pair","way","heights"]:=by ac_rfl
theorem tQ:Bdq "pairs_right" s_pairs_right ["web","pairs","told"]:=by ac_rfl
theorem vF:Bdq "shared_by" s_shared_by ["one","other"]:=by ac_rfl
theorem wJ:Bdq "partings" s_partings ["ways"]:=by ac_rfl
theorem wN:Bdq "_law_pot" s__law_pot ["script","k"]:=by ac_rfl
theorem vL:Bdq "_law_take" s__law_take ["pot","many"]:=by ac_rfl
theorem tT:Bdq "_law_length" s__law_length ["pot","way"]:=by ac_rfl
theorem vK:Bdq "_law_tied" s__law_tied ["pot","n","style","a","b"]:=by ac_rfl
theorem uN:Bdq "_law_order" s__law_order ["pot","many"]:=by ac_rfl
theorem wM:Bdq "_law_web" s__law_web ["pot","most"]:=by ac_rfl
theorem vM:Bdq "_law_fars" s__law_fars ["web","keep","start"]:=by ac_rfl
theorem uM:Bdq "_law_pairs" s__law_pairs ["pot","n"]:=by ac_rfl
theorem zcu {P:l9}{w:uak}{K:b8}{mg:Str->Option c9}{base:Heap}{f:l7}{fd:FuncData}(T:Bi mg)
  (D_is_whole:DefOk K mg "is_whole" s_is_whole ["thing"])
  (D_is_wholes:DefOk K mg "is_wholes" s_is_wholes ["thing"])
  (D_is_rising:DefOk K mg "is_rising" s_is_rising ["parts"])
  (D_is_tuple_of:DefOk K mg "is_tuple_of" s_is_tuple_of ["thing","many"])
  (D_is_place:DefOk K mg "is_place" s_is_place ["web","thing"])
  (D_is_tie_number:DefOk K mg "is_tie_number" s_is_tie_number ["web","thing"])
  (D_is_keep:DefOk K mg "is_keep" s_is_keep ["web","thing"])
  (D_whole:DefOk K mg "whole" s_whole ["web"])
  (D_tie_between:DefOk K mg "tie_between" s_tie_between ["web","a","b"])
  (D_are_unlike_places:DefOk K mg "are_unlike_places" s_are_unlike_places ["web","thing"])
  (D_ties_along:DefOk K mg "ties_along" s_ties_along ["web","places"])
  (D_way_right:DefOk K mg "way_right" s_way_right ["web","keep","way"])
  (D_leads_between:DefOk K mg "leads_between" s_leads_between ["web","keep","a","b","way"])
  (D_way_length:DefOk K mg "way_length" s_way_length ["web","way"])
  (D_tie_weights:DefOk K mg "tie_weights" s_tie_weights ["web"])
  (D_cost_with:DefOk K mg "cost_with" s_cost_with ["cost","length","weight"])
  (D_reached_from:DefOk K mg "reached_from" s_reached_from ["web","keep","root"])
  (D_fars_from:DefOk K mg "fars_from" s_fars_from ["web","keep","root"])
  (D_tree_from:DefOk K mg "tree_from" s_tree_from ["web","keep","root"])
  (D_the_way:DefOk K mg "the_way" s_the_way ["web","keep","a","b"])
  (D_across:DefOk K mg "across" s_across ["web","tie","heights"])
  (D_heights_hold:DefOk K mg "heights_hold" s_heights_hold ["web","keep","heights"])
  (D_heights_from:DefOk K mg "heights_from" s_heights_from ["web","keep","a","roof"])
  (D_web_heights:DefOk K mg "web_heights" s_web_heights ["web","place"])
  (D_out_of_reach:DefOk K mg "out_of_reach" s_out_of_reach ["height"])
  (D_ties_of_ways:DefOk K mg "ties_of_ways" s_ties_of_ways ["web","ways"])
  (D_pairs_told:DefOk K mg "pairs_told" s_pairs_told ["web","pairs"])
  (D_pair_right:DefOk K mg "pair_right" s_pair_right ["web","keep","pair","way","heights"])
  (D_pairs_right:DefOk K mg "pairs_right" s_pairs_right ["web","pairs","told"])
  (D_shared_by:DefOk K mg "shared_by" s_shared_by ["one","other"])
  (D_partings:DefOk K mg "partings" s_partings ["ways"])
  (D__law_pot:DefOk K mg "_law_pot" s__law_pot ["script","k"])
  (D__law_take:DefOk K mg "_law_take" s__law_take ["pot","many"])
  (D__law_length:DefOk K mg "_law_length" s__law_length ["pot","way"])
  (D__law_tied:DefOk K mg "_law_tied" s__law_tied ["pot","n","style","a","b"])
  (D__law_order:DefOk K mg "_law_order" s__law_order ["pot","many"])
  (D__law_web:DefOk K mg "_law_web" s__law_web ["pot","most"])
  (D__law_fars:DefOk K mg "_law_fars" s__law_fars ["web","keep","start"])
  (D__law_pairs:DefOk K mg "_law_pairs" s__law_pairs ["pot","n"])
  (F:Fun K "law" "law" s_law f fd):FnOk P w K mg base CX0 8 f fd ["script"] (spLaw K):=by
 have O__law_take:=uW (P:=P) (w:=w) (base:=base) T D__law_take
 have O__law_pot:=vY (P:=P) (w:=w) (base:=base) T D__law_pot
 have O__law_length:=tG T D__law_length O__law_take
 have O__law_tied:=uV T D__law_tied O__law_take
 have O__law_order:=uC T D__law_order O__law_take
 have O__law_web:=vX T D__law_web (O__law_take.mono (by decide)) O__law_order O__law_tied O__law_length
 have O_whole:=zaq (P:=P) (w:=w) (base:=base) T D_whole
 have O_tie_between:=tE (P:=P) (w:=w) (base:=base) T D_tie_between
 have O_ties_along:=sY T D_ties_along O_tie_between
 have O_tie_weights:=tD (P:=P) (w:=w) (base:=base) T D_tie_weights
 have O_cost_with:=uU (P:=P) (w:=w) (base:=base) T D_cost_with
 have O_reached_fromC:=sD T D_reached_from O_tie_weights O_cost_with
 have O_reached_from:‹2› "reached_from" ["web","keep","root"] (spReached K):=O_reached_fromC.imp yD
 have O_reached_fromB:‹2› "reached_from" ["web","keep","root"] (spReachedB K):=O_reached_fromC.imp yE
 have O_fars_from:=uT T D_fars_from O_reached_from
 have O_tree_from:=tY T D_tree_from O_reached_fromB
 have O_the_wayB:=vT T D_the_way O_tree_from
 have O_the_way:‹4› "the_way" ["web","keep","a","b"] (spWayM K):=O_the_wayB.imp zed
 have O_heights_from:=sN T D_heights_from O_fars_from
 have O_web_heights:=sX T D_web_heights O_heights_from (O_whole.mono (by decide))
 have O_ties_of_ways:=sJ T D_ties_of_ways O_ties_along
 have O_pairs_told:=uA T D_pairs_told (O_the_way.mono (by decide)) (O_whole.mono (by decide)) O_web_heights (O_ties_of_ways.mono (by decide))
 have O_is_whole:=vV (P:=P) (w:=w) (base:=base) T D_is_whole
 have O_is_wholes:=uS T D_is_wholes O_is_whole
 have O_is_place:=vW T D_is_place O_is_whole
 have O_are_unlike_places:=rV T D_are_unlike_places O_is_place
 have O_ties_alongN:=tZ T D_ties_along O_tie_between
 have O_ties_alongO:=sZ T D_ties_along O_tie_between
 have O_way_length:=tX T D_way_length O_ties_alongN
 have O_way_right:=tW T D_way_right O_are_unlike_places (O_ties_alongO.mono (by decide))
 have O_leads_between:=sA T D_leads_between O_way_right
 have O_across:=yM (P:=P) (w:=w) (base:=base) T D_across
 have O_heights_hold:=sM T D_heights_hold O_is_wholes (O_across.mono (by decide))
 have O_out_of_reach:=sK (P:=P) (w:=w) (K:=K) (base:=base) T D_out_of_reach
 have O_is_tuple_of:=sL (P:=P) (w:=w) (K:=K) (base:=base) T D_is_tuple_of
 have O_is_tie_number:=sE T D_is_tie_number O_is_whole
 have O_is_rising:=sB (P:=P) (w:=w) (K:=K) (base:=base) T D_is_rising
 have O_is_keep:=wV T D_is_keep O_is_tie_number (O_is_rising.mono (by decide))
 have O_pair_right:=uB T D_pair_right (O_heights_hold.mono (by decide)) (O_whole.mono (by decide)) (O_out_of_reach.mono (by decide)) (O_leads_between.mono (by decide)) (O_way_length.mono (by decide))
 have O_pairs_right:=tF T D_pairs_right (O_is_tuple_of.mono (by decide)) (O_is_keep.mono (by decide)) O_pair_right (O_ties_of_ways.mono (by decide))
 have O__law_pairs:=sO T D__law_pairs O__law_take
 have O_shared_by:=uR (P:=P) (w:=w) (K:=K) (base:=base) T D_shared_by
 have O_partings:=vU T D_partings O_shared_by
 have O__law_fars:=uX (P:=P) (w:=w) (base:=base) T D__law_fars
 exact zdr T F (O__law_take.mono (by decide)) (O__law_pot.mono (by decide)) (O__law_web.mono (by decide)) (O__law_pairs.mono (by decide)) (O_pairs_told.mono (by decide)) O_pairs_right (O__law_fars.mono (by decide)) (O_partings.mono (by decide))
theorem walk {l:PySem.W.OpenLaw}{q:l9}{loose:List Str}{XP:(Str->Option c9)->Heap->Prop}{YP:uak->Heap->Prop}{d:DefRec}{K:Params->b8}(hn:l.most=some 63)(hdf:d.params.defaults=[])
  (hY:∀ (w:uak)(h:Heap),YP w h->(K w.params).In h)
  (F:∀ (w:uak)(mg:Str->Option c9)(fa:l7)(h:Heap),(K w.params).In h->h.Ns p9 mg->mg d.name=some (.ref fa) ->
   ∃ fd:FuncData,(∀ (s:d7)(u:c9),BindsTo s fd ⟨[u],[]⟩ [("script",u)])/\∀ base:Heap,(K w.params).In base->base.Ns p9 mg->FnOk l.prog w (K w.params) mg base CX0 8 fa fd ["script"] (spLaw (K w.params))) :
  PySem.W.WalkO q loose XP YP l.row.toRowW d [] (λ f vs=>PySem.call f vs) :=
 L2.zbs (n:=63) (k:=8) (x:="script") (CX:=λ _=>CX0) (sp:=λ w=>spLaw (K w.params)) hn (by decide) hdf ⟨rfl,by decide,by decide,rfl⟩ hY F (λ _ _ a ns hl _ hS=>⟨a,ns,rfl,hS,hl,λ _=>rfl⟩) λ _ _ _ _ _ z=>z
end Me
namespace Hy
open PySem PySem.W Hx
def cs:List Ch:=[⟨0,15,187,0,187,0⟩,⟨1,15,189,0,187,0⟩,⟨2,22,196,0,187,0⟩,⟨3,27,202,0,187,0⟩,⟨4,32,208,0,187,0⟩,⟨5,39,216,5,216,0⟩,⟨6,39,218,5,216,0⟩,⟨7,46,226,5,216,0⟩,⟨8,53,234,5,216,0⟩,⟨9,58,240,5,216,0⟩,⟨10,65,247,5,216,0⟩,⟨11,72,259,11,259,0⟩,⟨12,72,261,11,259,0⟩,⟨13,77,267,11,259,0⟩,⟨14,82,273,11,259,0⟩,⟨15,87,279,11,259,0⟩,⟨16,94,290,11,259,0⟩,⟨17,99,296,11,259,0⟩,⟨18,106,306,11,259,0⟩,⟨19,113,315,11,259,0⟩,⟨20,120,335,11,259,0⟩,⟨21,125,341,11,259,0⟩,⟨22,132,352,11,259,0⟩,⟨23,139,364,23,364,0⟩,⟨24,139,366,23,364,0⟩,⟨25,146,378,23,364,0⟩,⟨26,151,384,23,364,0⟩,⟨27,156,390,27,390,0⟩,⟨28,156,392,27,390,0⟩,⟨29,163,400,27,390,0⟩,⟨30,170,407,30,407,0⟩,⟨31,170,409,30,407,0⟩,⟨32,177,419,30,407,0⟩,⟨33,182,425,30,407,0⟩,⟨34,189,439,30,407,0⟩,⟨35,194,445,30,407,0⟩,⟨36,199,451,30,407,0⟩,⟨37,206,464,37,464,0⟩,⟨38,206,466,37,464,0⟩,⟨39,213,476,37,464,0⟩,⟨40,220,485,37,464,0⟩,⟨41,227,493,37,464,0⟩,⟨42,234,505,37,464,0⟩,⟨43,241,516,37,464,0⟩,⟨44,248,533,37,464,0⟩,⟨45,253,539,37,464,0⟩,⟨46,260,557,37,464,0⟩,⟨47,267,571,37,464,0⟩]
end Hy
lay_quick Hx.PieceT Hx.PreT Hx.BlockT Hx.LookA Hx.LookB Hx.LookC PySem.Challenge.pw_thinways_k51_whole_few_ties_for_pairs
namespace Hy
open PySem PySem.W Hx
theorem pre:PreT a7 boots boot_drawn boot_heap boot_toks cs ⟨0,15,187⟩:=by
 rw[PySem.W.Fast.te16428918119715843241,PySem.W.Fast.te17929109138018350032];delta PySem.W.Fast.tw16428918119715843241;intro w;kernel_rfl
theorem pc0:PieceT a7 boots boot_drawn cs ⟨0,15,187⟩ ⟨16,94,290⟩ 399:=by
 rw[PySem.W.Fast.te4643275101561185336,PySem.W.Fast.te17929109138018350032];delta PySem.W.Fast.tw4643275101561185336;intro w;kernel_rfl
theorem pc1:PieceT a7 boots boot_drawn cs ⟨16,94,290⟩ ⟨31,170,409⟩ 397:=by
 rw[PySem.W.Fast.te4643275101561185336,PySem.W.Fast.te17929109138018350032];delta PySem.W.Fast.tw4643275101561185336;intro w;kernel_rfl
theorem pc2:PieceT a7 boots boot_drawn cs ⟨31,170,409⟩ ⟨44,248,533⟩ 390:=by
 rw[PySem.W.Fast.te4643275101561185336,PySem.W.Fast.te17929109138018350032];delta PySem.W.Fast.tw4643275101561185336;intro w;kernel_rfl
theorem pc3:PieceT a7 boots boot_drawn cs ⟨44,248,533⟩ ⟨48,272,577⟩ 129:=by
 rw[PySem.W.Fast.te4643275101561185336,PySem.W.Fast.te17929109138018350032];delta PySem.W.Fast.tw4643275101561185336;intro w;kernel_rfl
theorem blk:BlockT a7 :=by
 rw[PySem.W.Fast.te421534021395069552,PySem.W.Fast.te17929109138018350032];delta PySem.W.Fast.tw421534021395069552;intro w s;kernel_rfl
theorem run (w:uak)(os:OsState):topRun treeTable a7 w 11 ann0 (12+(1+(399+(397+(390+(129+2)))))) ⟨boot_heap w.params,ues [],boot_drawn,boot_toks,os⟩ (topStub a7)=some (stT a7 boots boot_drawn cs ⟨48,272,577⟩ w os).abs:=zb8 pre blk (chain pc0 (by decide) (chain pc1 (by decide) (chain pc2 (by decide) (chain pc3 (by decide) (zG (by kernel_rfl))))))
theorem size (w:uak):((boot_heap w.params).isNs p9&&(ues []:Array GenState).size==0,(boot_heap w.params).objs.size,(boot_heap w.params).nsMap p9 "__annotations__")=(true,11,ann0):=by kernel_rfl
theorem lkA:LookA a7 boots boot_drawn boot_heap cs ⟨48,272,577⟩:=by
 rw[PySem.W.Fast.te7818774390570169022,PySem.W.Fast.te17929109138018350032];delta PySem.W.Fast.tw7818774390570169022;intro w;kernel_rfl
theorem lkB:LookB a7 boots boot_drawn cs ⟨48,272,577⟩ [47] (OpenRow.toRowW (m7).row).records:=by
 rw[PySem.W.Fast.te13889730532244352606,PySem.W.Fast.te17929109138018350032];delta PySem.W.Fast.tw13889730532244352606;intro w;kernel_rfl
theorem lkC:LookC a7 boots cs ⟨48,272,577⟩ [3,20,21,25,26,30,31,37,38,44,45,51,52,56,57,63,64,70,71,75,76,80,81,85,86,92,93,97,98,104,105,111,112,118,119,123,124,130,131,137,138,144,145,149,150,154,155,161,162,168,169,175,176,180,181,187,188,192,193,197,198,204,205,211,212,218,219,225,226,232,233,239,240,246,247,251,252,258,259,265,266,270,271]:=by
 rw[PySem.W.Fast.te6241646928739474683,PySem.W.Fast.te17929109138018350032];delta PySem.W.Fast.tw6241646928739474683;intro w;kernel_rfl
noncomputable abbrev K:=Kf a7 boots cs
theorem Kas (P:Params):[3,20,21,25,26,30,31,37,38,44,45,51,52,56,57,63,64,70,71,75,76,80,81,85,86,92,93,97,98,104,105,111,112,118,119,123,124,130,131,137,138,144,145,149,150,154,155,161,162,168,169,175,176,180,181,187,188,192,193,197,198,204,205,211,212,218,219,225,226,232,233,239,240,246,247,251,252,258,259,265,266,270,271]=(K P).map (·.1):=by kernel_rfl
noncomputable abbrev H:Hook:=kHook K [3,20,21,25,26,30,31,37,38,44,45,51,52,56,57,63,64,70,71,75,76,80,81,85,86,92,93,97,98,104,105,111,112,118,119,123,124,130,131,137,138,144,145,149,150,154,155,161,162,168,169,175,176,180,181,187,188,192,193,197,198,204,205,211,212,218,219,225,226,232,233,239,240,246,247,251,252,258,259,265,266,270,271] Kas
theorem opn:opening a7=plainProg (a7).main.scope.names:=by kernel_rfl
theorem fnc (s:d7):fenceModules? a7 s=some s:=by kernel_rfl
theorem left:LeftO a7 (qv a7 [47]) (lz a7 [47] 48) (λ s=>xlAt (qv a7 [47]) [] s&&recOk (OpenRow.toRowW (m7).row).records s) (Hook.obs H) (Hook.val H) 3260 :=
 zcr (p:=a7) (cs:=cs) (is:=[47]) (as:=[3,20,21,25,26,30,31,37,38,44,45,51,52,56,57,63,64,70,71,75,76,80,81,85,86,92,93,97,98,104,105,111,112,118,119,123,124,130,131,137,138,144,145,149,150,154,155,161,162,168,169,175,176,180,181,187,188,192,193,197,198,204,205,211,212,218,219,225,226,232,233,239,240,246,247,251,252,258,259,265,266,270,271]) (rc:=(OpenRow.toRowW (m7).row).records) (c:=⟨48,272,577⟩) (M:=12+(1+(399+(397+(390+(129+2)))))) (N:=3260) (e:=Kas) opn (by decide) fnc size run (by decide) lkA lkB lkC
end Hy
namespace Hy
open PySem PySem.W PyProof.Rows L2 L3 Hx Me
theorem all {w:uak}{h:Heap}{mg:Str->Option c9}{fa:l7}(X:(K w.params).In h)(G:h.Ns p9 mg)(hfa:mg "law"=some (.ref fa)) :
  ∃ fd:FuncData,(∀ (s:d7)(v:c9),BindsTo s fd ⟨[v],[]⟩ [("script",v)])/\∀ base:Heap,(K w.params).In base->base.Ns p9 mg->FnOk (m7).prog w (K w.params) mg base CX0 8 fa fd ["script"] (spLaw (K w.params)):=by
 have T:Bi mg:=⟨r8 X G (show ual (K w.params) p9 "len"=some none by kernel_rfl),r8 X G (show ual (K w.params) p9 "range"=some none by kernel_rfl),r8 X G (show ual (K w.params) p9 "zip"=some none by kernel_rfl),r8 X G (show ual (K w.params) p9 "all"=some none by kernel_rfl),r8 X G (show ual (K w.params) p9 "sorted"=some none by kernel_rfl),r8 X G (show ual (K w.params) p9 "isinstance"=some none by kernel_rfl),r8 X G (show ual (K w.params) p9 "min"=some none by kernel_rfl),r8 X G (show ual (K w.params) p9 "max"=some none by kernel_rfl),r8 X G (show ual (K w.params) p9 "tuple"=some none by kernel_rfl),r8 X G (show ual (K w.params) p9 "list"=some none by kernel_rfl),r8 X G (show ual (K w.params) p9 "int"=some none by kernel_rfl),r8 X G (show ual (K w.params) p9 "bool"=some none by kernel_rfl),r8 X G (show ual (K w.params) p9 "str"=some none by kernel_rfl),r8 X G (show ual (K w.params) p9 "enumerate"=some none by kernel_rfl),r8 X G (show ual (K w.params) p9 "sum"=some none by kernel_rfl),r8 X G (show ual (K w.params) p9 "abs"=some none by kernel_rfl),r8 X G (show ual (K w.params) p9 "set"=some none by kernel_rfl),r8 X G (show ual (K w.params) p9 "reversed"=some none by kernel_rfl),r8 X G (show ual (K w.params) p9 "any"=some none by kernel_rfl),r8 X G (show ual (K w.params) p9 "repr"=some none by kernel_rfl),r8 X G (show ual (K w.params) p9 "dict"=some none by kernel_rfl)⟩
 have D_is_whole:=dq (p:=a7) (ps:=["thing"]) 21 20 0 187 X G wK
 have D_is_wholes:=dq (p:=a7) (ps:=["thing"]) 26 25 0 187 X G vG
 have D_is_rising:=dq (p:=a7) (ps:=["parts"]) 31 30 0 187 X G vH
 have D_is_tuple_of:=dq (p:=a7) (ps:=["thing","many"]) 38 37 0 187 X G tR
 have D_is_place:=dq (p:=a7) (ps:=["web","thing"]) 45 44 5 216 X G wL
 have D_is_tie_number:=dq (p:=a7) (ps:=["web","thing"]) 52 51 5 216 X G sI
 have D_is_keep:=dq (p:=a7) (ps:=["web","thing"]) 57 56 5 216 X G xM
 have D_whole:=dq (p:=a7) (ps:=["web"]) 64 63 5 216 X G zbk
 have D_tie_between:=dq (p:=a7) (ps:=["web","a","b"]) 71 70 5 216 X G tP
 have D_are_unlike_places:=dq (p:=a7) (ps:=["web","thing"]) 76 75 11 259 X G rW
 have D_ties_along:=dq (p:=a7) (ps:=["web","places"]) 81 80 11 259 X G uJ
 have D_way_right:=dq (p:=a7) (ps:=["web","keep","way"]) 86 85 11 259 X G vD
 have D_leads_between:=dq (p:=a7) (ps:=["web","keep","a","b","way"]) 93 92 11 259 X G sG
 have D_way_length:=dq (p:=a7) (ps:=["web","way"]) 98 97 11 259 X G uI
 have D_tie_weights:=dq (p:=a7) (ps:=["web"]) 105 104 11 259 X G tO
 have D_cost_with:=dq (p:=a7) (ps:=["cost","length","weight"]) 112 111 11 259 X G vJ
 have D_reached_from:=dq (p:=a7) (ps:=["web","keep","root"]) 119 118 11 259 X G sR
 have D_fars_from:=dq (p:=a7) (ps:=["web","keep","root"]) 124 123 11 259 X G vI
 have D_tree_from:=dq (p:=a7) (ps:=["web","keep","root"]) 131 130 11 259 X G vE
 have D_the_way:=dq (p:=a7) (ps:=["web","keep","a","b"]) 138 137 11 259 X G xL
 have D_across:=dq (p:=a7) (ps:=["web","tie","heights"]) 145 144 23 364 X G zP
 have D_heights_hold:=dq (p:=a7) (ps:=["web","keep","heights"]) 150 149 23 364 X G sU
 have D_heights_from:=dq (p:=a7) (ps:=["web","keep","a","roof"]) 155 154 23 364 X G sV
 have D_web_heights:=dq (p:=a7) (ps:=["web","place"]) 162 161 27 390 X G tN
 have D_out_of_reach:=dq (p:=a7) (ps:=["height"]) 169 168 27 390 X G sS
 have D_ties_of_ways:=dq (p:=a7) (ps:=["web","ways"]) 176 175 30 407 X G sQ
 have D_pairs_told:=dq (p:=a7) (ps:=["web","pairs"]) 181 180 30 407 X G uK
 have D_pair_right:=dq (p:=a7) (ps:=["web","keep","pair","way","heights"]) 188 187 30 407 X G uL
 have D_pairs_right:=dq (p:=a7) (ps:=["web","pairs","told"]) 193 192 30 407 X G tQ
 have D_shared_by:=dq (p:=a7) (ps:=["one","other"]) 198 197 30 407 X G vF
 have D_partings:=dq (p:=a7) (ps:=["ways"]) 205 204 30 407 X G wJ
 have D__law_pot:=dq (p:=a7) (ps:=["script","k"]) 212 211 37 464 X G wN
 have D__law_take:=dq (p:=a7) (ps:=["pot","many"]) 219 218 37 464 X G vL
 have D__law_length:=dq (p:=a7) (ps:=["pot","way"]) 226 225 37 464 X G tT
 have D__law_tied:=dq (p:=a7) (ps:=["pot","n","style","a","b"]) 233 232 37 464 X G vK
 have D__law_order:=dq (p:=a7) (ps:=["pot","many"]) 240 239 37 464 X G uN
 have D__law_web:=dq (p:=a7) (ps:=["pot","most"]) 247 246 37 464 X G wM
 have D__law_fars:=dq (p:=a7) (ps:=["web","keep","start"]) 259 258 37 464 X G vM
 have D__law_pairs:=dq (p:=a7) (ps:=["pot","n"]) 266 265 37 464 X G uM
 have e:=hfa.symm.trans (PySem.W.mg_of X G (show ual (K w.params) p9 "law"=some (some (.ref 271)) by kernel_rfl))
 cases e
 have F:=rC (x:="law") (qual:="law") (st:=s_law) (K:=K w.params) (f:=271) (oc:=.type "function") (od:=none) (an:=none) (osl:=#[]) (kV:=.none) (doc:=.none) (pm:=Hx.mdV a7 ⟨0,0,0,37,464,0⟩) (cdv:=.ref 270) (ct:=.none) (by kernel_rfl) (by kernel_rfl) (by kernel_rfl)
 exact⟨_,λ s v=>.of_eq rfl,λ base _ _=>zcu (P:=(m7).prog) (w:=w) (base:=base) T D_is_whole D_is_wholes D_is_rising D_is_tuple_of D_is_place D_is_tie_number D_is_keep D_whole D_tie_between D_are_unlike_places D_ties_along D_way_right D_leads_between D_way_length D_tie_weights D_cost_with D_reached_from D_fars_from D_tree_from D_the_way D_across D_heights_hold D_heights_from D_web_heights D_out_of_reach D_ties_of_ways D_pairs_told D_pair_right D_pairs_right D_shared_by D_partings D__law_pot D__law_take D__law_length D__law_tied D__law_order D__law_web D__law_fars D__law_pairs F⟩
end Hy
open PySem PySem.W PyProof.Rows
set_option maxRecDepth 100000 in
set_option maxHeartbeats 0 in
theorem PySem.Challenge.cw_thinways_k51_whole_few_ties_for_pairs_holds : PySem.Challenge.rw_thinways_k51_whole_few_ties_for_pairs.Holds := by
 w_on;o_law
 refine holds_open (q:=(Hx.qv PySem.Challenge.pw_thinways_k51_whole_few_ties_for_pairs [47])) (loose:=Hx.lz PySem.Challenge.pw_thinways_k51_whole_few_ties_for_pairs [47] 48) (Xt:=λ s=>xlAt (Hx.qv PySem.Challenge.pw_thinways_k51_whole_few_ties_for_pairs [47]) [] s&&recOk (OpenRow.toRowW (PySem.Challenge.rw_thinways_k51_whole_few_ties_for_pairs).row).records s) (XP:=XL (Hx.qv PySem.Challenge.pw_thinways_k51_whole_few_ties_for_pairs [47]) []) (Yf:=Hook.obs Hy.H) (Ya:=Hook.val Hy.H) (YP:=Hook.says Hy.H) (N:=3260) Hy.left (Hook.of Hy.H) (Hook.keeps Hy.H) (λ s e=>xl_of s (Bool.and_eq_true_iff.mp e).1) XL.keeps (by rfl) (by rfl) (by rfl) (λ s e=>recFacts_of (Bool.and_eq_true_iff.mp e).2) (by rfl) (by first | assumption | decide +kernel) (by symm) ⟨rfl,rfl,rfl,rfl,rfl,by symm⟩ ?hw ?hc
 case hw=>w_witness2
 case hc =>
  refine Me.walk (l:=PySem.Challenge.rw_thinways_k51_whole_few_ties_for_pairs) rfl rfl (λ w h Y=>PySem.W.kIn_of Y) λ w mg fa h KX G hmg=>Hy.all KX G hmg
