import PyProof.Rows.All
import Wide.All
import OpenK.AllK
import Wide.FinOn
import Lean
import PyProof.EqAt
import PyProof.EqKinds
import PyProof.TupleCall
import KE.KSortTup
import PyProof.ZipIter
import PyProof.TupleIter
import PyProof.WalksMore
import PyProof.Rows.TupIter
import PyProof.EnumIter
import PyProof.EnumFor
import PyProof.EnumStmt
import PyProof.ReprRoads
import PyProof.Rows.SeqMore
import PyProof.ListMulRoad
import PyProof.FactsAll.tuple_2
import PyProof.FactsAll.tuple_3
import PyProof.Rows.Tup
import PyProof.ListRange
import PyProof.TupleOfSeq
import PyProof.SumAny
import PyProof.ConsumeS
import PyProof.Rows.CallKwBuiltin
import KE.KLam
import KE.KSortKey
import PyProof.AutoSeq1
import KE.KListMore
import PyProof.FactsAll.subtypes_4
import PyProof.SetRoads
import PyProof.Rows.SetFrom
import PyProof.WalkInts
import PyProof.DictDisplay
import PyProof.ReprBulk
import PyProof.DictWalks
import PySem.SetTable
import PyProof.FactsAll.set_2
import PySem.Challenge.RW_thinways_k79_walks_round_a_forest
set_option Elab.async false
set_option linter.all false
set_option maxRecDepth 100000
def ug8:=@decide_eq_true
def ug9:=@of_decide_eq_true
def uha:=@decide_eq_false
def uhb:=@of_decide_eq_false
def uhc:=@if_pos
def uhd:=@if_neg
open PySem.Challenge renaming pw_thinways_k79_walks_round_a_forest→a8, rw_thinways_k79_walks_round_a_forest→r9
open PySem renaming wpAny_bind→a9, wpAny_pure→c8, Value→d6, Shared→d7, wpAny→j8, Addr→j9, Program→m5, mainGlobals→p8, sizeLine→v5, model→v6, wpAny_setState_of→uad, wpAny_ite_split→uae, Around→uaf, World→ual, wpAny_holding→uam, wpAny_callSpecial?_slot→uan, wpAny_call_entry→uat, wpAny_newObj_type→uay, wpAny_field→ua3, wpAny_setField_rec→ua6, starEach→ubd, sizeLine_eq→ubj, mem_of_lookup→ubk, wpAny_seqItems→ubl, codeAny_builtin→ubm, PyData→ubr, wpAny_askSetting→ubz, wpAny_mono→ub4, FuncData→ub7, wpAny_setEntries_of→ucb, Expr→ucg, wpAny_truthy_bool→ucy, wpAny_storeSet_of→ucz, wpAny_rule→uc0, wpAny_pyIter_list→uc1, fits_of_scanBound→uc2, wpAny_attempt→uc8, plainId_quiet→uc9, wpAny_isInstance→udb, wpAny_setField→udc, Stmt→ude, wpAny_passesOwn→udg, codeAny_mono→udh, wpAny_letGo→udt, wpAny_newList→udw, wpAny_Call_Name_kw→udx, wpAny_updateSeq→uef, wpAny_loadPart'→ueg, Scope→ueh, wpAny_typeOf→uen, wpAny_tryCatch→ueo, isSubtype_type→uep, wpAny_standAt→uez, SetOf_store→ue0, wpAny_execs_nil→ue9, call_meets→ufb, wpAny_updateSeq_pair→ufg, codeAny_call_builtin→ufh, wpAny_runValue→ufm, wpAny_newTuple→ufn, wpAny_fieldsOf→ufo, isSubtype_stop→ufp, wpAny_pyIter_tuple→uf3, wpAny_onRaise→uf4, weight_type_call_type→uf5, wpAny_setEpoch_of→uge, wpAny_call→ugf, check_set_init_1→ug3
open PySem.Heap renaming get?_push_of_some→b9, get?_push_size→i6, lt_size→j3, get?_update_other→v8, size_push→uaz, get?_update_self→ua7, ExtBut→ud2
open PySem.W renaming Frag→c6, mg_none_of→v9, nsIn→uah, fnOf→ubf, kla_obj→ubg, kia_one→ubq, keepIn→ub3, tabIn→ucr, codeIn→ucu, CodeHd→ud6, tabObj→ues, findIn→uet, methodObj→ufa, instObj→uft, noTabs→uf6, lookIn→uf7, mg_of→ugg, cellsFrom_some→ugq, envX→ugw
open List renaming range→c7, length_map→c9, getElem?_eq_getElem→d8, getD_eq_getElem?_getD→g9, mem_cons_self→i5, mem_cons_of_mem→i7, size_toArray→i8, length_append→i9, mem_cons→j0, mem_range→j4, mem_singleton→j5, getElem?_map→k0, length_range→l7, getElem?_eq_some_iff→m9, replicate→o6, mem_append→o9, mem_append_right→r8, length_singleton→u5, mem_of_getElem?→u6, getElem?_eq_none→v7, not_mem_nil→w6, mem_map→y2, length_cons→z0, mem_filter→uac, mem_append_left→uag, length_replicate→uai, pairwise_map→uao, Nodup→uap, getElem?_append_right→uaq, pairwise_lt_range→uaw, take_length→ua1, nodup_cons→ua2, map_append→ua8, length_reverse→ua9, getElem?_range→uba, lookup_cons→ubc, append_nil→ubi, map_map→ubo, append_assoc→ubp, length_set→ubs, filter_cons_of_pos→ubt, filter_cons_of_neg→ubu, contains_eq_mem→ubw, length_drop→uby, reverse_cons→ub0, ext_getElem?→ub5, filterMap_cons→ub6, take_of_length_le→ub9, any_eq_true→ucc, all_eq_true→ucd, pairwise_cons→uce, map_cons→ucf, pairwise_iff_getElem→ucj, getElem?_append_left→uck, take_add_one→ucl, nodup_append→ucm, nil_append→ucn, length_filterMap_le→uco, replicate_succ→ucw, length_take→uc3, getD→uc4, ext_getElem→uc5, foldl_cons→udd, perm_cons_erase→udf, nodup_range→udk, getElem_mem→udl, map_congr_left→udm, mem_filterMap→udo, length_eq_zero_iff→udp, getElem?_replicate→udq, forIn_cons→udr, find?_some→uds, flatten_cons→udv, pairwise_append→ud0, reverse_append→ud3, range_succ→ud4, getElem_of_mem→ud5, perm_ext_iff_of_nodup→ud7, zip_cons_cons→ud8, find?_eq_none→ud9, getElem?_zip_eq_some→uec, forIn_nil→ued, drop_eq_getElem_cons→uee, countP_cons→ueq, getElem?_set_self→uer, toArray→ueu, mem_of_mem_erase→uev, mem_iff_getElem?→uew, length_zip→uex, countP_mono_left→uey, mem_of_mem_take→ue2, mem_erase_of_ne→ue3, getElem?_set_ne→ue4, length_pos_iff→ue7, flatMap_append→ue8, getElem?_drop→ufd, filterMap_map→ufe, take_sublist→ufq, foldl→ufr, eraseIdxIfInBounds_toArray→ufs, mem_flatMap→ufy, map_snd_zip→ufz, eq_nil_of_length_eq_zero→uf0, of_mem_zip→ugb, length_nil→ugc, nodup_iff_pairwise_ne→ugm, length_eraseIdx_of_lt→ugn, mem_of_find?_eq_some→ugu, filterMap→ugv, length_erase_of_mem→ug2, pairwise_filterMap→ug5, map_drop→ug6, any_cons→ug7
open Nat renaming le_refl→h9, ne_of_lt→j7, lt_of_lt_of_le→m7, zero_le→w8, le_trans→uas, lt_succ_self→ua4, lt_succ_of_lt→ube, lt_of_le_of_lt→ubv, lt_irrefl→ub1, le_succ→ub8, ne_of_gt→uch, not_lt_zero→ucs, le_add_right→udz, le_of_lt→uea, le_of_eq→ueb, lt_trichotomy→uel, lt_or_eq_of_le→ufi, eq_zero_or_pos→ufj, lt_or_ge→ufw, add_comm→ufx, succ_le_succ→uf8, strongRecOn→ugk, min_le_left→ugl, mod_lt→ug4
open Bool renaming false_ne_true→j6, and_eq_true→uaj, false_eq_true→ua0, eq_iff_iff→ubb, or_eq_true→ucp, eq_false_iff→ucq
open Or renaming inl→k8, inr→ue1
open Int renaming natCast_nonneg→m8, toNat_natCast→u4, toNat_of_nonneg→uar, le_refl→uav, emod_lt_of_pos→uci, emod_nonneg→uct, le_of_lt→ucx, lt_of_le_of_lt→ufk, add_right_comm→ufl, ne_of_lt→uf1, le_trans→uf2
open PySem.Str renaming ofString→o8
open Option.some renaming inj→u7
open PySem.F renaming plainAttrs_list→v4, type_list_append→uaa, slot_list_append→uab, called_set→uak, plain_min_loop→ubx, slot_tuple_iterator_next→udi, plain_list_iadd→udn, slot_enumerate_next→udy, entry_min_loop→uek, slot_zip_next→ue6, plain_proto_collect→ufu, entry_proto_collect→ufv, type_list_extend→uf9, slot_list_extend→uga, entry_type_call→ugh, entry_list_iadd→ugi, typeCall_set_1→ugr, entry_set_init→ugs, args_tuple_iterator_next_1→ugt, type_list_pop→ugx, slot_set_iter→ugy, slot_list_pop→ugz, plain_set_new→ug0, entry_tuple_iterator_next→ug1
open Array renaming length_toList→z9, getD_eq_getD_getElem?→uau, getElem?_eq_getElem→ubh, getElem?_toList→ubn, getD→uej, mk→uem, size_map→ue5, getElem?_eq_some_iff→ugd
open PySem.Heap.SameBut renaming update→uax, refl→ub2
open PyProof.Rows renaming slot_tuple_getitem→ua5, callWith_type1→ucv
open List.Pairwise renaming imp_of_mem→uca, filter→uc6, nil→ugp
open PyProof.Rows.F renaming plain_set_update_loop→uc7, entry_set_update_loop→uei
open PySem.PyData renaming depthAll→uda, depth→udj, eqv→ufc
open Option renaming map_eq_some_iff→udu, isSome_iff_exists→ugj
open List.Perm renaming refl→ud1, append_left→ugo
open Array.Perm renaming refl→uff
local macro_rules | `(tactic| ac_rfl) => `(tactic| first | exact (fun _ _ _ _ _ _ us hl => match us, hl with | [_], _ => rfl) | exact (fun _ _ _ _ _ _ us hl => match us, hl with | [_, _], _ => rfl) | exact (fun _ _ _ _ _ _ us hl => match us, hl with | [_, _, _], _ => rfl) | exact (fun _ _ _ _ _ _ us hl => match us, hl with | [_, _, _, _], _ => rfl) | exact (fun _ _ _ _ _ _ us hl => match us, hl with | [_, _, _, _, _], _ => rfl) | exact (fun _ _ _ _ _ _ us hl => match us, hl with | [_, _, _, _, _, _], _ => rfl) | exact (fun _ _ _ _ _ _ us hl => match us, hl with | [_, _, _, _, _, _, _], _ => rfl))
local macro_rules | `(tactic| left) => `(tactic| first | lia | omega)
local macro_rules | `(tactic| symm) => `(tactic| decide +kernel)
local macro_rules | `(tactic| right) => `(tactic| exact ⟨rfl, rfl, rfl, by decide +kernel, rfl, by decide +kernel, by decide +kernel⟩)
namespace L2
open PySem PySem.Spec PyProof.Rows
abbrev Key:=Sum Int Str
def keyIs:Key->d6->Bool
 | .inl k,v=>Value.isInt k v
 | .inr x,v=>Value.isStrOf x v
def keyH (w:ual):Key->Int
 | .inl k=>hashInt k
 | .inr x=>hashStr w x
theorem cN:∀ {k:Key}{v:d6},keyIs k v=true->(∃ i t,k=Sum.inl i/\v=Value.int i t)\/(∃ x t,k=Sum.inr x/\v=Value.str x t)
 | .inl i,v,h=>by
  obtain⟨t,e⟩:=Value.isInt_shape (k:=i) (v:=v) h
  exact .inl ⟨i,t,rfl,e⟩
 | .inr x,v,h=>by
  obtain⟨t,e⟩:=Value.isStrOf_shape (x:=x) (v:=v) h
  exact .inr ⟨x,t,rfl,e⟩
theorem zco (a b:Int):decide ((Sum.inl a:Key)=Sum.inl b)=(a==b):=by
 by_cases e:a=b
 ·subst e;simp
 ·have h:¬ (Sum.inl a:Key)=Sum.inl b:=λ q=>e (Sum.inl.inj q)
  rw[uha h]
  exact (beq_eq_false_iff_ne.mpr e).symm
theorem zcl (a b:Str):decide ((Sum.inr a:Key)=Sum.inr b)=decide (a=b):=by
 by_cases e:a=b
 ·subst e;simp
 ·have h:¬ (Sum.inr a:Key)=Sum.inr b:=λ q=>e (Sum.inr.inj q)
  rw[uha h,uha e]
theorem zcn (a:Int)(b:Str):decide ((Sum.inl a:Key)=Sum.inr b)=false:=uha (λ q=>nomatch q)
theorem zcm (a:Str)(b:Int):decide ((Sum.inr a:Key)=Sum.inl b)=false:=uha (λ q=>nomatch q)
def mixKind (prog:m5)(w:ual):PySem.KeyKind prog w Key where
 is:=keyIs
 hash:=keyH w
 inj:=λ v a b ha hb=>by
  rcases cN ha with ⟨i,t,rfl,rfl⟩ | ⟨x,t,rfl,rfl⟩
  ·rcases cN hb with ⟨j,u,rfl,e⟩ | ⟨y,u,rfl,e⟩
   ·injection e with e1 _;rw[e1]
   ·exact nomatch e
  ·rcases cN hb with ⟨j,u,rfl,e⟩ | ⟨y,u,rfl,e⟩
   ·exact nomatch e
   ·injection e with e1 _;rw[e1]
 byValue:=λ k v h=>by
  rcases cN h with ⟨i,t,rfl,rfl⟩ | ⟨x,t,rfl,rfl⟩ <;> rfl
 pyHash:=λ hv h=>by
  rcases cN hv with ⟨i,t,rfl,rfl⟩ | ⟨x,t,rfl,rfl⟩
  ·exact wpAny_pyHash_int h
  ·exact wpAny_pyHash_str h
 eqBool:=λ hu hv h=>by
  rcases cN hu with ⟨i,t,rfl,rfl⟩ | ⟨x,t,rfl,rfl⟩
  ·rcases cN hv with ⟨j,u,rfl,rfl⟩ | ⟨y,u,rfl,rfl⟩
   ·rw[zco] at h;exact wpAny_eqBool_int h
   ·rw[zcn] at h;exact SeqAt.EqAt.int_str i t y u _ _ _ _ h
  ·rcases cN hv with ⟨j,u,rfl,rfl⟩ | ⟨y,u,rfl,rfl⟩
   ·rw[zcm] at h;exact SeqAt.EqAt.str_int x t j u _ _ _ _ h
   ·rw[zcl] at h;exact wpAny_eqBool_str h
 «strs»:=λ k x t v h=>by
  rcases cN h with ⟨i,u,rfl,e⟩ | ⟨y,u,rfl,e⟩
  ·exact nomatch e
  ·injection e with e1 _
   subst e1
   cases v <;> rfl
end L2
namespace L2
open PySem PySem.Spec PyProof.Rows
inductive V where
 | non | bl (b:Bool) | int (i:Int) | str (x:Str) | byt (b:Array UInt8) | flt (b:UInt64) | ref (a:j9) | ty (n:String)
 deriving DecidableEq
def RelV:V->d6->Prop
 | .non,u=>u=Value.none
 | .bl b,u=>u=Value.bool b
 | .int i,u=>∃ t,u=Value.int i t
 | .str x,u=>∃ t,u=Value.str x t
 | .byt b,u=>∃ t,u=Value.bytes b t
 | .flt b,u=>∃ t,u=Value.float b t
 | .ref a,u=>u=Value.ref a
 | .ty n,u=>u=Value.type n
abbrev Vals:List V->List d6->Prop:=Paired RelV
theorem Vals.length {xs:List V}{us:List d6}(r:Vals xs us):xs.length=us.length:=Paired.length r
theorem Vals.get:∀ {xs:List V}{us:List d6}{i:Nat}{x:V},Vals xs us->xs[i]?=some x->∃ u,us[i]?=some u/\RelV x u
 | _,_,_,_,.nil,e=>by simp at e
 | _,_,0,_,.cons r _,e=>by simp at e;subst e;exact⟨_,rfl,r⟩
 | _,_,i+1,x,.cons _ t,e=>by
  obtain⟨u,h1,h2⟩:=Vals.get (i:=i) (x:=x) t (by simpa using e)
  exact⟨u,by simpa using h1,h2⟩
theorem Vals.set {x:V}{u:d6}(r:RelV x u):∀ {xs:List V}{us:List d6}(i:Nat),Vals xs us->Vals (xs.set i x) (us.set i u)
 | _,_,_,.nil=>.nil
 | _,_,0,.cons _ t=>.cons r t
 | _,_,i+1,.cons q t=>.cons q (Vals.set r i t)
theorem Vals.append:∀ {xs ys:List V}{us ws:List d6},Vals xs us->Vals ys ws->Vals (xs++ys) (us++ws)
 | _,_,_,_,.nil,s=>s
 | _,_,_,_,.cons r t,s=>.cons r (Vals.append t s)
theorem Vals.take:∀ {xs:List V}{us:List d6}(n:Nat),Vals xs us->Vals (xs.take n) (us.take n)
 | _,_,0,_=>.nil
 | _,_,_+1,.nil=>.nil
 | _,_,n+1,.cons r t=>.cons r (Vals.take n t)
theorem Vals.drop:∀ {xs:List V}{us:List d6}(n:Nat),Vals xs us->Vals (xs.drop n) (us.drop n)
 | _,_,0,r=>r
 | _,_,_+1,.nil=>.nil
 | _,_,n+1,.cons _ t=>Vals.drop n t
def RelO:Option V->Option d6->Prop
 | some v,some u=>RelV v u
 | none,none=>True
 | _,_=>False
def KV {κ:Type}:List (κ × V)->List (κ × d6)->Prop:=Paired λ (p:κ × V) (q:κ × d6)=>p.1=q.1/\RelV p.2 q.2
def kV:Key->V
 | .inl i=>.int i
 | .inr x=>.str x
inductive HO where
  | lst (xs:List V)
  | tup (xs:List V)
  | dK (kvs:List (Key × V)) | dT (kvs:List (List Key × V))
  | set (S:Int->Bool) (n:Nat)
  | ins (C dx:j9) (fs:List (Str × V))
  | own (x:j9)
  | xd (fs:List (Str × V))
  | met (f x:j9)
  | rng (lo hi:Int)
  | frz (o:Obj) (u:HO)
  | tbl (ps:Array d6)
  | ext (φ:Heap->Prop)
abbrev Hp:=j9->Option HO
def upd (H:Hp)(a:j9)(o:HO):Hp:=λ b=>if b=a then some o else H b
theorem aH {H:Hp}{a:j9}{o:HO}:upd H a o a=some o:=by unfold upd;rw[uhc rfl]
theorem aM {H:Hp}{a b:j9}{o:HO}(h:b≠a):upd H a o b=H b:=by unfold upd;rw[uhd h]
theorem oZ {H:Hp}{a:j9}{o u:HO}:upd (upd H a o) a u=upd H a u:=by
 funext b;unfold upd;split <;> rfl
theorem aP {H:Hp}{a b:j9}{o:HO}(h:H a=some o)(h':H b=none):a≠b:=by
 intro e;subst e;rw[h] at h';cases h'
section
variable (P:m5)(w:ual)
def TupN (h:Heap)(a:j9)(items:Array d6):Prop:=∃ o,h.get? a=some o/\o.cls=.type "tuple"/\(∃ n,o.data=.seq items n)/\o.dict=none
theorem TupN.tup {h:Heap}{a:j9}{items:Array d6}(x:TupN h a items):IsTup h a items:=let ⟨o,e,c,d,_⟩:=x;⟨o,e,c,d⟩
theorem TupN.new (h:Heap)(items:Array d6):TupN (h.push { cls:=.type "tuple",data:=.seq items }) h.objs.size items:=⟨_,i6 _ rfl,rfl,⟨_,rfl⟩,rfl⟩
def ObjOk (H:Hp)(h:Heap)(a:j9):HO->Prop
 | .lst xs=>xs.length<=v5/\∃ (its:List d6)(n:Nat),Vals xs its/\h.get? a=some { cls:=.type "list",data:=.seq its.toArray n }
 | .tup xs=>xs.length<=v5/\∃ its:List d6,Vals xs its/\TupN h a its.toArray
 | .dK kvs=>kvs.length<=v5/\(a==sysModules)=false/\∃ vs,KV kvs vs/\h.DictOf (mixKind P w) a vs
 | .dT kvs => kvs.length <= v5 /\ (a==sysModules) = false /\ ∃ xs : List (List Key × j9 × d6),
     Paired (λ (p:List Key × V) (q:List Key × j9 × d6)=>p.1=q.1/\H q.2.1=some (.tup (p.1.map kV))/\RelV p.2 q.2.2) kvs xs /\
     ∃ o es ep,h.get? a=some o/\o.ExactDict/\o.data=.dict es ep/\es.toList=xs.map (entryOfKey (tupleKind (mixKind P w)))/\(xs.map (·.1)).Nodup
 | .set S n=>h.SetOf (intKind P w) a S n
 | .ins C dx fs => H dx = some (.own a) /\ fs.length <= 1000 /\ dx ≠ a /\ h.get? a = some (uft C dx) /\
     ∃ mA,h.Ns1 dx mA/\(∀ f,RelO (fs.lookup f) (mA f))/\PySem.Within mA (fs.map (·.1))
 | .own _=>∃ o,h.get? a=some o
 | .xd fs=>∃ mA,h.Ns1 a mA/\∀ f,RelO (fs.lookup f) (mA f)
 | .rng lo hi=>∃ t u v,h.get? a=some { cls:=.type "range",data:=.fields #[.int lo t,.int hi u,.int 1 v] }
 | .frz o u=>h.get? a=some o/\ObjOk H h a u
 | .tbl ps=>h.get? a=some { cls:=.none,data:=.fields ps }
 | .met f x=>h.get? a=some (ufa (.ref f) (.ref x))
 | .ext φ=>φ h/\(∃ o,h.get? a=some o)/\∀ h1 h2:Heap,φ h1->(∀ o,h1.get? a=some o->h2.get? a=some o)->φ h2
def HOk (H:Hp)(h:Heap):Prop:=∀ a o,H a=some o->ObjOk P w H h a o
end
section
variable {P:m5}{w:ual}{H H':Hp}{h h':Heap}{a:j9}{o:HO}
theorem ObjOk.lt (x:ObjOk P w H h a o):a<h.objs.size:=by
 cases o with
 | lst xs=>obtain⟨_,_,_,_,e⟩:=x;exact j3 e
 | tup xs=>obtain⟨_,_,_,p⟩:=x;exact p.tup.lt
 | dK kvs=>obtain⟨_,_,_,_,o,_,_,e,_⟩:=x;exact j3 e
 | dT kvs=>obtain⟨_,_,_,_,o,_,_,e,_⟩:=x;exact j3 e
 | set S n=>obtain⟨o,_,_,_,e,_⟩:=x;exact j3 e
 | ins C dx fs=>obtain⟨_,_,_,e,_⟩:=x;exact j3 e
 | own y=>obtain⟨_,e⟩:=x;exact j3 e
 | xd fs=>obtain⟨_,⟨_,_,_,e,_⟩,_⟩:=x;exact j3 e
 | rng lo hi=>obtain⟨_,_,_,e⟩:=x;exact j3 e
 | frz ob u=>obtain⟨e,_⟩:=x;exact j3 e
 | tbl ps=>exact j3 (show h.get? a=some _ from x)
 | met f y=>exact j3 (show h.get? a=some _ from x)
 | ext φ=>obtain⟨_,⟨_,e⟩,_⟩:=x;exact j3 e
theorem Paired.mapP {α β:Type}{F G:α->β->Prop}:∀ {l₁:List α}{l₂:List β},Paired F l₁ l₂->(∀ a b,F a b->G a b)->Paired G l₁ l₂
 | _,_,.nil,_=>.nil
 | _,_,.cons r t,f=>.cons (f _ _ r) (Paired.mapP t f)
theorem ObjOk.stay (x:ObjOk P w H h a o)(k:∀ b u,(b=a\/H b=some (.own a))->h.get? b=some u->h'.get? b=some u)
  (ho:∀ b,H b=some (.own a)->H' b=some (.own a)) (ht:∀ b xs,H b=some (.tup xs)->H' b=some (.tup xs)):ObjOk P w H' h' a o:=by
 induction o with
 | lst xs=>obtain⟨z,its,n,r,e⟩:=x;exact⟨z,its,n,r,k _ _ (.inl rfl) e⟩
 | tup xs=>obtain⟨z,its,r,ob,e,c⟩:=x;exact⟨z,its,r,ob,k _ _ (.inl rfl) e,c⟩
 | dK kvs=>obtain⟨z,y,vs,r,ob,es,ep,e,c⟩:=x;exact⟨z,y,vs,r,ob,es,ep,k _ _ (.inl rfl) e,c⟩
 | dT kvs =>
  obtain⟨z,y,xs,r,ob,es,ep,e,c⟩:=x
  exact⟨z,y,xs,Paired.mapP r λ p q z=>⟨z.1,ht _ _ z.2.1,z.2.2⟩,ob,es,ep,k _ _ (.inl rfl) e,c⟩
 | set S n=>obtain⟨ob,es,ep,t,e,c⟩:=x;exact⟨ob,es,ep,t,k _ _ (.inl rfl) e,c⟩
 | ins C dx fs =>
  obtain⟨d,z,ne,e,mA,⟨od,es,ep,e2,c⟩,r⟩:=x
  exact⟨ho _ d,z,ne,k _ _ (.inl rfl) e,mA,⟨od,es,ep,k _ _ (.inr d) e2,c⟩,r⟩
 | own y=>obtain⟨ob,e⟩:=x;exact⟨ob,k _ _ (.inl rfl) e⟩
 | xd fs=>obtain⟨mA,⟨od,es,ep,e,c⟩,r⟩:=x;exact⟨mA,⟨od,es,ep,k _ _ (.inl rfl) e,c⟩,r⟩
 | rng lo hi=>obtain⟨t,u,v,e⟩:=x;exact⟨t,u,v,k _ _ (.inl rfl) e⟩
 | frz ob u ih=>obtain⟨e,q⟩:=x;exact⟨k _ _ (.inl rfl) e,ih q⟩
 | tbl ps =>
  have e:h.get? a=some { cls:=.none,data:=.fields ps }:=x
  show h'.get? a=some { cls:=.none,data:=.fields ps }
  exact k a _ (.inl rfl) e
 | met f y =>
  have e:h.get? a=some (ufa (.ref f) (.ref y)):=x
  show h'.get? a=some (ufa (.ref f) (.ref y))
  exact k a _ (.inl rfl) e
 | ext φ=>obtain⟨p,⟨o,e⟩,st⟩:=x;exact⟨st _ _ p λ o q=>k _ _ (.inl rfl) q,⟨o,k _ _ (.inl rfl) e⟩,st⟩
theorem HOk.lt (x:HOk P w H h)(e:H a=some o):a<h.objs.size:=(x a o e).lt
theorem HOk.fresh (x:HOk P w H h)(e:h.objs.size<=a):H a=none:=by
 cases q:H a with
 | none=>rfl
 | some u=>exact absurd (m7 (x.lt q) e) (ub1 _)
theorem HOk.kept (x:HOk P w H h)(k:∀ b u,h.get? b=some u->h'.get? b=some u):HOk P w H h':=λ a o e =>
 (x a o e).stay (λ b u _ q=>k b u q) (λ _ q=>q) λ _ _ q=>q
theorem HOk.laid (x:HOk P w H h)(k:∀ b u,h.get? b=some u->h'.get? b=some u)(hp:h.objs.size<=a)(new:ObjOk P w (upd H a o) h' a o):HOk P w (upd H a o) h':=λ b u e=>by
 have hn:=x.fresh hp
 by_cases hb:b=a
 ·subst hb;rw[aH] at e;cases e;exact new
 ·rw[aM hb] at e
  exact (x b u e).stay (λ c v _ q=>k c v q) (λ c q=>by rw[aM (aP q hn)];exact q) λ c xs q=>by rw[aM (aP q hn)];exact q
end
def Rd (H:Hp)(a:j9)(u:HO):Prop:=H a=some u\/∃ o,H a=some (.frz o u)
theorem Rd.ok {P:m5}{w:ual}{H:Hp}{h:Heap}{a:j9}{u:HO}(r:Rd H a u)(x:HOk P w H h):ObjOk P w H h a u:=by
 rcases r with r | ⟨o,r⟩
 ·exact x a u r
 ·obtain⟨_,q⟩:=x a _ r
  exact q
def Mut:Option HO->Prop
 | some (.lst _)=>True
 | some (.dK _)=>True
 | some (.dT _)=>True
 | some (.set _ _)=>True
 | some (.ins _ _ _)=>True
 | some (.ext _)=>True
 | _=>False
section
variable {P:m5}{w:ual}{H:Hp}{h h':Heap}{x e:j9}{o':HO}
theorem HOk.write (ok:HOk P w H h)(mu:Mut (H x))(he:e=x\/H e=some (.own x))(k:∀ b u,b≠e->h.get? b=some u->h'.get? b=some u)(heo:∃ u,h'.get? e=some u)
  (new:ObjOk P w (upd H x o') h' x o'):HOk P w (upd H x o') h':=λ b u q=>by
 have nown:∀ c y,H c=some (.own y)->c≠x:=λ c y r z=>by subst z;rw[r] at mu;exact mu
 have ntup:∀ c xs,H c=some (.tup xs)->c≠x:=λ c xs r z=>by subst z;rw[r] at mu;exact mu
 by_cases hb:b=x
 ·subst hb;rw[aH] at q;cases q;exact new
 ·rw[aM hb] at q
  by_cases hbe:b=e
  ·have q':H b=some (.own x):=by
    rcases he with z | z
    ·exact absurd (hbe.trans z) hb
    ·rw[hbe];exact z
   rw[q] at q';cases q'
   obtain⟨v,hv⟩:=heo
   exact⟨v,by rw[hbe];exact hv⟩
  ·refine (ok b u q).stay (λ c v hc r=>k c v ?_ r) (λ c r=>by rw[aM (nown c b r)];exact r) λ c xs r=>by rw[aM (ntup c xs r)];exact r
   rcases hc with rfl | hc
   ·exact hbe
   ·rintro rfl
    rcases he with z | z
    ·exact nown c b hc z
    ·rw[hc] at z;cases z;exact hb rfl
end
structure Un (fs ex:List j9)(H H':Hp)(h h':Heap):Prop where
 keep:∀ b o,h.get? b=some o->H b=none->b∉fs->b∉ex->h'.get? b=some o
 slot:∀ b o,h.get? b=some o->H b=none->b∈fs->b∉ex->∃ sl,h'.get? b=some { o with slots:=sl }
 free:∀ b o,h.get? b=some o->H b=none->b∉ex->H' b=none
 there:∀ b o,h.get? b=some o->b∉ex->∃ o',h'.get? b=some o'
 tups:∀ b xs,H b=some (.tup xs)->H' b=some (.tup xs)
 frzs:∀ b o u,H b=some (.frz o u)->H' b=some (.frz o u)
 tbls:∀ b ps,H b=some (.tbl ps)->∃ more,H' b=some (.tbl (ps++more))
section
variable {fs fs' ex ex':List j9}{H H1 H2:Hp}{h h1 h2 h':Heap}{a x e:j9}{o:HO}
theorem Un.any (u:Un fs ex H H1 h h1){b:j9}{ob:Obj}(q:h.get? b=some ob)(n:H b=none)(hx:b∉ex):∃ sl,h1.get? b=some { ob with slots:=sl }:=by
 by_cases hb:b∈fs
 ·exact u.slot b ob q n hb hx
 ·exact⟨ob.slots,u.keep b ob q n hb hx⟩
theorem Un.trans (a:Un fs ex H H1 h h1)(b:Un fs ex H1 H2 h1 h2):Un fs ex H H2 h h2 where
 keep:=λ c ob q n hc hx=>b.keep c ob (a.keep c ob q n hc hx) (a.free c ob q n hx) hc hx
 slot:=λ c ob q n hc hx=>by
  obtain⟨sl,e1⟩:=a.slot c ob q n hc hx
  obtain⟨sl',e2⟩:=b.slot c _ e1 (a.free c ob q n hx) hc hx
  exact⟨sl',e2⟩
 free:=λ c ob q n hx=>by
  obtain⟨o',e1⟩:=a.there c ob q hx
  exact b.free c o' e1 (a.free c ob q n hx) hx
 there:=λ c ob q hx=>by
  obtain⟨o',e1⟩:=a.there c ob q hx
  exact b.there c o' e1 hx
 tups:=λ c xs q=>b.tups c xs (a.tups c xs q)
 frzs:=λ c ob xs q=>b.frzs c ob xs (a.frzs c ob xs q)
 tbls:=λ c ps q=>by
  obtain⟨m1,e1⟩:=a.tbls c ps q
  obtain⟨m2,e2⟩:=b.tbls c _ e1
  exact⟨m1++m2,by rw[e2,Array.append_assoc]⟩
theorem Un.kept (k:∀ b u,h.get? b=some u->h'.get? b=some u):Un fs ex H H h h' :=
 ⟨λ b ob q _ _ _=>k b ob q,λ b ob q _ _ _=>⟨ob.slots,k b ob q⟩,λ _ _ _ n _=>n,λ b ob q _=>⟨ob,k b ob q⟩,λ _ _ q=>q,λ _ _ _ q=>q,λ _ ps q=>⟨#[],by rw[q];simp⟩⟩
theorem Un.refl:Un fs ex H H h h:=Un.kept λ _ _ q=>q
theorem Un.laid (k:∀ b u,h.get? b=some u->h'.get? b=some u)(hp:h.objs.size<=a)(hn:H a=none):Un fs ex H (upd H a o) h h' where
 keep:=λ b u q _ _ _=>k b u q
 slot:=λ b u q _ _ _=>⟨u.slots,k b u q⟩
 free:=λ b u q n _=>by rw[aM (j7 (m7 (j3 q) hp))];exact n
 there:=λ b u q _=>⟨u,k b u q⟩
 tups:=λ b xs q=>by rw[aM (aP q hn)];exact q
 frzs:=λ b u xs q=>by rw[aM (aP q hn)];exact q
 tbls:=λ b ps q=>⟨#[],by rw[aM (aP q hn),q];simp⟩
theorem Un.write (mu:Mut (H x))(he:e=x\/H e=some (.own x))(k:∀ b u,b≠e->h.get? b=some u->h'.get? b=some u)(heo:∃ u,h'.get? e=some u):Un fs ex H (upd H x o) h h':=by
 have hx:∀ b,H b=none->b≠x:=λ b n z=>by subst z;rw[n] at mu;exact mu
 have hb:∀ b,H b=none->b≠e:=λ b n z=>by
  subst z
  rcases he with r | r
  ·exact hx b n r
  ·rw[n] at r;cases r
 have hm:∀ b u,H b=some u->¬ Mut (some u)->b≠x:=λ b u q nm z=>by subst z;rw[q] at mu;exact nm mu
 refine⟨λ b u q n _ _=>k b u (hb b n) q,λ b u q n _ _=>⟨u.slots,k b u (hb b n) q⟩,λ b u q n _=>by rw[aM (hx b n)];exact n,λ b u q _=>?_,
  λ b xs q=>by rw[aM (hm b _ q λ z=>z)];exact q,λ b u xs q=>by rw[aM (hm b _ q λ z=>z)];exact q,λ b ps q=>⟨#[],by rw[aM (hm b _ q λ z=>z),q];simp⟩⟩
 by_cases hbe:b=e
 ·subst hbe;exact heo
 ·exact⟨u,k b u hbe q⟩
end
def trk (h:Heap)(H:Hp):List j9:=(c7 h.objs.size).filter λ a=>(H a).isSome
def hidT (h:Heap)(H:Hp):Heap:=PySem.W.hideAll h (trk h H)
theorem xX (h:Heap)(H:Hp):(hidT h H).objs.size=h.objs.size:=PySem.W.hideAll_size _ _
theorem jM {h:Heap}{H:Hp}{b:j9}{o:Obj}(e:h.get? b=some o)(n:H b=none):(hidT h H).get? b=some o :=
 PySem.W.hideAll_get _ e λ hm=>by
  have q:(H b).isSome=true:=(uac.mp hm).2
  rw[n] at q;simp at q
theorem zbe {h:Heap}{H:Hp}{b:j9}{o:Obj}(e:(hidT h H).get? b=some o):h.get? b=some o/\H b=none:=by
 have e':h.get? b=some o:=PySem.W.of_hideAll (trk h H) e
 refine⟨e',?_⟩
 cases q:H b with
 | none=>rfl
 | some x =>
  have hm:b∈trk h H:=uac.mpr ⟨j4.mpr (j3 e'),by simp [q]⟩
  have z:(hidT h H).get? b=none:=PySem.W.hideAll_none (trk h H) hm
  rw[z] at e;cases e
def allNews (g h:Heap)(L:j9):List (j9 × Obj):=(c7 h.objs.size).filterMap λ a=>if a=L\/(g.get? a).isSome=true then none else (h.get? a).map λ o=>(a,o)
def rest (g h:Heap)(L d:j9):List (j9 × Obj):=(allNews g h L).filter λ p=>decide (p.1≠d)
end L2
namespace L2
open PySem PySem.Spec PyProof.Rows
structure Mod (K:c6)(mg:Str->Option d6)(base:Heap):Prop where
 kin:K.In base
 glob:base.Ns p8 mg
 blt:∃ mb,base.Ns builtinsNs mb/\∀ x:Str,x≠"__name__"->mb x=bootBuiltins x
 nolimit:base.NoLimit
structure Cx where
 prog:m5
 w:ual
 K:c6
 mg:Str->Option d6
 base:Heap
 A:uaf
 N:List Str
 s₀:d7
 H₀:Hp
 env:Env
 outer:List Env
 stack:List Env
 ex:List j9
 fn:Str->Bool
 calm:Bool
 pn:List (j9 × Obj)
 xe:d6->d7->Prop
def frs (l:List Env):List j9:=l.filterMap (·.frame)
abbrev Cx.fs (X:Cx):List j9:=frs X.outer
def Vis (sc:ueh)(x:Str):Prop:=sc.names.lookup x=some .local\/sc.names.lookup x=some .cell\/sc.names.lookup x=some .free
def Loc (sc:ueh)(x:Str):Prop:=sc.names.lookup x=some .local\/sc.names.lookup x=some .cell
def Look (env:Env)(h:Heap)(m:Str->Option d6)(x:Str)(u:d6):Prop :=
 (env.kindOf x=some .local/\m x=some u)\/((env.kindOf x=some .cell\/env.kindOf x=some .free)/\∃ c,env.cells.lookup x=some c/\h.IsCell c (some u))
structure Cx.Ok (X:Cx):Prop where
 mod:Mod X.K X.mg X.base
 kind:X.env.scope.kind=.function
 glob:X.env.globals=p8
 blt:X.env.builtins=builtinsNs
 above:X.s₀.heap.objs.size<=X.env.locals
 inj:∀ x y c,X.env.cells.lookup x=some c->X.env.cells.lookup y=some c->x=y
 has:∀ x,(X.env.kindOf x=some .cell\/X.env.kindOf x=some .free)->∃ c,X.env.cells.lookup x=some c
 cab:∀ x c,X.fn x=true->X.env.cells.lookup x=some c->X.s₀.heap.objs.size<=c
 hd:X.calm=true->X.A.handled=none
 frames:X.A.frames=some X.stack
 stk:X.stack=X.outer\/(X.stack=X.env::X.outer/\X.env.frame=some X.env.locals)
 exf:∀ b∈X.ex,b≠X.env.locals/\∀ x c,X.env.cells.lookup x=some c->c≠b
 bs:∀ b o,X.base.get? b=some o->X.s₀.heap.get? b=some o/\X.H₀ b=none
 bsz:X.base.objs.size<=X.s₀.heap.objs.size
 noex:∀ b o,X.base.get? b=some o->b∉X.ex
 exfs:∀ b∈X.ex,b∉X.fs
 funs:X.s₀.heap.FunFrames X.base X.outer
 frf:∀ b∈X.fs,X.H₀ b=none
structure Inv (X:Cx)(pins:List (j9 × Obj))(σ:List (Option V))(H:Hp)(s:d7):Prop where
 ok:X.Ok
 os:s.os=X.s₀.os
 bare:AllBare s.gens
 base:Un X.fs X.ex X.H₀ H X.s₀.heap s.heap
 loc:∃ m,s.heap.Ns X.env.locals m/\∀ (i:Nat)(x:Str)(v:V),X.N[i]?=some x->σ[i]?=some (some v)->Vis X.env.scope x->∃ u,RelV v u/\Look X.env s.heap m x u
 cell:∀ x c,X.env.cells.lookup x=some c->∃ v,s.heap.IsCell c v
 free:H X.env.locals=none
 freeC:∀ x c,X.env.cells.lookup x=some c->H c=none
 pin:∀ p∈X.pn++pins,s.heap.get? p.1=some p.2/\H p.1=none/\p.1≠X.env.locals/\p.1∉X.fs/\∀ v,p.2.data≠.cell v
 hok:HOk X.prog X.w H s.heap
 len:σ.length=X.N.length
section
variable {X:Cx}{pins:List (j9 × Obj)}{σ:List (Option V)}{H H':Hp}{s:d7}{h':Heap}
theorem Cx.Ok.nofr (ok:X.Ok){b:j9}{o:Obj}(e:X.base.get? b=some o):b∉X.fs:=λ hb=>by
 have:=(ok.funs.mem hb).1
 rw[e] at this;cases this
theorem Inv.bs (I:Inv X pins σ H s):∀ b o,X.base.get? b=some o->s.heap.get? b=some o/\H b=none:=λ b o e =>
 ⟨I.base.keep b o (I.ok.bs b o e).1 (I.ok.bs b o e).2 (I.ok.nofr e) (I.ok.noex b o e),I.base.free b o (I.ok.bs b o e).1 (I.ok.bs b o e).2 (I.ok.noex b o e)⟩
theorem Inv.bk (I:Inv X pins σ H s):∀ b o,X.base.get? b=some o->s.heap.get? b=some o:=λ b o e=>(I.bs b o e).1
theorem Inv.mod (I:Inv X pins σ H s):Mod X.K X.mg X.base:=I.ok.mod
theorem Inv.kIn (I:Inv X pins σ H s):X.K.In s.heap:=I.ok.mod.kin.keeps I.bk
theorem Inv.lt (I:Inv X pins σ H s):X.env.locals<s.heap.objs.size:=let ⟨_,hn,_⟩:=I.loc;hn.lt
theorem Inv.sz (I:Inv X pins σ H s):X.s₀.heap.objs.size<=s.heap.objs.size:=uas I.ok.above (uea I.lt)
theorem Inv.nofs (I:Inv X pins σ H s){a:j9}(h:s.heap.objs.size<=a):a∉X.fs:=λ hb=>by
 obtain⟨_,o,ho,_⟩:=I.ok.funs.mem hb
 exact absurd (m7 (j3 ho) (uas I.sz h)) (ub1 _)
theorem Inv.cne (I:Inv X pins σ H s):∀ x c,X.env.cells.lookup x=some c->c≠X.env.locals:=λ x c e z=>by
 obtain⟨v,o,ho,hd⟩:=I.cell x c e
 obtain⟨m,⟨o',es,ep,ho',hd',_⟩,_⟩:=I.loc
 rw[z,ho'] at ho;cases ho;rw[hd'] at hd;cases hd
theorem Inv.funs (I:Inv X pins σ H s):s.heap.FunFrames X.base X.outer:=by
 have all:∀ (l:List Env),(∀ b∈frs l,b∈X.fs)->X.s₀.heap.FunFrames X.base l->s.heap.FunFrames X.base l:=by
  intro l
  induction l with
  | nil=>intro _ _;trivial
  | cons env r ih =>
   intro hs hl
   obtain⟨hk,⟨L,o,hf,hn,ho,hd⟩,hr⟩:=hl
   have hL:L∈X.fs:=hs L (by unfold frs;rw[ub6,hf];exact i5)
   obtain⟨sl,e⟩:=I.base.slot L o ho (I.ok.frf L hL) hL λ z=>I.ok.exfs L z hL
   exact⟨hk,⟨L,_,hf,hn,e,hd⟩,ih (λ b hb=>hs b (by unfold frs;rw[ub6,hf];exact i7 _ hb)) hr⟩
 exact all X.outer (λ _ hb=>hb) I.ok.funs
theorem Inv.stack (I:Inv X pins σ H s):s.heap.FunFrames X.base X.stack:=by
 rcases I.ok.stk with e | ⟨e,hf⟩
 ·rw[e];exact I.funs
 ·rw[e]
  obtain⟨m,hn,_⟩:=I.loc
  refine .cons (by rw[I.ok.kind];decide) hf hn ?_ I.funs
  exact Heap.get?_none_of_le (uas I.ok.bsz I.ok.above)
theorem Inv.stkSub (I:Inv X pins σ H s):∀ b∈frs X.stack,b∈X.env.locals::X.fs:=λ b hb=>by
 rcases I.ok.stk with e | ⟨e,hf⟩
 ·rw[e] at hb;exact i7 _ hb
 ·rw[e] at hb
  unfold frs at hb
  rw[ub6,hf] at hb
  exact hb
theorem Inv.stkFree (I:Inv X pins σ H s):∀ b∈frs X.stack,H b=none:=λ b hb=>by
 rcases j0.mp (I.stkSub b hb) with e | hb
 ·rw[e];exact I.free
 ·obtain⟨_,o,ho,_⟩:=I.ok.funs.mem hb
  exact I.base.free b o ho (I.ok.frf b hb) λ z=>I.ok.exfs b z hb
theorem Inv.step {g':Array GenState}{t':Nat}{d':Drawn}{ch:List j9}(I:Inv X pins σ H s)
  (hch:∀ b∈ch,(b∈X.ex\/X.s₀.heap.objs.size<=b)/\b≠X.env.locals/\(∀ x c,X.env.cells.lookup x=some c->c≠b)/\∀ p∈X.pn++pins,p.1≠b)
  (keep:∀ b o,b≠X.env.locals->b∉X.fs->b∉ch->s.heap.get? b=some o->H b=none->h'.get? b=some o)
  (slot:∀ b o,b≠X.env.locals->b∈X.fs->b∉ch->s.heap.get? b=some o->H b=none->∃ sl,h'.get? b=some { o with slots:=sl }) (free:∀ b o,b∉ch->s.heap.get? b=some o->H b=none->H' b=none)
  (there:∀ b o,b∉ch->s.heap.get? b=some o->∃ o',h'.get? b=some o')
  (tups:∀ b xs,H b=some (.tup xs)->H' b=some (.tup xs)) (frzs:∀ b o u,H b=some (.frz o u)->H' b=some (.frz o u)) (tbls:∀ b ps,H b=some (.tbl ps)->∃ more,H' b=some (.tbl (ps++more)))
  (ns:∀ m,s.heap.Ns X.env.locals m->h'.Ns X.env.locals m) (hok:HOk X.prog X.w H' h') (hg:AllBare g') :
  Inv X pins σ H' { s with heap:=h',gens:=g',drawn:=d',toks:=t' }:=by
 have neL:∀ b o,X.s₀.heap.get? b=some o->b≠X.env.locals:=λ b o e=>j7 (m7 (j3 e) I.ok.above)
 have neC:∀ b o,X.s₀.heap.get? b=some o->b∉X.ex->b∉ch:=λ b o e hx hb=>by
  rcases (hch b hb).1 with z | z
  ·exact hx z
  ·exact absurd (m7 (j3 e) z) (ub1 _)
 have cellK:∀ x c,X.env.cells.lookup x=some c->∀ v,s.heap.IsCell c v->h'.IsCell c v:=λ x c e v ⟨o,ho,hd⟩=>by
  have nch:c∉ch:=λ z=>(hch c z).2.2.1 x c e rfl
  by_cases hc:c∈X.fs
  ·obtain⟨sl,q⟩:=slot c o (I.cne x c e) hc nch ho (I.freeC x c e)
   exact⟨_,q,hd⟩
  ·exact⟨o,keep c o (I.cne x c e) hc nch ho (I.freeC x c e),hd⟩
 refine⟨I.ok,I.os,hg,⟨λ b o e n hb hx=>?_,λ b o e n hb hx=>?_,λ b o e n hx=>?_,λ b o e hx=>?_,λ b xs e=>tups b xs (I.base.tups b xs e),λ b o xs e=>frzs b o xs (I.base.frzs b o xs e),λ b ps e=>?_⟩,?_,λ x c e=>?_,?_,λ x c e=>?_,λ p hp=>?_,hok,I.len⟩
 ·exact keep b o (neL b o e) hb (neC b o e hx) (I.base.keep b o e n hb hx) (I.base.free b o e n hx)
 ·obtain⟨sl,e1⟩:=I.base.slot b o e n hb hx
  obtain⟨sl',e2⟩:=slot b _ (neL b o e) hb (neC b o e hx) e1 (I.base.free b o e n hx)
  exact⟨sl',e2⟩
 ·obtain⟨o',e1⟩:=I.base.there b o e hx
  exact free b o' (neC b o e hx) e1 (I.base.free b o e n hx)
 ·obtain⟨o',e1⟩:=I.base.there b o e hx
  exact there b o' (neC b o e hx) e1
 ·obtain⟨m1,e1⟩:=I.base.tbls b ps e
  obtain⟨m2,e2⟩:=tbls b _ e1
  exact⟨m1++m2,by rw[e2,Array.append_assoc]⟩
 ·obtain⟨m,hn,hl⟩:=I.loc
  refine⟨m,ns m hn,λ i x v e1 e2 e3=>?_⟩
  obtain⟨u,r,l⟩:=hl i x v e1 e2 e3
  refine⟨u,r,?_⟩
  rcases l with l | ⟨k,c,e,z⟩
  ·exact .inl l
  ·exact .inr ⟨k,c,e,cellK x c e _ z⟩
 ·obtain⟨v,z⟩:=I.cell x c e
  exact⟨v,cellK x c e v z⟩
 ·obtain⟨m,⟨o,_,_,ho,_⟩,_⟩:=I.loc
  exact free _ o (λ z=>(hch _ z).2.1 rfl) ho I.free
 ·obtain⟨v,o,ho,hd⟩:=I.cell x c e
  exact free c o (λ z=>(hch c z).2.2.1 x c e rfl) ho (I.freeC x c e)
 ·obtain⟨e,n,ne,nf,d⟩:=I.pin p hp
  have nch:p.1∉ch:=λ z=>(hch p.1 z).2.2.2 p hp rfl
  exact⟨keep p.1 p.2 ne nf nch e n,free p.1 p.2 nch e n,ne,nf,d⟩
theorem Inv.un {t':Nat}(I:Inv X pins σ H s)(u:Un X.fs [] H H' s.heap h')(hok:HOk X.prog X.w H' h'):Inv X pins σ H' { s with heap:=h',toks:=t' }:=by
 obtain⟨m,⟨o,es,ep,ho,r⟩,_⟩:=id I.loc
 obtain⟨sl,hL⟩:=u.any ho I.free (by simp)
 exact I.step (g':=s.gens) (d':=s.drawn) (ch:=[]) (λ _ z=>nomatch z) (λ b o _ hb _ e n=>u.keep b o e n hb (by simp)) (λ b o _ hb _ e n=>u.slot b o e n hb (by simp)) (λ b o _ e n=>u.free b o e n (by simp)) (λ b o _ e=>u.there b o e (by simp)) u.tups u.frzs u.tbls (λ m' hm=>by
  obtain⟨o',es',ep',ho',r'⟩:=hm
  rw[ho] at ho';cases ho'
  exact⟨_,es',ep',hL,r'⟩) hok I.bare
theorem Inv.call {g':Array GenState}{t':Nat}{d':Drawn}{ch:List j9}(I:Inv X pins σ H s)(u:Un (frs X.stack) ch H H' s.heap h')(hok:HOk X.prog X.w H' h')(hg:AllBare g')
  (hch:∀ b∈ch,(b∈X.ex\/X.s₀.heap.objs.size<=b)/\b≠X.env.locals/\(∀ x c,X.env.cells.lookup x=some c->c≠b)/\∀ p∈X.pn++pins,p.1≠b) :
  Inv X pins σ H' { s with heap:=h',gens:=g',drawn:=d',toks:=t' }:=by
 obtain⟨m,⟨o,es,ep,ho,r⟩,_⟩:=id I.loc
 obtain⟨sl,hL⟩:=u.any ho I.free λ z=>(hch _ z).2.1 rfl
 exact I.step (ch:=ch) hch (λ b o hL hb hc e n=>u.keep b o e n (λ z=>(j0.mp (I.stkSub b z)).elim hL hb) hc) (λ b o _ _ hc e n=>u.any e n hc) (λ b o hc e n=>u.free b o e n hc) (λ b o hc e=>u.there b o e hc) u.tups u.frzs u.tbls (λ m' hm=>by
  obtain⟨o',es',ep',ho',r'⟩:=hm
  rw[ho] at ho';cases ho'
  exact⟨_,es',ep',hL,r'⟩) hok hg
theorem Inv.turned {t':Nat}{it:j9}(I:Inv X pins σ H s)(k:∀ b o,b≠it->s.heap.get? b=some o->h'.get? b=some o)(hn:H it=none)(hL:it≠X.env.locals)
  (h1:it∈X.ex\/X.s₀.heap.objs.size<=it) (h2:∀ x c,X.env.cells.lookup x=some c->c≠it) (h3:∀ p∈X.pn++pins,p.1≠it):Inv X pins σ H { s with heap:=h',toks:=t' }:=by
 have nit:∀ b u,H b=some u->b≠it:=λ b u e z=>by rw[z,hn] at e;cases e
 refine I.step (g':=s.gens) (d':=s.drawn) (ch:=[it]) (λ b hb=>?_) (λ b o _ _ hc e _=>k b o (λ z=>hc (by simp [z])) e) (λ b o _ _ hc e _=>⟨o.slots,k b o (λ z=>hc (by simp [z])) e⟩) (λ _ _ _ _ n=>n)
  (λ b o hc e=>⟨o,k b o (λ z=>hc (by simp [z])) e⟩) (λ _ _ e=>e) (λ _ _ _ e=>e) (λ b ps e=>⟨#[],by rw[e];simp⟩) (λ m hm=>?_) (λ b u e=>?_) I.bare
 ·have e:b=it:=by simpa using hb
  subst e
  exact⟨h1,hL,h2,h3⟩
 ·obtain⟨o,es,ep,ho,r⟩:=hm
  exact⟨o,es,ep,k _ o (Ne.symm hL) ho,r⟩
 ·refine (I.hok b u e).stay (λ c v hc q=>k c v ?_ q) (λ _ q=>q) λ _ _ q=>q
  rcases hc with z | z
  ·rw[z];exact nit b u e
  ·exact nit c _ z
theorem Inv.tok (I:Inv X pins σ H s)(t:Nat):Inv X pins σ H { s with toks:=t }:=I.un (h':=s.heap) (t':=t) Un.refl I.hok
theorem Inv.kept {t':Nat}(I:Inv X pins σ H s)(k:∀ b u,s.heap.get? b=some u->h'.get? b=some u):Inv X pins σ H { s with heap:=h',toks:=t' }:=I.un (Un.kept k) (I.hok.kept k)
theorem Inv.laid {a:j9}{o:HO}{t':Nat}(I:Inv X pins σ H s)(k:∀ b u,s.heap.get? b=some u->h'.get? b=some u)(hp:s.heap.objs.size<=a)(new:ObjOk X.prog X.w (upd H a o) h' a o) :
  Inv X pins σ (upd H a o) { s with heap:=h',toks:=t' }:=I.un (Un.laid k hp (I.hok.fresh hp)) (I.hok.laid k hp new)
theorem Inv.write {x e:j9}{o:HO}{t':Nat}(I:Inv X pins σ H s)(mu:Mut (H x))(he:e=x\/H e=some (.own x))(k:∀ b u,b≠e->s.heap.get? b=some u->h'.get? b=some u)(heo:∃ u,h'.get? e=some u)
  (new:ObjOk X.prog X.w (upd H x o) h' x o):Inv X pins σ (upd H x o) { s with heap:=h',toks:=t' }:=I.un (Un.write mu he k heo) (I.hok.write mu he k heo new)
theorem Inv.pins_of {pins':List (j9 × Obj)}(I:Inv X pins σ H s)(h:∀ p∈pins',s.heap.get? p.1=some p.2/\H p.1=none/\p.1≠X.env.locals/\p.1∉X.fs/\∀ v,p.2.data≠.cell v):Inv X pins' σ H s :=
 ⟨I.ok,I.os,I.bare,I.base,I.loc,I.cell,I.free,I.freeC,λ p hp=>(o9.mp hp).elim (λ z=>I.pin p (uag _ z)) (h p),I.hok,I.len⟩
theorem nW {N:List Str}(hN:N.Nodup){i j:Nat}{x:Str}(a:N[i]?=some x)(b:N[j]?=some x):i=j:=by
 obtain⟨h1,e1⟩:=m9.mp a
 obtain⟨h2,e2⟩:=m9.mp b
 exact (List.getElem_inj hN).mp (e1.trans e2.symm)
theorem mC {M:Model}{A:uaf}{E:d6->d7->Prop}{i:Nat}{x:Str}{v:V}{u:d6}{Q:Unit->d7->Prop}(I:Inv X pins σ H s)(hN:X.N.Nodup)(hi:X.N[i]?=some x)(hx:Loc X.env.scope x)(r:RelV v u)
  (h:∀ s',Inv X pins (σ.set i (some v)) H s'->(∃ a,Heap.SameBut a s.heap s'.heap/\(a=X.env.locals\/X.env.cells.lookup x=some a))->Q () s') (hf:X.fn x=true\/X.env.scope.names.lookup x=some .local:=by first | exact .inl rfl | exact .inr rfl | assumption):j8 M A (storeName X.env x u) Q E s:=by
 obtain⟨m,hn,hl⟩:=id I.loc
 have hcls:(X.env.scope.kind==.class||(X.env.scope.kind==.module&&X.env.locals != X.env.globals))=false:=by rw[I.ok.kind];rfl
 have hiσ:i<σ.length:=by rw[I.len];exact (m9.mp hi).1
 have cne:=I.cne
 have tracked:∀ {a:j9}{h':Heap},(∃ o,s.heap.get? a=some o/\H a=none)->Heap.SameBut a s.heap h'->HOk X.prog X.w H h':=λ {a h'} ha hs b ob e=>by
  obtain⟨_,_,hfree⟩:=ha
  refine (I.hok b ob e).stay (λ c w' hc q=>(hs.2 c ?_).trans q) (λ _ q=>q) λ _ _ q=>q
  rintro rfl
  rcases hc with rfl | hc
  ·rw[hfree] at e;cases e
  ·rw[hfree] at hc;cases hc
 rcases hx with hk | hk
 ·refine wpAny_storeName_local hk hn (λ h' hn' hs=>?_) hcls
  obtain⟨oL,_,_,hoL,_⟩:=id hn
  refine h _ ⟨I.ok,I.os,I.bare,⟨λ b o e n hb hx=>?_,λ b o e n hb hx=>?_,I.base.free,λ b o e hx=>?_,I.base.tups,I.base.frzs,I.base.tbls⟩,⟨_,hn',λ j y v' e1 e2 e3=>?_⟩,λ y c e=>?_,I.free,I.freeC,λ p hp=>?_,tracked ⟨oL,hoL,I.free⟩ hs,by simpa using I.len⟩ ⟨_,hs,.inl rfl⟩
  ·exact (hs.2 b (j7 (m7 (j3 e) I.ok.above))).trans (I.base.keep b o e n hb hx)
  ·obtain⟨sl,e1⟩:=I.base.slot b o e n hb hx
   exact⟨sl,(hs.2 b (j7 (m7 (j3 e) I.ok.above))).trans e1⟩
  ·obtain⟨o',e1⟩:=I.base.there b o e hx
   exact⟨o',(hs.2 b (j7 (m7 (j3 e) I.ok.above))).trans e1⟩
  ·by_cases hj:j=i
   ·subst hj
    rw[hi] at e1;cases e1
    rw[uer hiσ] at e2
    cases e2
    exact⟨u,r,.inl ⟨hk,by simp⟩⟩
   ·rw[ue4 (Ne.symm hj)] at e2
    obtain⟨u',r',q⟩:=hl j y v' e1 e2 e3
    refine⟨u',r',?_⟩
    rcases q with ⟨k,e⟩ | ⟨k,c,e,z⟩
    ·refine .inl ⟨k,?_⟩
     have:y≠x:=λ e=>hj (nW hN e1 (e ▸ hi))
     simp [this,e]
    ·exact .inr ⟨k,c,e,z.sameBut hs (cne y c e)⟩
  ·obtain⟨w',z⟩:=I.cell y c e
   exact⟨w',z.sameBut hs (cne y c e)⟩
  ·obtain⟨e,n,ne,nf,d⟩:=I.pin p hp
   exact⟨(hs.2 p.1 ne).trans e,n,ne,nf,d⟩
 ·have hfn:X.fn x=true:=by
   rcases hf with z | z
   ·exact z
   ·rw[z] at hk;cases hk
  obtain⟨c,hc⟩:=I.ok.has x (.inl hk)
  obtain⟨w',z⟩:=I.cell x c hc
  refine wpAny_storeName_cell I.ok.kind hk hc z (λ h' hc' hs=>?_)
  obtain⟨oc,hoc,hocd⟩:=id z
  refine h { s with heap:=h' } ⟨I.ok,I.os,I.bare,⟨λ b o e n hb hx=>?_,λ b o e n hb hx=>?_,I.base.free,λ b o e hx=>?_,I.base.tups,I.base.frzs,I.base.tbls⟩,⟨m,hn.sameBut hs (Ne.symm (cne x c hc)),λ j y v' e1 e2 e3=>?_⟩,λ y c' e=>?_,I.free,I.freeC,λ p hp=>?_,tracked ⟨oc,hoc,I.freeC x c hc⟩ hs,by simpa using I.len⟩ ⟨c,hs,.inr hc⟩
  ·exact (hs.2 b (j7 (m7 (j3 e) (I.ok.cab x c hfn hc)))).trans (I.base.keep b o e n hb hx)
  ·obtain⟨sl,e1⟩:=I.base.slot b o e n hb hx
   exact⟨sl,(hs.2 b (j7 (m7 (j3 e) (I.ok.cab x c hfn hc)))).trans e1⟩
  ·obtain⟨o',e1⟩:=I.base.there b o e hx
   exact⟨o',(hs.2 b (j7 (m7 (j3 e) (I.ok.cab x c hfn hc)))).trans e1⟩
  ·by_cases hj:j=i
   ·subst hj
    rw[hi] at e1;cases e1
    rw[uer hiσ] at e2
    cases e2
    exact⟨u,r,.inr ⟨.inl hk,c,hc,hc'⟩⟩
   ·rw[ue4 (Ne.symm hj)] at e2
    obtain⟨u',r',q⟩:=hl j y v' e1 e2 e3
    refine⟨u',r',?_⟩
    rcases q with q | ⟨k,c',e,z'⟩
    ·exact .inl q
    ·refine .inr ⟨k,c',e,z'.sameBut hs ?_⟩
     rintro rfl
     exact hj (nW hN e1 (I.ok.inj _ _ _ e hc ▸ hi))
  ·by_cases hcc:c'=c
   ·subst hcc;exact⟨_,hc'⟩
   ·obtain⟨w2,z2⟩:=I.cell y c' e
    exact⟨w2,z2.sameBut hs hcc⟩
  ·obtain⟨e,n,ne,nf,d⟩:=I.pin p hp
   refine⟨(hs.2 p.1 ?_).trans e,n,ne,nf,d⟩
   intro q
   rw[q,hoc] at e
   have q':oc=p.2:=u7 e
   exact d w' (by rw[← q'];exact hocd)
theorem jC {M:Model}{A:uaf}{E:d6->d7->Prop}{i:Nat}{x:Str}{v:V}{u:d6}{Q:Unit->d7->Prop}(I:Inv X pins σ H s)(hN:X.N.Nodup)(hi:X.N[i]?=some x)(hx:Loc X.env.scope x)(r:RelV v u)
  (h:∀ s',Inv X pins (σ.set i (some v)) H s'->Q () s') (hf:X.fn x=true\/X.env.scope.names.lookup x=some .local:=by first | exact .inl rfl | exact .inr rfl | assumption):j8 M A (storeName X.env x u) Q E s :=
 mC I hN hi hx r (λ s' I' _=>h s' I') hf
theorem Inv.call' {s':d7}{ch:List j9}(I:Inv X pins σ H s)(ho:s'.os=s.os)(u:Un (frs X.stack) ch H H' s.heap s'.heap)(hok:HOk X.prog X.w H' s'.heap)(hg:AllBare s'.gens)
  (hch:∀ b∈ch,(b∈X.ex\/X.s₀.heap.objs.size<=b)/\b≠X.env.locals/\(∀ x c,X.env.cells.lookup x=some c->c≠b)/\∀ p∈X.pn++pins,p.1≠b):Inv X pins σ H' s':=by
 obtain⟨h',g',d',t',o'⟩:=s'
 have e:o'=s.os:=ho
 subst e
 exact I.call (g':=g') (t':=t') (d':=d') u hok hg hch
end
abbrev XK:=d6->Option j9->Hp->Prop
abbrev St:=List (Option V)
abbrev VK:=V->Hp->Prop
abbrev TE:=St->Hp->VK->Prop
abbrev TT:=St->Hp->(Bool->Hp->Prop)->Prop
abbrev TA:=St->Hp->(List V->Hp->Prop)->Prop
structure Ends where
 nx:St->Hp->Prop
 rt:VK
 bk:St->Hp->Prop:=λ _ _=>False
 ct:St->Hp->Prop:=λ _ _=>False
abbrev TS:=Ends->St->Hp->Prop
def EP (X:Cx)(pins:List (j9 × Obj))(σ:St)(Q:VK)(u:d6)(s':d7):Prop:=∃ v H',Inv X pins σ H' s'/\RelV v u/\Q v H'
def TP (X:Cx)(pins:List (j9 × Obj))(σ:St)(Q:Bool->Hp->Prop)(b:Bool)(s':d7):Prop:=∃ H',Inv X pins σ H' s'/\Q b H'
def AP (X:Cx)(pins:List (j9 × Obj))(σ:St)(Q:List V->Hp->Prop)(us:List d6)(s':d7):Prop:=∃ vs H',Inv X pins σ H' s'/\Vals vs us/\Q vs H'
def SP (X:Cx)(pins:List (j9 × Obj))(D:Ends)(f:Flow)(s':d7):Prop :=
 match f with
 | .next=>∃ σ' H',Inv X pins σ' H' s'/\D.nx σ' H'
 | .brk=>∃ σ' H',Inv X pins σ' H' s'/\D.bk σ' H'
 | .cont=>∃ σ' H',Inv X pins σ' H' s'/\D.ct σ' H'
 | .ret u=>∃ v σ' H',Inv X pins σ' H' s'/\RelV v u/\D.rt v H'
def PE (X:Cx)(e:ucg)(t:TE):Prop :=
 ∀ (pins:List (j9 × Obj))(s:d7)(σ:St)(H:Hp)(Q:VK),Inv X pins σ H s->t σ H Q->j8 (v6 X.prog X.w) X.A (eval e X.env) (EP X pins σ Q) X.xe s
def PT (X:Cx)(e:ucg)(t:TT):Prop :=
 ∀ (pins:List (j9 × Obj))(s:d7)(σ:St)(H:Hp)(Q:Bool->Hp->Prop),Inv X pins σ H s->t σ H Q->j8 (v6 X.prog X.w) X.A (isTrue e X.env (eval e X.env)) (TP X pins σ Q) X.xe s
def PW (X:Cx)(e:ucg)(t:TT):Prop :=
 ∀ (whole:Sem d6)(pins:List (j9 × Obj))(s:d7)(σ:St)(H:Hp)(Q:Bool->Hp->Prop),Inv X pins σ H s->t σ H Q->j8 (v6 X.prog X.w) X.A (isTrue e X.env whole) (TP X pins σ Q) X.xe s
theorem PW.pt {X:Cx}{e:ucg}{t:TT}(h:PW X e t):PT X e t:=h _
def PA (X:Cx)(es:List ucg)(t:TA):Prop :=
 ∀ (pos:Pos)(pins:List (j9 × Obj))(s:d7)(σ:St)(H:Hp)(Q:List V->Hp->Prop),Inv X pins σ H s->t σ H Q->j8 (v6 X.prog X.w) X.A (spliced (backTo pos (ubd es X.env))) (AP X pins σ Q) X.xe s
def PS (X:Cx)(st:ude)(t:TS):Prop :=
 ∀ (pins:List (j9 × Obj))(s:d7)(σ:St)(H:Hp)(D:Ends),Inv X pins σ H s->t D σ H->j8 (v6 X.prog X.w) X.A (exec st X.env) (SP X pins D) X.xe s
def PSs (X:Cx)(st:List ude)(t:TS):Prop :=
 ∀ (pins:List (j9 × Obj))(s:d7)(σ:St)(H:Hp)(D:Ends),Inv X pins σ H s->t D σ H->j8 (v6 X.prog X.w) X.A (execs st X.env) (SP X pins D) X.xe s
theorem thn {α:Type}{t:Sem α}{Q Q':α->d7->Prop}{M:Model}{A:uaf}{E:d6->d7->Prop}{s:d7}(h:j8 M A t Q E s)(hQ:∀ a s,Q a s->Q' a s):j8 M A t Q' E s:=ub4 h hQ λ _ _ x=>x
end L2
namespace L2
open PySem PySem.Spec PyProof.Rows
section
variable {X:Cx}
inductive EVar (σ:L2.St)(i:Nat)(Q:V->Prop):Prop
 | mk:∀ v,(σ[i]?=some (some v))->Q v->EVar σ i Q
inductive EBl (x:V)(Q:Bool->Prop):Prop
 | mk:∀ c,(x=.bl c)->Q c->EBl x Q
inductive EInt (x:V)(Q:Int->Prop):Prop
 | mk:∀ i,(x=.int i)->Q i->EInt x Q
inductive ERef (x:V)(Q:j9->Prop):Prop
 | mk:∀ a,(x=.ref a)->Q a->ERef x Q
inductive EOne (vs:List V)(Q:Int->Prop):Prop
 | mk:∀ j,(vs=[.int j])->Q j->EOne vs Q
inductive ETwo (vs:List V)(Q:V->V->Prop):Prop
 | mk:∀ v w,(vs=[v,w])->Q v w->ETwo vs Q
def tVar (i:Nat):TE:=λ σ H Q=>EVar σ i λ v=>Q v H
def tC (v:V):TE:=λ _ H Q=>Q v H
theorem zb8 {i:Nat}{x:Str}{pos:Pos}(hN:X.N[i]?=some x)(hv:Vis X.env.scope x)(hd:(x==("__debug__":Str))=false:=by decide)(hcd:(x==("__classdict__":Str))=false:=by decide):PE X (.Name x pos) (tVar i):=by
 intro pins s σ H Q I h
 obtain⟨v,e,h⟩:=h
 obtain⟨m,hn,hl⟩:=I.loc
 obtain⟨u,r,l⟩:=hl i x v hN e hv
 have fin:EP X pins σ Q u s:=⟨v,H,I,r,h⟩
 rcases l with ⟨hk,hm⟩ | ⟨hk,c,hc,hcell⟩
 ·exact wpAny_Name (wpAny_loadName_local I.ok.kind hk hn hm fin) hd
 ·rcases hk with hk | hk
  ·exact wpAny_Name (wpAny_loadName_cell I.ok.kind hk hc hcell fin) hd
  ·exact wpAny_Name (wpAny_loadName_free I.ok.kind hk hc hcell fin hcd) hd
theorem aC {i j pos}:PE X (.Constant (.int i) j pos) (tC (.int i)):=λ _ _ _ H _ I h=>wpAny_Constant_int ⟨.int i,H,I.tok _,⟨_,rfl⟩,h⟩
theorem cR {b j pos}:PE X (.Constant (.bool b) j pos) (tC (.bl b)):=λ _ _ _ H _ I h=>Constant_bool ⟨.bl b,H,I,rfl,h⟩
theorem bT {j pos}:PE X (.Constant .none j pos) (tC .non):=λ _ _ _ H _ I h=>Constant_none ⟨.non,H,I,rfl,h⟩
def Gl (X:Cx)(x:Str):Prop:=X.env.kindOf x=some .globalImplicit
theorem zbj {E:d6->d7->Prop}{pins:List (j9 × Obj)}{s:d7}{σ:St}{H:Hp}{x:Str}{u:d6}{pos:Pos}{Q:d6->d7->Prop}(I:Inv X pins σ H s)(hg:Gl X x)(hm:X.mg x=some u)(h:Q u s)
  (hd:(x==("__debug__":Str))=false:=by decide):j8 (v6 X.prog X.w) X.A (eval (.Name x pos) X.env) Q E s :=
 Calls.Name_function_global I.ok.kind hg (Calls.loadGlobal_global (by rw[I.ok.glob];exact I.mod.glob.keeps I.bk) hm h) hd
theorem dE {E:d6->d7->Prop}{pins:List (j9 × Obj)}{s:d7}{σ:St}{H:Hp}{x:Str}{u:d6}{pos:Pos}{Q:d6->d7->Prop}(I:Inv X pins σ H s)(hg:Gl X x)(hm:X.mg x=none)(hv:bootBuiltins x=some u)(h:Q u s)
  (hn:x≠"__name__":=by decide) (hd:(x==("__debug__":Str))=false:=by decide):j8 (v6 X.prog X.w) X.A (eval (.Name x pos) X.env) Q E s:=by
 obtain⟨mb,h1,h2⟩:=I.mod.blt
 exact Calls.Name_function_global I.ok.kind hg (Calls.loadGlobal_builtin (by rw[I.ok.glob];exact I.mod.glob.keeps I.bk) hm (by rw[I.ok.blt];exact h1.keeps I.bk) ((h2 x hn).trans hv) h) hd
theorem jQ {x:Str}{v:V}{u:d6}{pos:Pos}(hg:Gl X x)(hm:X.mg x=none)(hv:bootBuiltins x=some u)(r:RelV v u)(hn:x≠"__name__":=by decide)(hd:(x==("__debug__":Str))=false:=by decide):PE X (.Name x pos) (tC v) :=
 λ _ _ _ H _ I h=>dE I hg hm hv ⟨v,H,I,r,h⟩ hn hd
variable {a b:ucg}{ta tb:TE}{pos:Pos}
def tB (t:TE):TT:=λ σ H Q=>t σ H λ x H1=>EBl x λ c=>Q c H1
theorem fG {e:ucg}{t:TE}(h:PE X e t)(he:∀ whole,isTrue e X.env whole=(do let v ← whole;standAt e.pos;holding [v] (truthy v)):=by intro _;rfl):PT X e (tB t):=by
 intro pins s σ H Q I hw
 refine isTrue_plain (thn (h pins s σ H _ I hw) λ v s1 ⟨x,H1,I1,r1,q1⟩=>?_) (he _)
 obtain⟨d,rfl,q⟩:=q1
 cases r1
 exact ucy ⟨H1,I1,q⟩
variable {tA tB':TT}{rest:List ucg}
def tAnd (t u:TT):TT:=λ σ H Q=>t σ H λ c H1=>if c=true then u σ H1 Q else Q false H1
def tOr (t u:TT):TT:=λ σ H Q=>t σ H λ c H1=>if c=true then Q true H1 else u σ H1 Q
def tNot (t:TT):TT:=λ σ H Q=>t σ H λ c H1=>Q (!c) H1
theorem jP (ha:PT X a tA):PW X (.BoolOp .And [a] pos) tA:=by
 intro wh pins s σ H Q I h
 refine isTrue_and (thn (ha pins s σ H Q I h) λ c s1 e=>?_)
 cases c with
 | true=>exact isTrue_and_nil e
 | false=>exact e
theorem iG (ha:PT X a tA):PW X (.BoolOp .Or [a] pos) tA:=by
 intro wh pins s σ H Q I h
 refine isTrue_or (thn (ha pins s σ H Q I h) λ c s1 e=>?_)
 cases c with
 | false=>exact isTrue_or_nil e
 | true=>exact e
theorem jZ (ha:PT X a tA)(hb:PW X (.BoolOp .And (b::rest) pos) tB'):PW X (.BoolOp .And (a::b::rest) pos) (tAnd tA tB'):=by
 intro wh pins s σ H Q I h
 refine isTrue_and (thn (ha pins s σ H _ I h) λ c s1 ⟨H1,I1,q1⟩=>?_)
 cases c with
 | true=>exact hb wh pins s1 σ H1 Q I1 q1
 | false=>exact⟨H1,I1,q1⟩
theorem dF (ha:PT X a tA)(hb:PW X (.BoolOp .Or (b::rest) pos) tB'):PW X (.BoolOp .Or (a::b::rest) pos) (tOr tA tB'):=by
 intro wh pins s σ H Q I h
 refine isTrue_or (thn (ha pins s σ H _ I h) λ c s1 ⟨H1,I1,q1⟩=>?_)
 cases c with
 | true=>exact⟨H1,I1,q1⟩
 | false=>exact hb wh pins s1 σ H1 Q I1 q1
theorem kB (ha:PT X a tA):PT X (.UnaryOp .Not a pos) (tNot tA):=by
 intro pins s σ H Q I h
 exact isTrue_not (ha pins s σ H (λ c H1=>Q (!c) H1) I h)
def tAndV (ta tb:TE):TE:=λ σ H Q=>ta σ H λ x H1=>EBl x λ c=>if c=true then tb σ H1 Q else Q (.bl false) H1
def tOrV (ta tb:TE):TE:=λ σ H Q=>ta σ H λ x H1=>EBl x λ c=>if c=true then Q (.bl true) H1 else tb σ H1 Q
def tNotV (ta:TE):TE:=λ σ H Q=>ta σ H λ x H1=>EBl x λ c=>Q (.bl (!c)) H1
theorem cQ {op} {t:TE} (h:PE X a t):PE X (.BoolOp op [a] pos) t:=λ pins s σ H Q I hw=>BoolOp_one (h pins s σ H Q I hw)
theorem fH (ha:PE X a ta)(hb:PE X (.BoolOp .And (b::rest) pos) tb):PE X (.BoolOp .And (a::b::rest) pos) (tAndV ta tb):=by
 intro pins s σ H Q I h
 refine BoolOp_and (thn (ha pins s σ H _ I h) λ v s1 ⟨x,H1,I1,r1,q1⟩=>?_)
 obtain⟨c,rfl,q1⟩:=q1
 cases r1
 refine ucy ?_
 cases c with
 | true=>exact hb pins s1 σ H1 Q I1 q1
 | false=>exact⟨.bl false,H1,I1,rfl,q1⟩
theorem kM (ha:PE X a ta)(hb:PE X (.BoolOp .Or (b::rest) pos) tb):PE X (.BoolOp .Or (a::b::rest) pos) (tOrV ta tb):=by
 intro pins s σ H Q I h
 refine BoolOp_or (thn (ha pins s σ H _ I h) λ v s1 ⟨x,H1,I1,r1,q1⟩=>?_)
 obtain⟨c,rfl,q1⟩:=q1
 cases r1
 refine ucy ?_
 cases c with
 | false=>exact hb pins s1 σ H1 Q I1 q1
 | true=>exact⟨.bl true,H1,I1,rfl,q1⟩
theorem zb9 (ha:PE X a ta):PE X (.UnaryOp .Not a pos) (tNotV ta):=by
 intro pins s σ H Q I h
 refine UnaryOp_ (thn (ha pins s σ H _ I h) λ v s1 ⟨x,H1,I1,r1,q1⟩=>?_)
 obtain⟨c,rfl,q1⟩:=q1
 cases r1
 exact not_of (ucy ⟨.bl (!c),H1,I1,rfl,q1⟩)
def tIf (t:TT)(ta tb:TE):TE:=λ σ H Q=>t σ H λ c H1=>if c=true then ta σ H1 Q else tb σ H1 Q
theorem jI {c:ucg}(hc:PT X c tA)(ha:PE X a ta)(hb:PE X b tb):PE X (.IfExp c a b pos) (tIf tA ta tb):=by
 intro pins s σ H Q I h
 refine wpAny_IfExp (thn (hc pins s σ H _ I h) λ d s1 ⟨H1,I1,q1⟩=>?_)
 cases d with
 | true=>exact ha pins s1 σ H1 Q I1 q1
 | false=>exact hb pins s1 σ H1 Q I1 q1
end
end L2
namespace L2
open PySem PySem.Spec PyProof.Rows
def SqL (K:c6)(H:Hp)(a:j9)(xs:List V):Prop :=
 Rd H a (.lst xs) \/
  ∃ (o:Obj)(its:Array d6)(n:Nat),K.lookup a=some o/\o.cls=.type "list"/\o.dict=none/\o.data=.seq its n/\its.size<=v5/\Vals xs its.toList
def SqT (K:c6)(H:Hp)(a:j9)(xs:List V):Prop :=
 Rd H a (.tup xs) \/
  ∃ (o:Obj)(its:Array d6)(n:Nat),K.lookup a=some o/\o.cls=.type "tuple"/\o.data=.seq its n/\its.size<=v5/\Vals xs its.toList
def absV:d6->Option V
 | .none=>some .non
 | .bool b=>some (.bl b)
 | .int i _=>some (.int i)
 | .str x _=>some (.str x)
 | .bytes b _=>some (.byt b)
 | .float b _=>some (.flt b)
 | .ref a=>some (.ref a)
 | .type n=>some (.ty n)
 | _=>none
theorem RelV.abs {x:V}{u:d6}(r:RelV x u):absV u=some x:=by
 cases x with
 | non=>cases r;rfl
 | bl _=>cases r;rfl
 | int _=>obtain⟨t,rfl⟩:=r;rfl
 | str _=>obtain⟨t,rfl⟩:=r;rfl
 | byt _=>obtain⟨t,rfl⟩:=r;rfl
 | flt _=>obtain⟨t,rfl⟩:=r;rfl
 | ref _=>cases r;rfl
 | ty _=>cases r;rfl
theorem RelV.inj {x y:V}{u:d6}(r:RelV x u)(q:RelV y u):x=y:=u7 (r.abs.symm.trans q.abs)
theorem Vals.inj:∀ {xs ys:List V}{us:List d6},Vals xs us->Vals ys us->xs=ys
 | _,_,_,.nil,.nil=>rfl
 | _,_,_,.cons r t,.cons r' t'=>by rw[r.inj r',Vals.inj t t']
section
variable {X:Cx}{pins:List (j9 × Obj)}{σ:St}{H:Hp}{s:d7}{a:j9}{xs ys:List V}
theorem SqL.of {K:c6}(h:H a=some (.lst xs)):SqL K H a xs:=.inl (.inl h)
theorem SqT.of {K:c6}(h:H a=some (.tup xs)):SqT K H a xs:=.inl (.inl h)
theorem Inv.list (I:Inv X pins σ H s)(h:SqL X.K H a xs):∃ its:List d6,Vals xs its/\PlainL s.heap a its.toArray/\xs.length<=v5:=by
 rcases h with h | ⟨o,its,n,hk,hc,hd,hs,hz,r⟩
 ·obtain⟨z,its,n,r,e⟩:=h.ok I.hok
  exact⟨its,r,⟨_,n,e,rfl,rfl,rfl⟩,z⟩
 ·refine⟨its.toList,r,⟨o,n,I.kIn a o hk,hc,hd,by simpa using hs⟩,?_⟩
  have e:=r.length
  simp only [z9] at e
  left
theorem Inv.tuple (I:Inv X pins σ H s)(h:SqT X.K H a xs):∃ its:List d6,Vals xs its/\IsTup s.heap a its.toArray/\xs.length<=v5:=by
 rcases h with h | ⟨o,its,n,hk,hc,hs,hz,r⟩
 ·obtain⟨z,its,r,p⟩:=h.ok I.hok
  exact⟨its,r,p.tup,z⟩
 ·refine⟨its.toList,r,⟨o,I.kIn a o hk,hc,n,by simpa using hs⟩,?_⟩
  have e:=r.length
  simp only [z9] at e
  left
theorem Inv.list_inj (I:Inv X pins σ H s)(h:SqL X.K H a xs)(h':SqL X.K H a ys):xs=ys:=by
 obtain⟨its,r,⟨o,n,e,_,_,d⟩,_⟩:=I.list h
 obtain⟨its',r',⟨o',n',e',_,_,d'⟩,_⟩:=I.list h'
 rw[e] at e';cases e'
 rw[d] at d'
 injection d' with d1 _
 have:its=its':=by simpa using congrArg Array.toList d1
 subst this
 exact r.inj r'
theorem Inv.tuple_inj (I:Inv X pins σ H s)(h:SqT X.K H a xs)(h':SqT X.K H a ys):xs=ys:=by
 obtain⟨its,r,⟨o,e,_,n,d⟩,_⟩:=I.tuple h
 obtain⟨its',r',⟨o',e',_,n',d'⟩,_⟩:=I.tuple h'
 rw[e] at e';cases e'
 rw[d] at d'
 injection d' with d1 _
 have:its=its':=by simpa using congrArg Array.toList d1
 subst this
 exact r.inj r'
end
abbrev Cx.wish (X:Cx)(E:d6->d7->Prop):Cx:={ X with xe:=E }
abbrev Cx.nox (X:Cx):Cx:=X.wish λ _ _=>False
theorem Cx.Ok.wish {X:Cx}(ok:X.Ok)(E:d6->d7->Prop):(X.wish E).Ok :=
 ⟨ok.mod,ok.kind,ok.glob,ok.blt,ok.above,ok.inj,ok.has,ok.cab,ok.hd,ok.frames,ok.stk,ok.exf,ok.bs,ok.bsz,ok.noex,ok.exfs,ok.funs,ok.frf⟩
theorem Cx.Ok.unwish {X:Cx}{E:d6->d7->Prop}(ok:(X.wish E).Ok):X.Ok :=
 ⟨ok.mod,ok.kind,ok.glob,ok.blt,ok.above,ok.inj,ok.has,ok.cab,ok.hd,ok.frames,ok.stk,ok.exf,ok.bs,ok.bsz,ok.noex,ok.exfs,ok.funs,ok.frf⟩
section
variable {X:Cx}{pins:List (j9 × Obj)}{σ:St}{H:Hp}{s:d7}{E:d6->d7->Prop}
theorem Inv.wish (I:Inv X pins σ H s)(E:d6->d7->Prop):Inv (X.wish E) pins σ H s:=⟨I.ok.wish E,I.os,I.bare,I.base,I.loc,I.cell,I.free,I.freeC,I.pin,I.hok,I.len⟩
theorem Inv.unwish (I:Inv (X.wish E) pins σ H s):Inv X pins σ H s:=⟨I.ok.unwish,I.os,I.bare,I.base,I.loc,I.cell,I.free,I.freeC,I.pin,I.hok,I.len⟩
theorem SP.unwish {D:Ends}{f:Flow}{s':d7}(h:SP (X.wish E) pins D f s'):SP X pins D f s':=by
 cases f with
 | next=>obtain⟨σ',H',I,q⟩:=h;exact⟨σ',H',I.unwish,q⟩
 | brk=>obtain⟨σ',H',I,q⟩:=h;exact⟨σ',H',I.unwish,q⟩
 | cont=>obtain⟨σ',H',I,q⟩:=h;exact⟨σ',H',I.unwish,q⟩
 | ret u=>obtain⟨v,σ',H',I,r,q⟩:=h;exact⟨v,σ',H',I.unwish,r,q⟩
theorem PSs.nox {st:List ude}{t:TS}(h:PSs X.nox st t):PSs X st t:=λ pins s σ H D I hw =>
 ub4 (h pins s σ H D (I.wish _) hw) (λ _ _ q=>q.unwish) λ _ _ z=>False.elim z
end
section
variable {X:Cx}{st:ude}{rest:List ude}{t u:TS}{e:ucg}{te:TE}{pos:Pos}
def tNext:TS:=λ D σ H=>D.nx σ H
def tSeq (t u:TS):TS:=λ D σ H=>t { D with nx:=u D } σ H
theorem bG:PSs X [] tNext:=λ _ _ σ H _ I h=>ue9 ⟨σ,H,I,h⟩
theorem aD (h1:PS X st t)(h2:PSs X rest u):PSs X (st::rest) (tSeq t u):=by
 intro pins s σ H D I h
 refine wpAny_execs_cons (thn (h1 pins s σ H { D with nx:=u D } I h) λ f s1 q=>?_)
 cases f with
 | next =>
  obtain⟨σ',H',I',q⟩:=q
  exact h2 pins s1 σ' H' D I' q
 | ret v=>exact q
 | brk=>exact q
 | cont=>exact q
theorem aG (h1:PS X st t):PSs X [st] t:=by
 intro pins s σ H D I h
 refine wpAny_execs_cons (thn (h1 pins s σ H D I h) λ f s1 q=>?_)
 cases f with
 | next=>exact ue9 q
 | ret v=>exact q
 | brk=>exact q
 | cont=>exact q
def tCont:TS:=λ D σ H=>D.ct σ H
theorem lC:PS X (.Continue pos) tCont:=λ _ _ σ H _ I h=>wpAny_Continue ⟨σ,H,I,h⟩
theorem Inv.quiet {pins:List (j9 × Obj)}{σ:St}{H:Hp}{s:d7}(I:Inv X pins σ H s):interactive X.env=false:=by simp [interactive,I.ok.kind]
def tDrop (te:TE):TS:=λ D σ H=>te σ H λ _ H1=>D.nx σ H1
theorem bW (he:PE X e te)(hs:swapsWith e none pos.line X.env=pure false:=by rfl):PS X (.Expr e pos) (tDrop te):=by
 intro pins s σ H D I h
 exact wpAny_Expr_any (thn (he pins s σ H _ I h) λ v s1 ⟨x,H1,I1,r1,q1⟩=>⟨σ,H1,I1,q1⟩) I.quiet hs
def tRet (te:TE):TS:=λ D σ H=>te σ H D.rt
theorem aR (he:PE X e te):PS X (.Return (some e) pos) (tRet te):=by
 intro pins s σ H D I h
 exact wpAny_Return_some (thn (he pins s σ H _ I h) λ v s1 ⟨x,H1,I1,r1,q1⟩=>⟨x,σ,H1,I1,r1,q1⟩)
def tIfS (c:TT)(t u:TS):TS:=λ D σ H=>c σ H λ b H1=>if b=true then t D σ H1 else u D σ H1
theorem bH {c:ucg}{a b:List ude}{tc:TT}(hc:PT X c tc)(ha:PSs X a t)(hb:PSs X b u):PS X (.If c a b pos) (tIfS tc t u):=by
 intro pins s σ H D I h
 refine wpAny_If (thn (hc pins s σ H _ I h) λ d s1 ⟨H1,I1,q1⟩=>?_)
 cases d with
 | true=>exact ha pins s1 σ H1 D I1 q1
 | false=>exact hb pins s1 σ H1 D I1 q1
end
abbrev TG:=V->St->Hp->(St->Hp->Prop)->Prop
abbrev TGs:=List V->St->Hp->(St->Hp->Prop)->Prop
def PG (X:Cx)(target:ucg)(t:TG):Prop :=
 ∀ (pins:List (j9 × Obj))(s:d7)(σ:St)(H:Hp)(v:V)(u:d6)(Q:St->Hp->Prop),Inv X pins σ H s->RelV v u->t v σ H Q ->
  j8 (v6 X.prog X.w) X.A (assign target X.env u) (λ _ s'=>∃ σ' H',Inv X pins σ' H' s'/\Q σ' H') X.xe s
def PGs (X:Cx)(ts:List ucg)(t:TGs):Prop :=
 ∀ (pins:List (j9 × Obj))(s:d7)(σ:St)(H:Hp)(vs:List V)(us:List d6)(Q:St->Hp->Prop),Inv X pins σ H s->Vals vs us->t vs σ H Q ->
  j8 (v6 X.prog X.w) X.A (assignInOrder ((assignEach ts X.env).map (·.2)) us) (λ _ s'=>∃ σ' H',Inv X pins σ' H' s'/\Q σ' H') X.xe s
abbrev TSet:=V->V->V->Hp->(Hp->Prop)->Prop
def PSet (X:Cx)(t:TSet):Prop :=
 ∀ (pins:List (j9 × Obj))(s:d7)(σ:St)(H:Hp)(o i v:V)(ov iv u:d6)(Q:Hp->Prop),Inv X pins σ H s->RelV o ov->RelV i iv->RelV v u->t o i v H Q ->
  j8 (v6 X.prog X.w) X.A (setItem ov iv u) (λ _ s'=>∃ H',Inv X pins σ H' s'/\Q H') X.xe s
abbrev TIp:=V->V->Hp->VK->Prop
def PIp (X:Cx)(op:Operator)(t:TIp):Prop :=
 ∀ (pins:List (j9 × Obj))(s:d7)(σ:St)(H:Hp)(x y:V)(v u:d6)(Q:VK),Inv X pins σ H s->RelV x v->RelV y u->t x y H Q ->
  j8 (v6 X.prog X.w) X.A (inplaceOp op v u) (EP X pins σ Q) X.xe s
section
variable {X:Cx}{pos:Pos}
def gName (i:Nat):TG:=λ v σ H Q=>Q (σ.set i (some v)) H
theorem aJ {i:Nat}{x:Str}(hN:X.N.Nodup)(hi:X.N[i]?=some x)(hx:Loc X.env.scope x)(hf:X.fn x=true\/X.env.scope.names.lookup x=some .local:=by first | exact .inl rfl | exact .inr rfl | assumption):PG X (.Name x pos) (gName i):=by
 intro pins s σ H v u Q I r h
 exact wpAny_assign_Name (jC I hN hi hx r (λ s' I'=>⟨_,H,I',h⟩) hf)
def gNil:TGs:=λ vs σ H Q=>vs=[]/\Q σ H
inductive gCons_i (t:TG)(u:TGs)(vs:List V)(σ:L2.St)(H:Hp)(Q:L2.St->Hp->Prop):Prop
 | mk:∀ v r,(vs=v::r)->(t v σ H λ σ' H'=>u r σ' H' Q)->gCons_i t u vs σ H Q
def gCons (t:TG)(u:TGs):TGs:=λ vs σ H Q=>gCons_i t u vs σ H Q
theorem bM:PGs X [] gNil:=by
 intro pins s σ H vs us Q I r h
 obtain⟨e,h⟩:=h
 subst e
 cases r
 exact assignInOrder_nil ⟨σ,H,I,h⟩
theorem aS {e:ucg}{es:List ucg}{t:TG}{u:TGs}(h1:PG X e t)(h2:PGs X es u)
  (hs:(assignEach (e::es) X.env).map (·.2)=assign e X.env::(assignEach es X.env).map (·.2):=by rfl):PGs X (e::es) (gCons t u):=by
 intro pins s σ H vs us Q I r h
 obtain⟨v,vr,e1,h⟩:=h
 subst e1
 cases r with
 | cons r rr =>
  rw[hs]
  refine assignInOrder_cons (thn (h1 pins s σ H _ _ _ I r h) λ _ s1 ⟨σ1,H1,I1,q1⟩=>?_)
  exact h2 pins s1 σ1 H1 _ _ Q I1 rr q1
inductive gTup_i (K:c6)(n:Nat)(t:TGs)(v:V)(σ:L2.St)(H:Hp)(Q:L2.St->Hp->Prop):Prop
 | mk:∀ a xs,(v=.ref a)->(SqT K H a xs)->(xs.length=n)->(t xs σ H Q)->gTup_i K n t v σ H Q
def gTup (K:c6)(n:Nat)(t:TGs):TG:=λ v σ H Q=>gTup_i K n t v σ H Q
theorem cC {es:List ucg}{k:Nat}{t:TGs}{n:Nat}(hc:X.calm=true)(h:PGs X es t)
  (hn:(assignEach es X.env).length=n:=by rfl) (hst:(assignEach es X.env).findIdx? (·.1)=none:=by rfl):PG X (.Tuple es k pos) (gTup X.K n t):=by
 intro pins s σ H v u Q I r hw
 obtain⟨a,xs,e1,hq,hl,hw⟩:=hw
 subst e1
 cases r
 obtain⟨its,rv,ht,hz⟩:=I.tuple hq
 refine assign_Tuple_tuple (I.ok.hd hc) ht (by simp [hn,← hl,rv.length]) hst λ h' hx=>?_
 have I1:Inv X pins σ H { s with heap:=h' }:=I.kept (t':=s.toks) λ b o e=>hx b o (j7 (j3 e)) e
 exact h pins _ σ H xs _ Q I1 (by simpa using rv) hw
def gSub (to ti:TE)(t:TSet):TG:=λ v σ H Q=>to σ H λ o H1=>ti σ H1 λ i H2=>t o i v H2 λ H3=>Q σ H3
theorem dR {o i:ucg}{to ti:TE}{t:TSet}(ho:PE X o to)(hi:PE X i ti)(hs:PSet X t)
  (ha:∀ v,assign (.Subscript o i pos) X.env v=(do
   let ov ← holding [v] (eval o X.env)
   let iv ← holding [v,ov] (eval i X.env)
   standAt pos
   holding [v,ov,iv] (setItem ov iv v)
   release [v,ov,iv] []):=by intro _;rfl):PG X (.Subscript o i pos) (gSub to ti t):=by
 intro pins s σ H v u Q I r h
 rw[ha]
 refine a9 (uam (thn (ho pins s σ H _ I h) λ ov s1 ⟨x,H1,I1,r1,q1⟩=>?_))
 refine a9 (uam (thn (hi pins s1 σ H1 _ I1 q1) λ iv s2 ⟨y,H2,I2,r2,q2⟩=>?_))
 refine a9 (uez (a9 (uam (thn (hs pins s2 σ H2 x y v ov iv u _ I2 r1 r2 r q2) λ _ s3 ⟨H3,I3,q3⟩=>?_))))
 exact wpAny_release ⟨σ,H3,I3,q3⟩
def tAsg (te:TE)(g:TG):TS:=λ D σ H=>te σ H λ x H1=>g x σ H1 D.nx
theorem bX {tg e:ucg}{te:TE}{g:TG}(he:PE X e te)(hg:PG X tg g)(hs:swapsWithSole [tg] e pos.line X.env=pure false:=by rfl)(hw:swappedStores [tg] e X.env=pure none:=by rfl)
  (h1:(assignEach [tg] X.env).map (·.2)=[assign tg X.env]:=by rfl):PS X (.Assign [tg] e pos) (tAsg te g):=by
 intro pins s σ H D I h
 refine wpAny_Assign_stores (thn (he pins s σ H _ I h) λ v s1 ⟨x,H1,I1,r1,q1⟩=>?_) hs hw
 rw[h1]
 exact thn (hg pins s1 σ H1 x v _ I1 r1 q1) λ _ s2 q=>q
theorem aN {i:Nat}{x:Str}{e:ucg}{te:TE}{pos':Pos}(hN:X.N.Nodup)(hi:X.N[i]?=some x)(hx:Loc X.env.scope x)(he:PE X e te)(hs:swapsWith e (some (.Name x pos')) pos.line X.env=pure false:=by rfl)(hf:X.fn x=true\/X.env.scope.names.lookup x=some .local:=by first | exact .inl rfl | exact .inr rfl | assumption) :
  PS X (.Assign [.Name x pos'] e pos) (tAsg te (gName i)):=by
 intro pins s σ H D I h
 refine wpAny_Assign_Name (thn (he pins s σ H _ I h) λ v s1 ⟨y,H1,I1,r1,q1⟩=>?_) hs
 exact jC I1 hN hi hx r1 (λ s2 I2=>⟨_,H1,I2,q1⟩) hf
def tAug (i:Nat)(te:TE)(ti:TIp):TS:=λ D σ H=>∃ x,σ[i]?=some (some x)/\te σ H λ y H1=>ti x y H1 λ z H2=>D.nx (σ.set i (some z)) H2
theorem zb4 {i:Nat}{x:Str}{e:ucg}{te:TE}{op:Operator}{ti:TIp}{pos':Pos}(hN:X.N.Nodup)(hi:X.N[i]?=some x)(hx:Loc X.env.scope x)(he:PE X e te)(ho:PIp X op ti)(hf:X.fn x=true\/X.env.scope.names.lookup x=some .local:=by first | exact .inl rfl | exact .inr rfl | assumption) :
  PS X (.AugAssign (.Name x pos') op e pos) (tAug i te ti):=by
 intro pins s σ H D I h
 obtain⟨v,e1,h⟩:=h
 obtain⟨m,hn,hl⟩:=I.loc
 have vis:Vis X.env.scope x:=by rcases hx with k | k;exact .inl k;exact .inr (.inl k)
 obtain⟨u,r,l⟩:=hl i x v hi e1 vis
 refine wpAny_AugAssign_Name ?_
 have go:j8 (v6 X.prog X.w) X.A (eval e X.env) (λ w s₂=>j8 (v6 X.prog X.w) X.A (inplaceOp op u w) (λ r s₃=>j8 (v6 X.prog X.w) X.A (storeName X.env x r) (λ _=>SP X pins D .next) X.xe s₃) X.xe s₂) X.xe s:=by
  refine thn (he pins s σ H _ I h) λ w s1 ⟨y,H1,I1,r1,q1⟩=>?_
  refine thn (ho pins s1 σ H1 v y u w _ I1 r r1 q1) λ z s2 ⟨zv,H2,I2,r2,q2⟩=>?_
  exact jC I2 hN hi hx r2 (λ s3 I3=>⟨_,H2,I3,q2⟩) hf
 rcases l with ⟨hk,hm⟩ | ⟨hk,c,hc,hcell⟩
 ·exact wpAny_loadName_local I.ok.kind hk hn hm go
 ·rcases hk with hk | hk
  ·exact wpAny_loadName_cell I.ok.kind hk hc hcell go
  ·rcases hx with k | k
   ·have:X.env.scope.names.lookup x=some .free:=hk
    rw[k] at this;cases this
   ·have:X.env.scope.names.lookup x=some .free:=hk
    rw[k] at this;cases this
def ipI (f:Int->Int->Int):TIp:=λ x y H Q=>∃ i j,x=.int i/\y=.int j/\Q (.int (f i j)) H
theorem zcp:PIp X .Add (ipI λ i j=>i+j):=by
 intro pins s σ H x y v u Q I r1 r2 h
 obtain⟨i,j,e1,e2,q⟩:=h
 subst e1;subst e2
 obtain⟨t,rfl⟩:=r1
 obtain⟨t',rfl⟩:=r2
 exact iadd_int ⟨.int _,H,I.tok _,⟨_,rfl⟩,q⟩
end
section
variable {X:Cx}{pos:Pos}
def tWhile (c:TT)(tb:TS):TS:=λ D σ H=>∃ W:Nat->St->Hp->Prop,(∃ m,W m σ H)/\∀ m σ H,W m σ H ->
 c σ H λ b H1=>if b=true then ∃ N:St->Hp->Prop,(∀ σ' H',N σ' H'->∃ m',m'<m/\W m' σ' H')/\tb { D with nx:=N,ct:=N,bk:=D.nx } σ H1 else D.nx σ H1
theorem jG {c:ucg}{body:List ude}{tc:TT}{tb:TS}(hp:PassesOwn (v6 X.prog X.w) X.A X.env X.xe)(hc:PT X c tc)(hb:PSs X body tb):PS X (.While c body [] pos) (tWhile tc tb):=by
 intro pins s σ H D I h
 obtain⟨W,⟨m0,w0⟩,turn⟩:=h
 refine wpAny_While (codeAny_whileLoop (λ n s'=>∃ σ' H',Inv X pins σ' H' s'/\W n σ' H') ?_ m0 ⟨σ,H,I,w0⟩)
 rintro n s1 ⟨σ1,H1,I1,w1⟩
 refine udg hp (thn (hc pins s1 σ1 H1 _ I1 (turn n σ1 H1 w1)) λ b s2 ⟨H2,I2,q2⟩=>?_)
 cases b with
 | true =>
  obtain⟨N,hN,q2⟩:=q2
  rw[uhc rfl]
  refine udg hp (thn (hb pins s2 σ1 H2 _ I2 q2) λ f s3 q3=>?_)
  cases f with
  | next =>
   obtain⟨σ3,H3,I3,n3⟩:=q3
   obtain⟨m',hm,w3⟩:=hN σ3 H3 n3
   exact⟨m',hm,σ3,H3,I3,w3⟩
  | cont =>
   obtain⟨σ3,H3,I3,n3⟩:=q3
   obtain⟨m',hm,w3⟩:=hN σ3 H3 n3
   exact⟨m',hm,σ3,H3,I3,w3⟩
  | brk=>exact q3
  | ret v=>exact q3
 | false =>
  rw[uhd j6]
  exact ue9 ⟨σ1,H2,I2,q2⟩
end
structure It where
 go:Nat->Hp->Prop
 yld:Nat->Hp->V->Hp->Prop
 stop:Nat->Hp->Prop
def FpOk (X:Cx)(pins:List (j9 × Obj))(H:Hp)(b:j9):Prop :=
 H b=none/\b≠X.env.locals/\b∉X.fs/\(b∈X.ex\/X.s₀.heap.objs.size<=b)/\(∀ x c,X.env.cells.lookup x=some c->c≠b)/\∀ p∈X.pn++pins,p.1≠b
theorem Inv.fpOk {X:Cx}{pins:List (j9 × Obj)}{σ:St}{H H':Hp}{s:d7}{b:j9}(I:Inv X pins σ H s)(hb:s.heap.objs.size<=b)(hn:H' b=none):FpOk X pins H' b:=by
 refine⟨hn,uch (m7 I.lt hb),I.nofs hb,.inr (uas I.sz hb),λ x c e z=>?_,λ p hp z=>?_⟩
 ·obtain⟨v,q⟩:=I.cell x c e
  exact absurd (m7 q.lt (by rw[z];exact hb)) (ub1 _)
 ·exact absurd (m7 (j3 (I.pin p hp).1) (by rw[z];exact hb)) (ub1 _)
structure Turn (P:m5)(w:ual)(K:c6)(tg:ucg)(J:It)(fp:List j9)(it:j9)(tn:Nat->Heap->Prop):Prop where
 mem:it∈fp
 obj:∀ i h,tn i h->∀ b∈fp,∃ o,h.get? b=some o/\∀ v,o.data≠.cell v
 keep:∀ i h h',tn i h->(∀ b∈fp,∀ o,h.get? b=some o->h'.get? b=some o)->tn i h'
 item:∀ (X:Cx),X.prog=P->X.w=w->X.K=K->X.calm=true->∀ (i:Nat)(pins:List (j9 × Obj))(s:d7)(σ:St)(H:Hp)(E:d6->d7->Prop),Inv X pins σ H s->(∀ b∈fp,FpOk X pins H b)->tn i s.heap->J.go i H ->
  j8 (v6 P w) X.A (pyNext (.ref it)) (λ r s1=>∃ u,r=some u /\
   j8 (v6 P w) X.A (letOwnedTupleGo tg (.ref it) u) (λ _ s2=>∃ x H',Inv X pins σ H' s2/\RelV x u/\J.yld i H x H'/\tn (i+1) s2.heap/\∀ b∈fp,H' b=none) E s1) E s
 done:∀ (X:Cx),X.prog=P->X.w=w->X.K=K->X.calm=true->∀ (i:Nat)(pins:List (j9 × Obj))(s:d7)(σ:St)(H:Hp)(E:d6->d7->Prop),Inv X pins σ H s->(∀ b∈fp,FpOk X pins H b)->tn i s.heap->J.stop i H ->
  j8 (v6 P w) X.A (pyNext (.ref it)) (λ r s1=>r=none/\Inv X pins σ H s1) E s
 self:∀ (A:uaf)(i:Nat)(s:d7)(Q:d6->d7->Prop)(E:d6->d7->Prop),tn i s.heap->Q (.ref it) s->j8 (v6 P w) A (pyIter (.ref it)) Q E s
abbrev TI:=St->Hp->(It->Hp->Prop)->Prop
def PIE (X:Cx)(pins:List (j9 × Obj))(σ:St)(tg:ucg)(R:It->Hp->Prop)(itv:d6)(s2:d7):Prop :=
 ∃ (it:j9)(fp:List j9)(tn:Nat->Heap->Prop)(J:It)(H':Hp),itv=.ref it/\Inv X pins σ H' s2/\Turn X.prog X.w X.K tg J fp it tn/\tn 0 s2.heap/\(∀ b∈fp,FpOk X pins H' b)/\R J H'
def PI (X:Cx)(tg iter:ucg)(wi:TI):Prop :=
 ∀ (pins:List (j9 × Obj))(s:d7)(σ:St)(H:Hp)(R:It->Hp->Prop),Inv X pins σ H s->wi σ H R ->
  j8 (v6 X.prog X.w) X.A (eval iter X.env) (λ v s1=>j8 (v6 X.prog X.w) X.A (pyIter v) (PIE X pins σ tg R) X.xe s1) X.xe s
theorem kO {M:Model}{A:uaf}{E:d6->d7->Prop}{s:d7}{tg:ucg}{it:j9}{u:d6}{o:Obj}{n:String}{vs:Array d6}{Q:Unit->d7->Prop}(ho:s.heap.get? it=some o)(hc:o.cls=.type n)(hd:o.data=.fields vs)
  (hn:["enumerate","zip","dict_itemiterator","dict_reverseitemiterator","odict_iterator","itertools.zip_longest","itertools.pairwise"].contains n=false) (hQ:Q () s):j8 M A (letOwnedTupleGo tg (.ref it) u) Q E s:=by
 unfold letOwnedTupleGo
 cases tg <;> first
  | exact c8 hQ
  | (cases u <;> first
      | exact c8 hQ
      | (refine a9 (wpAny_load ho ?_)
         rw[hc,hd]
         show j8 M A (if (["enumerate","zip","dict_itemiterator","dict_reverseitemiterator","odict_iterator","itertools.zip_longest","itertools.pairwise"].contains n&&vs[0]?==some (rawInt _))=true then _ else _) Q E s
         rw[uhd (by intro h;rw[hn,Bool.false_and] at h;cases h)]
         exact c8 hQ))
def Itl (K:c6)(a:j9):It :=
 ⟨λ i H=>∃ xs x,SqL K H a xs/\xs[i]?=some x,λ i H x H'=>H'=H/\∀ xs,SqL K H a xs->xs[i]?=some x,λ i H=>∃ xs,SqL K H a xs/\xs.length<=i⟩
def Itt (K:c6)(a:j9):It :=
 ⟨λ i H=>∃ xs x,SqT K H a xs/\xs[i]?=some x,λ i H x H'=>H'=H/\∀ xs,SqT K H a xs->xs[i]?=some x,λ i H=>∃ xs,SqT K H a xs/\xs.length<=i⟩
def Itr (lo:Int)(n:Nat):It:=⟨λ i _=>i<n,λ i H x H'=>H'=H/\x=.int (lo+i),λ i _=>n<=i⟩
theorem wT {P:m5}{w:ual}{K:c6}{tg:ucg}(a it:j9):Turn P w K tg (Itl K a) [it] it (λ i h=>h.IsListIter it a i) where
 mem:=by simp
 obj:=λ i h st b hb=>by
  have e:b=it:=by simpa using hb
  subst e
  obtain⟨o,e,c,d⟩:=st
  exact⟨o,e,λ v z=>by rw[d] at z;cases z⟩
 keep:=λ i h h' st k=>st.at λ o e=>k it (by simp) o e
 item:=by
  intro X hP hw hK hc i pins s σ H E I hf st hg
  subst hP hw hK
  obtain⟨xs,x,hq,hx⟩:=hg
  obtain⟨its,rv,p,hz⟩:=I.list hq
  obtain⟨u,hu,ru⟩:=rv.get hx
  obtain⟨f0,f1,f2,f3,f4,f5⟩:=hf it (by simp)
  refine wpAny_pyNext_list_item st p.isList (x:=u) (by simpa using hu) λ h' st' sb=>?_
  have I1:Inv X pins σ H { s with heap:=h' }:=I.turned (t':=s.toks) (λ b o hb e=>(sb.2 b hb).trans e) f0 f1 f3 f4 f5
  obtain⟨o,e,c,d⟩:=id st'
  exact⟨u,rfl,kO (s:={ s with heap:=h' }) e c d (by decide) ⟨x,H,I1,ru,⟨rfl,λ ys hy=>by rw[I.list_inj hy hq];exact hx⟩,st',λ b hb=>(hf b hb).1⟩⟩
 done:=by
  intro X hP hw hK hc i pins s σ H E I hf st hg
  subst hP hw hK
  obtain⟨xs,hq,hx⟩:=hg
  obtain⟨its,rv,p,hz⟩:=I.list hq
  obtain⟨f0,f1,f2,f3,f4,f5⟩:=hf it (by simp)
  have hl:=rv.length
  exact wpAny_pyNext_list_end (I.ok.hd hc) st p.isList (by simp;left) λ h' eb=>⟨rfl,I.turned (t':=s.toks) (λ b o hb e=>eb b o hb e) f0 f1 f3 f4 f5⟩
 self:=λ _ _ _ _ _ st h=>wpAny_pyIter_listiter st h
theorem vQ {P:m5}{w:ual}{K:c6}{tg:ucg}(a it:j9):Turn P w K tg (Itt K a) [it] it (λ i h=>h.IsTupleIter it a i) where
 mem:=by simp
 obj:=λ i h st b hb=>by
  have e:b=it:=by simpa using hb
  subst e
  obtain⟨o,e,c,d⟩:=st
  exact⟨o,e,λ v z=>by rw[d] at z;cases z⟩
 keep:=λ i h h' st k=>st.at λ o e=>k it (by simp) o e
 item:=by
  intro X hP hw hK hc i pins s σ H E I hf st hg
  subst hP hw hK
  obtain⟨xs,x,hq,hx⟩:=hg
  obtain⟨its,rv,p,hz⟩:=I.tuple hq
  obtain⟨u,hu,ru⟩:=rv.get hx
  obtain⟨f0,f1,f2,f3,f4,f5⟩:=hf it (by simp)
  refine wpAny_pyNext_tuple_item st (show s.heap.IsTuple a its.toArray from p) (x:=u) (by simpa using hu) λ h' st' sb=>?_
  have I1:Inv X pins σ H { s with heap:=h' }:=I.turned (t':=s.toks) (λ b o hb e=>(sb.2 b hb).trans e) f0 f1 f3 f4 f5
  obtain⟨o,e,c,d⟩:=id st'
  exact⟨u,rfl,kO (s:={ s with heap:=h' }) e c d (by decide) ⟨x,H,I1,ru,⟨rfl,λ ys hy=>by rw[I.tuple_inj hy hq];exact hx⟩,st',λ b hb=>(hf b hb).1⟩⟩
 done:=by
  intro X hP hw hK hc i pins s σ H E I hf st hg
  subst hP hw hK
  obtain⟨xs,hq,hx⟩:=hg
  obtain⟨its,rv,p,hz⟩:=I.tuple hq
  obtain⟨f0,f1,f2,f3,f4,f5⟩:=hf it (by simp)
  have hl:=rv.length
  exact wpAny_pyNext_tuple_end (I.ok.hd hc) st (show s.heap.IsTuple a its.toArray from p) (by simp;left) λ h' eb=>⟨rfl,I.turned (t':=s.toks) (λ b o hb e=>eb b o hb e) f0 f1 f3 f4 f5⟩
 self:=λ _ _ _ _ _ st h=>wpAny_pyIter_tupleiter st h
theorem vR {P:m5}{w:ual}{K:c6}{tg:ucg}(it:j9)(lo:Int)(n:Nat):Turn P w K tg (Itr lo n) [it] it (λ i h=>IsRangeIter h it (lo+(i:Nat)*1) ((n:Int)-(i:Nat)) 1) where
 mem:=by simp
 obj:=λ i h st b hb=>by
  have e:b=it:=by simpa using hb
  subst e
  exact⟨_,st,λ v z=>by
   have z':Data.fields _=Data.cell v:=z
   cases z'⟩
 keep:=λ i h h' st k=>k it (by simp) _ st
 item:=by
  intro X hP hw hK hc i pins s σ H E I hf st hg
  subst hP hw hK
  obtain⟨f0,f1,f2,f3,f4,f5⟩:=hf it (by simp)
  have W:=Walks.range (prog:=X.prog) (w:=X.w) (I.ok.hd hc) it lo 1 n
  refine W.item i s _ _ hg st λ v h' tk hv st' kk=>?_
  obtain⟨t,rfl⟩:=hv
  have I1:Inv X pins σ H { s with heap:=h',toks:=tk }:=I.turned (λ b o hb e=>kk b o (by simpa using hb) e) f0 f1 f3 f4 f5
  refine⟨_,rfl,kO (s:={ s with heap:=h',toks:=tk }) (n:="range_iterator") st' rfl rfl (by decide) ⟨.int (lo+i),H,I1,⟨t,?_⟩,⟨rfl,rfl⟩,st',λ b hb=>(hf b hb).1⟩⟩
  rw[Int.mul_one]
 done:=by
  intro X hP hw hK hc i pins s σ H E I hf st hg
  subst hP hw hK
  obtain⟨f0,f1,f2,f3,f4,f5⟩:=hf it (by simp)
  exact wpAny_pyNext_range_end (I.ok.hd hc) st (by have:n<=i:=hg;left) λ h' eb=>⟨rfl,I.turned (t':=s.toks) (λ b o hb e=>eb b o hb e) f0 f1 f3 f4 f5⟩
 self:=λ _ _ _ _ _ st h=>wpAny_pyIter_rangeiter st h
end L2
namespace L2
open PySem PySem.Spec PyProof.Rows
section
variable {X:Cx}{tg:ucg}
def iList (K:c6)(tl:TE):TI:=λ σ H R=>tl σ H λ x H1=>ERef x λ a=>(∃ xs,SqL K H1 a xs)/\R (Itl K a) H1
def iTup (K:c6)(tl:TE):TI:=λ σ H R=>tl σ H λ x H1=>ERef x λ a=>(∃ xs,SqT K H1 a xs)/\R (Itt K a) H1
theorem bR {l:ucg}{tl:TE}(hl:PE X l tl):PI X tg l (iList X.K tl):=by
 intro pins s σ H R I h
 refine thn (hl pins s σ H _ I h) λ v s1 ⟨x,H1,I1,r1,q1⟩=>?_
 obtain⟨a,e,⟨xs,hq⟩,q⟩:=q1
 subst e
 cases r1
 obtain⟨its,rv,p,hz⟩:=I1.list hq
 refine uc1 p.isList ?_
 refine⟨s1.heap.objs.size,[s1.heap.objs.size],_,_,H1,rfl,I1.kept (t':=s1.toks) λ b o e=>b9 _ e,wT a _,⟨_,i6 _ rfl,rfl,rfl⟩,λ b hb=>?_,q⟩
 have e:b=s1.heap.objs.size:=by simpa using hb
 subst e
 exact I1.fpOk (h9 _) (I1.hok.fresh (h9 _))
theorem cP {l:ucg}{tl:TE}(hl:PE X l tl):PI X tg l (iTup X.K tl):=by
 intro pins s σ H R I h
 refine thn (hl pins s σ H _ I h) λ v s1 ⟨x,H1,I1,r1,q1⟩=>?_
 obtain⟨a,e,⟨xs,hq⟩,q⟩:=q1
 subst e
 cases r1
 obtain⟨its,rv,p,hz⟩:=I1.tuple hq
 refine uf3 (show s1.heap.IsTuple a its.toArray from p) ?_
 refine⟨s1.heap.objs.size,[s1.heap.objs.size],_,_,H1,rfl,I1.kept (t':=s1.toks) λ b o e=>b9 _ e,vQ a _,⟨_,i6 _ rfl,rfl,rfl⟩,λ b hb=>?_,q⟩
 have e:b=s1.heap.objs.size:=by simpa using hb
 subst e
 exact I1.fpOk (h9 _) (I1.hok.fresh (h9 _))
theorem zP {pins:List (j9 × Obj)}{σ:St}{H:Hp}{s:d7}{R:It->Hp->Prop}{E:d6->d7->Prop}{lo hi:Int}{t u v:Tok}{tk:Nat}(I:Inv X pins σ H s)(h1:-(2^62)<=lo)(h2:lo<2^62)(h3:-(2^62)<=hi)(h4:hi<2^62)
  (q:R (Itr lo (hi-lo).toNat) H):j8 (v6 X.prog X.w) X.A (pyIter (.ref s.heap.objs.size)) (PIE X pins σ tg R) E { s with heap:=s.heap.push { cls:=.type "range",data:=.fields #[.int lo t,.int hi u,.int 1 v] },toks:=tk }:=by
 refine wpAny_pyIter_range (IsRange.new ..) (small_one h1 h2 h3 h4) ?_
 have I1:Inv X pins σ H { s with heap:=s.heap.push { cls:=.type "range",data:=.fields #[.int lo t,.int hi u,.int 1 v] },toks:=tk }:=I.kept λ b o e=>b9 _ e
 refine⟨(s.heap.push { cls:=.type "range",data:=.fields #[.int lo t,.int hi u,.int 1 v] }).objs.size,[(s.heap.push { cls:=.type "range",data:=.fields #[.int lo t,.int hi u,.int 1 v] }).objs.size],_,_,H,rfl,
  I1.kept (t':=tk) λ b o e=>b9 _ e,vR _ lo (hi-lo).toNat,?_,λ b hb=>?_,q⟩
 ·have e1:lo+((0:Nat):Int)*1=lo:=by simp
  have e2:(((hi-lo).toNat:Nat):Int)-((0:Nat):Int)=Builtin.Range.rangeSize lo hi 1:=by rw[rangeSize_one];split <;> left
  show IsRangeIter _ _ (lo+((0:Nat):Int)*1) ((((hi-lo).toNat:Nat):Int)-((0:Nat):Int)) 1
  rw[e1,e2]
  exact i6 _ rfl
 ·have e:b=(s.heap.push { cls:=.type "range",data:=.fields #[.int lo t,.int hi u,.int 1 v] }).objs.size:=by simpa using hb
  subst e
  exact I1.fpOk (h9 _) (I1.hok.fresh (h9 _))
def iRng1 (ta:TA):TI:=λ σ H R=>ta σ H λ vs H1=>EOne vs λ j=>-(2^62)<=j/\j<2^62/\R (Itr 0 j.toNat) H1
theorem cU {a:ucg}{ta:TA}{p pos:Pos}(hg:Gl X "range")(hm:X.mg "range"=none)(ha:PA X [a] ta)(hs:ubd [a] X.env=[(false,eval a X.env)]:=by rfl):PI X tg (.Call (.Name "range" p) [a] [] pos) (iRng1 ta):=by
 intro pins s σ H R I h
 refine Call_ (dE I hg hm boot_range (ucv (thn (ha pos pins s σ H _ I h) λ us s1 ⟨vs,H1,I1,r1,q1⟩=>?_) hs rfl))
 obtain⟨j,e,q1,q2,q⟩:=q1
 subst e
 cases r1 with
 | cons r rr =>
  cases rr
  obtain⟨t,rfl⟩:=r
  exact call_range_1 (zP I1 (by left) (by left) q1 q2 (by simpa using q))
def tFor (wi:TI)(g:TG)(tb:TS):TS:=λ D σ H=>wi σ H λ J H1=>∃ W:Nat->Nat->St->Hp->Prop,(∃ m,W 0 m σ H1)/\∀ i m σ H,W i m σ H ->
 (J.stop i H/\D.nx σ H)\/(J.go i H/\∃ N:St->Hp->Prop,(∀ σ' H',N σ' H'->∃ m',m'<m/\W (i+1) m' σ' H')/\∀ x H',J.yld i H x H'->g x σ H' λ σ2 H2=>tb { D with nx:=N,ct:=N,bk:=D.nx } σ2 H2)
def pinsAt (fp:List j9)(h:Heap):List (j9 × Obj):=fp.filterMap λ b=>(h.get? b).map λ o=>(b,o)
theorem gJ {fp:List j9}{h:Heap}{b:j9}{o:Obj}(hb:b∈fp)(e:h.get? b=some o):(b,o)∈pinsAt fp h:=udo.mpr ⟨b,hb,by rw[e];rfl⟩
theorem xH {fp:List j9}{h:Heap}{p:j9 × Obj}(hp:p∈pinsAt fp h):p.1∈fp/\h.get? p.1=some p.2:=by
 obtain⟨b,hb,e⟩:=udo.mp hp
 cases q:h.get? b with
 | none=>rw[q] at e;cases e
 | some o =>
  rw[q] at e
  have e':(b,o)=p:=u7 e
  subst e'
  exact⟨hb,q⟩
theorem Inv.pinned {pins:List (j9 × Obj)}{σ:St}{H:Hp}{s:d7}{fp:List j9}(I:Inv X pins σ H s)(hf:∀ b∈fp,FpOk X pins H b)(ho:∀ b∈fp,∃ o,s.heap.get? b=some o/\∀ v,o.data≠.cell v):Inv X (pins++pinsAt fp s.heap) σ H s :=
 I.pins_of λ p hp=>(o9.mp hp).elim (λ z=>I.pin p (r8 _ z)) λ z=>by
  obtain⟨hb,e⟩:=xH z
  obtain⟨f0,f1,f2,_⟩:=hf p.1 hb
  obtain⟨o,e',d⟩:=ho p.1 hb
  rw[e] at e';cases e'
  exact⟨e,f0,f1,f2,d⟩
theorem Inv.unpinned {pins pl:List (j9 × Obj)}{σ:St}{H:Hp}{s:d7}(I:Inv X (pins++pl) σ H s):Inv X pins σ H s:=I.pins_of λ p hp=>I.pin p (r8 _ (uag _ hp))
theorem bP {iter:ucg}{body:List ude}{wi:TI}{g:TG}{tb:TS}{pos:Pos}(hp:PassesOwn (v6 X.prog X.w) X.A X.env X.xe)(hc:X.calm=true)(hi:PI X tg iter wi)(hg:PG X tg g)(hb:PSs X body tb)
  (hs:∀ x,foldedSetIterable iter X.env x=pure x:=by intro _;rfl):PS X (.For tg iter body [] pos) (tFor wi g tb):=by
 intro pins s σ H D I h
 refine wpAny_For (thn (hi pins s σ H _ I h) λ v s1 h1=>thn h1 λ itv s2 h2=>?_) hs
 obtain⟨it,fp,tn,J,H2,e,I2,T,st2,f2,W,⟨m0,w0⟩,turn⟩:=h2
 subst e
  -- what stays true of the iterator's objects through the loop
 have stat:∀ {H':Hp},(∀ b∈fp,H' b=none)->∀ b∈fp,FpOk X pins H' b:=λ hn b hb=>⟨hn b hb,(f2 b hb).2⟩
 refine codeAny_forLoop_any (λ n s'=>∃ i σ' H',Inv X pins σ' H' s'/\tn i s'.heap/\(∀ b∈fp,H' b=none)/\W i n σ' H') ?_ m0 ⟨0,σ,H2,I2,st2,λ b hb=>(f2 b hb).1,w0⟩
 rintro n s3 ⟨i,σ3,H3,I3,st3,fr3,w3⟩
 rcases turn i n σ3 H3 w3 with ⟨stop,qn⟩ | ⟨go,N,hN,step⟩
 ·refine udg hp (thn (T.done X rfl rfl rfl hc i pins s3 σ3 H3 X.xe I3 (stat fr3) st3 stop) λ r s4 ⟨hr,I4⟩=>?_)
  subst hr
  exact ue9 ⟨σ3,H3,I4,qn⟩
 ·refine udg hp (thn (T.item X rfl rfl rfl hc i pins s3 σ3 H3 X.xe I3 (stat fr3) st3 go) λ r s4 ⟨u,hr,h4⟩=>?_)
  subst hr
  refine udg hp (thn h4 λ _ s5 ⟨x,H5,I5,r5,y5,st5,fr5⟩=>?_)
  have I5':=I5.pinned (stat fr5) (T.obj _ _ st5)
  refine udg hp (thn (hg _ s5 σ3 H5 x u _ I5' r5 (step x H5 y5)) λ _ s6 ⟨σ6,H6,I6,q6⟩=>?_)
  refine udg hp (thn (hb _ s6 σ6 H6 _ I6 q6) λ f s7 q7=>?_)
  have again:∀ {σ7:St}{H7:Hp},Inv X (pins++pinsAt fp s5.heap) σ7 H7 s7->N σ7 H7->∃ m,m<n/\∃ i σ' H',Inv X pins σ' H' s7/\tn i s7.heap/\(∀ b∈fp,H' b=none)/\W i m σ' H':=λ {σ7 H7} I7 n7=>by
   obtain⟨m',hm,w7⟩:=hN σ7 H7 n7
   refine⟨m',hm,i+1,σ7,H7,I7.unpinned,T.keep _ _ _ st5 λ b hb o e=>(I7.pin (b,o) (r8 _ (r8 _ (gJ hb e)))).1,λ b hb=>?_,w7⟩
   obtain⟨o,e,d⟩:=T.obj _ _ st5 b hb
   exact (I7.pin (b,o) (r8 _ (r8 _ (gJ hb e)))).2.1
  cases f with
  | next=>obtain⟨σ7,H7,I7,n7⟩:=q7;exact again I7 n7
  | cont=>obtain⟨σ7,H7,I7,n7⟩:=q7;exact again I7 n7
  | brk=>obtain⟨σ7,H7,I7,q7⟩:=q7;exact⟨σ7,H7,I7.unpinned,q7⟩
  | ret v=>obtain⟨x7,σ7,H7,I7,r7,q7⟩:=q7;exact⟨x7,σ7,H7,I7.unpinned,r7,q7⟩
end
theorem cX {K:c6}{a:j9}{xs:List V}{g:TG}{tb:TS}{D:Ends}{σ:St}{H:Hp}(Pv:Nat->St->Hp->Prop)(h0:Pv 0 σ H)(hl:∀ i σ H,i<=xs.length->Pv i σ H->SqL K H a xs)
  (hs:∀ i x σ H,xs[i]?=some x->Pv i σ H->g x σ H λ σ2 H2=>tb { D with nx:=Pv (i+1),ct:=Pv (i+1),bk:=D.nx } σ2 H2) (hd:∀ σ H,Pv xs.length σ H->D.nx σ H) :
  ∃ W:Nat->Nat->St->Hp->Prop,(∃ m,W 0 m σ H)/\∀ i m σ H,W i m σ H ->
   ((Itl K a).stop i H/\D.nx σ H)\/((Itl K a).go i H/\∃ N:St->Hp->Prop,(∀ σ' H',N σ' H'->∃ m',m'<m/\W (i+1) m' σ' H')/\∀ x H',(Itl K a).yld i H x H'->g x σ H' λ σ2 H2=>tb { D with nx:=N,ct:=N,bk:=D.nx } σ2 H2):=by
 refine⟨λ i m σ H=>m=xs.length-i/\i<=xs.length/\Pv i σ H,⟨xs.length,by simp,w8 _,h0⟩,?_⟩
 rintro i m σ H ⟨rfl,hi,p⟩
 have q:=hl i σ H hi p
 by_cases hlt:i<xs.length
 ·refine .inr ⟨⟨xs,xs[i],q,by simp [hlt]⟩,Pv (i+1),λ σ' H' p'=>⟨xs.length-(i+1),by left,rfl,hlt,p'⟩,λ x H' y=>?_⟩
  obtain⟨e,y⟩:=y
  subst e
  exact hs i x σ _ (y xs q) p
 ·have e:i=xs.length:=by left
  subst e
  exact .inl ⟨⟨xs,q,h9 _⟩,hd σ H p⟩
theorem iB {K:c6}{a:j9}{xs:List V}{g:TG}{tb:TS}{D:Ends}{σ:St}{H:Hp}(Pv:Nat->St->Hp->Prop)(h0:Pv 0 σ H)(hl:∀ i σ H,i<=xs.length->Pv i σ H->SqT K H a xs)
  (hs:∀ i x σ H,xs[i]?=some x->Pv i σ H->g x σ H λ σ2 H2=>tb { D with nx:=Pv (i+1),ct:=Pv (i+1),bk:=D.nx } σ2 H2) (hd:∀ σ H,Pv xs.length σ H->D.nx σ H) :
  ∃ W:Nat->Nat->St->Hp->Prop,(∃ m,W 0 m σ H)/\∀ i m σ H,W i m σ H ->
   ((Itt K a).stop i H/\D.nx σ H)\/((Itt K a).go i H/\∃ N:St->Hp->Prop,(∀ σ' H',N σ' H'->∃ m',m'<m/\W (i+1) m' σ' H')/\∀ x H',(Itt K a).yld i H x H'->g x σ H' λ σ2 H2=>tb { D with nx:=N,ct:=N,bk:=D.nx } σ2 H2):=by
 refine⟨λ i m σ H=>m=xs.length-i/\i<=xs.length/\Pv i σ H,⟨xs.length,by simp,w8 _,h0⟩,?_⟩
 rintro i m σ H ⟨rfl,hi,p⟩
 have q:=hl i σ H hi p
 by_cases hlt:i<xs.length
 ·refine .inr ⟨⟨xs,xs[i],q,by simp [hlt]⟩,Pv (i+1),λ σ' H' p'=>⟨xs.length-(i+1),by left,rfl,hlt,p'⟩,λ x H' y=>?_⟩
  obtain⟨e,y⟩:=y
  subst e
  exact hs i x σ _ (y xs q) p
 ·have e:i=xs.length:=by left
  subst e
  exact .inl ⟨⟨xs,q,h9 _⟩,hd σ H p⟩
theorem eK {lo:Int}{n:Nat}{g:TG}{tb:TS}{D:Ends}{σ:St}{H:Hp}(Pv:Nat->St->Hp->Prop)(h0:Pv 0 σ H)
  (hs:∀ i σ H,i<n->Pv i σ H->g (.int (lo+i)) σ H λ σ2 H2=>tb { D with nx:=Pv (i+1),ct:=Pv (i+1),bk:=D.nx } σ2 H2) (hd:∀ σ H,Pv n σ H->D.nx σ H) :
  ∃ W:Nat->Nat->St->Hp->Prop,(∃ m,W 0 m σ H)/\∀ i m σ H,W i m σ H ->
   ((Itr lo n).stop i H/\D.nx σ H)\/((Itr lo n).go i H/\∃ N:St->Hp->Prop,(∀ σ' H',N σ' H'->∃ m',m'<m/\W (i+1) m' σ' H')/\∀ x H',(Itr lo n).yld i H x H'->g x σ H' λ σ2 H2=>tb { D with nx:=N,ct:=N,bk:=D.nx } σ2 H2):=by
 refine⟨λ i m σ H=>m=n-i/\i<=n/\Pv i σ H,⟨n,by simp,w8 _,h0⟩,?_⟩
 rintro i m σ H ⟨rfl,hi,p⟩
 by_cases hlt:i<n
 ·refine .inr ⟨hlt,Pv (i+1),λ σ' H' p'=>⟨n-(i+1),by left,rfl,hlt,p'⟩,λ x H' y=>?_⟩
  obtain⟨e,y⟩:=y
  subst e y
  exact hs i σ _ hlt p
 ·have e:i=n:=by left
  subst e
  exact .inl ⟨h9 _,hd σ H p⟩
end L2
namespace L2
open PySem PySem.Spec PyProof.Rows
abbrev R2:=V->V->Hp->VK->Prop
def OpR (X:Cx)(f:d6->d6->Sem d6)(r:R2):Prop :=
 ∀ (pins:List (j9 × Obj))(s:d7)(σ:St)(H:Hp)(x y:V)(v u:d6)(Q:VK),Inv X pins σ H s->RelV x v->RelV y u->r x y H Q ->
  j8 (v6 X.prog X.w) X.A (f v u) (EP X pins σ Q) X.xe s
def UnR (X:Cx)(f:d6->Sem d6)(r:V->Hp->VK->Prop):Prop :=
 ∀ (pins:List (j9 × Obj))(s:d7)(σ:St)(H:Hp)(x:V)(v:d6)(Q:VK),Inv X pins σ H s->RelV x v->r x H Q ->
  j8 (v6 X.prog X.w) X.A (f v) (EP X pins σ Q) X.xe s
def CallR (X:Cx)(f:d6)(r:List V->Hp->VK->Prop):Prop :=
 ∀ (pins:List (j9 × Obj))(s:d7)(σ:St)(H:Hp)(xs:List V)(us:List d6)(Q:VK),Inv X pins σ H s->Vals xs us->r xs H Q ->
  j8 (v6 X.prog X.w) X.A (call f us) (EP X pins σ Q) X.xe s
def tOp (r:R2)(ta tb:TE):TE:=λ σ H Q=>ta σ H λ x H1=>tb σ H1 λ y H2=>r x y H2 Q
def tUn (r:V->Hp->VK->Prop)(ta:TE):TE:=λ σ H Q=>ta σ H λ x H1=>r x H1 Q
inductive rI_i (C:Int->Int->Prop)(g:Int->Int->V)(x:V)(y:V)(H:Hp)(Q:VK):Prop
 | mk:∀ i j,(x=.int i)->(y=.int j)->(C i j)->(Q (g i j) H)->rI_i C g x y H Q
def rI (C:Int->Int->Prop)(g:Int->Int->V):R2:=λ x y H Q=>rI_i C g x y H Q
inductive rI0_i (g:Int->Int->V)(x:V)(y:V)(H:Hp)(Q:VK):Prop
 | mk:∀ i j,(x=.int i)->(y=.int j)->(Q (g i j) H)->rI0_i g x y H Q
def rI0 (g:Int->Int->V):R2:=λ x y H Q=>rI0_i g x y H Q
inductive rU_i (g:Int->V)(x:V)(H:Hp)(Q:VK):Prop
 | mk:∀ i,(x=.int i)->(Q (g i) H)->rU_i g x H Q
def rU (g:Int->V):V->Hp->VK->Prop:=λ x H Q=>rU_i g x H Q
section
variable {X:Cx}{a b c:ucg}{ta tb tc:TE}{pos:Pos}
theorem binT (ha:PE X a ta)(hb:PE X b tb){pins:List (j9 × Obj)}{s:d7}{σ:St}{H:Hp}{R:V->V->Hp->Prop}(I:Inv X pins σ H s)
  (h:ta σ H λ x H1=>tb σ H1 λ y H2=>R x y H2) {Q:d6->d7->Prop} {f:d6->d6->Sem d6}
  (hf:∀ v u s2 x y H2,Inv X pins σ H2 s2->RelV x v->RelV y u->R x y H2->j8 (v6 X.prog X.w) X.A (f v u) Q X.xe s2) :
  j8 (v6 X.prog X.w) X.A (eval a X.env) (λ v s₁=>j8 (v6 X.prog X.w) X.A (eval b X.env) (λ u s₂=>j8 (v6 X.prog X.w) X.A (f v u) Q X.xe s₂) X.xe s₁) X.xe s:=by
 refine thn (ha pins s σ H _ I h) λ v s1 ⟨x,H1,I1,r1,q1⟩=>?_
 refine thn (hb pins s1 σ H1 _ I1 q1) λ u s2 ⟨y,H2,I2,r2,q2⟩=>?_
 exact hf v u s2 x y H2 I2 r1 r2 q2
theorem aK {op:Operator}{r:R2}(ho:OpR X (binaryOp op) r)(ha:PE X a ta)(hb:PE X b tb):PE X (.BinOp a op b pos) (tOp r ta tb):=by
 intro pins s σ H Q I h
 exact wpAny_BinOp (binT ha hb I h λ v u s2 x y H2 I2 rx ry q=>ho pins s2 σ H2 x y v u Q I2 rx ry q)
theorem dX {op:UnaryOp}{r:V->Hp->VK->Prop}(ho:UnR X (unaryOp op) r)(ha:PE X a ta):PE X (.UnaryOp op a pos) (tUn r ta):=by
 intro pins s σ H Q I h
 exact UnaryOp_ (thn (ha pins s σ H _ I h) λ v s1 ⟨x,H1,I1,r1,q1⟩=>ho pins s1 σ H1 x v Q I1 r1 q1)
theorem opI {f:d6->d6->Sem d6}{C:Int->Int->Prop}{g:Int->Int->Int}
  (rule:∀ (i j:Int)(t u:Tok)(s:d7)(Q:d6->d7->Prop)(E:d6->d7->Prop),C i j->Q (.int (g i j) s.toks) { s with toks:=s.toks+1 }->j8 (v6 X.prog X.w) X.A (f (.int i t) (.int j u)) Q E s) :
  OpR X f (rI C λ i j=>.int (g i j)):=by
 intro pins s σ H x y v u Q I rx ry h
 obtain⟨i,j,rfl,rfl,hc,q⟩:=h
 obtain⟨t,rfl⟩:=rx
 obtain⟨t',rfl⟩:=ry
 exact rule i j t t' s _ _ hc ⟨.int (g i j),H,I.tok _,⟨_,rfl⟩,q⟩
theorem opI0 {f:d6->d6->Sem d6}{g:Int->Int->Int}
  (rule:∀ (i j:Int)(t u:Tok)(s:d7)(Q:d6->d7->Prop)(E:d6->d7->Prop),Q (.int (g i j) s.toks) { s with toks:=s.toks+1 }->j8 (v6 X.prog X.w) X.A (f (.int i t) (.int j u)) Q E s) :
  OpR X f (rI0 λ i j=>.int (g i j)):=by
 intro pins s σ H x y v u Q I rx ry h
 obtain⟨i,j,rfl,rfl,q⟩:=h
 obtain⟨t,rfl⟩:=rx
 obtain⟨t',rfl⟩:=ry
 exact rule i j t t' s _ _ ⟨.int (g i j),H,I.tok _,⟨_,rfl⟩,q⟩
theorem opB0 {f:d6->d6->Sem d6}{g:Int->Int->Bool}
  (rule:∀ (i j:Int)(t u:Tok)(s:d7)(Q:d6->d7->Prop)(E:d6->d7->Prop),Q (.bool (g i j)) s->j8 (v6 X.prog X.w) X.A (f (.int i t) (.int j u)) Q E s) :
  OpR X f (rI0 λ i j=>.bl (g i j)):=by
 intro pins s σ H x y v u Q I rx ry h
 obtain⟨i,j,rfl,rfl,q⟩:=h
 obtain⟨t,rfl⟩:=rx
 obtain⟨t',rfl⟩:=ry
 exact rule i j t t' s _ _ ⟨.bl (g i j),H,I,rfl,q⟩
def CDiv (i j:Int):Prop:=0<j/\j<1073741824
def CPow (i j:Int):Prop:=0<=j/\j<=1000000/\i.natAbs<2^64
def CMul (i j:Int):Prop:=(-(2^64)<i/\i<2^64)\/(-(2^64)<j/\j<2^64)
theorem CMul.ok {i j:Int}(h:CMul i j):IntMulOk i j:=by
 rcases h with ⟨h1,h2⟩ | ⟨h1,h2⟩
 ·exact .of_left (intBits_le_64 h1 h2)
 ·exact .of_right (intBits_le_64 h1 h2)
theorem bQ:OpR X (binaryOp .Add) (rI0 λ i j=>.int (i+j)):=opI0 λ _ _ _ _ _ _ _ q=>add_int q
theorem dC:OpR X (binaryOp .Sub) (rI0 λ i j=>.int (i-j)):=opI0 λ _ _ _ _ _ _ _ q=>sub_int q
theorem dD:OpR X (binaryOp .Mult) (rI CMul λ i j=>.int (i*j)):=opI λ _ _ _ _ _ _ _ hc q=>mul_int q hc.ok
theorem pW:OpR X (binaryOp .FloorDiv) (rI CDiv λ i j=>.int (i / j)):=opI λ i j _ _ _ _ _ hc q=>by
 have h1:(0:Int)<j:=hc.1
 have h2:j<1073741824:=hc.2
 exact floordiv_int (by left) (by rw[Int.fdiv_eq_ediv_of_nonneg i (by left)];exact q) (.inl (PyProof.noPylong_small (by left)))
theorem cK:OpR X (binaryOp .Mod) (rI (λ _ j=>0<j) λ i j=>.int (i%j)):=opI λ i j _ _ _ _ _ hc q=>by
 have h1:(0:Int)<j:=hc
 exact mod_int' (by left) (by rw[Int.fmod_eq_emod_of_nonneg i (by left)];exact q)
theorem cA:OpR X (binaryOp .Pow) (rI CPow λ i j=>.int (i^j.toNat)):=opI λ _ _ _ _ _ _ _ hc q=>pow_int_small hc.1 hc.2.1 hc.2.2 q
theorem unI {f:d6->Sem d6}{g:Int->Int}
  (rule:∀ (i:Int)(t:Tok)(s:d7)(Q:d6->d7->Prop)(E:d6->d7->Prop),Q (.int (g i) s.toks) { s with toks:=s.toks+1 }->j8 (v6 X.prog X.w) X.A (f (.int i t)) Q E s) :
  UnR X f (rU λ i=>.int (g i)):=by
 intro pins s σ H x v Q I rx h
 obtain⟨i,rfl,q⟩:=h
 obtain⟨t,rfl⟩:=rx
 exact rule i t s _ _ ⟨.int (g i),H,I.tok _,⟨_,rfl⟩,q⟩
theorem dQ:UnR X (unaryOp .USub) (rU λ i=>.int (-i)):=unI λ _ _ _ _ _ q=>neg_int q
end
def scal:V->V->Bool
 | .non,.non=>true | .non,.int _=>true | .int _,.non=>true | .non,.bl _=>true | .bl _,.non=>true | .non,.str _=>true | .str _,.non=>true
 | .int _,.int _=>true | .bl _,.bl _=>true | .str _,.str _=>true | .byt _,.byt _=>true
 | .int _,.str _=>true | .str _,.int _=>true | .bl _,.str _=>true | .str _,.bl _=>true
 | _,_=>false
def rEq:R2:=λ x y H Q=>scal x y=true/\Q (.bl (decide (x=y))) H
def rNe:R2:=λ x y H Q=>scal x y=true/\Q (.bl (!decide (x=y))) H
theorem dB {i j:Int}:decide (V.int i=V.int j)=(i==j):=by
 rw[ubb]
 simp
theorem qY {i j:Bool}:decide (V.bl i=V.bl j)=(i==j):=by
 rw[ubb]
 simp
theorem qD {i j:Str}:decide (V.str i=V.str j)=(i==j):=by
 rw[ubb]
 simp
theorem qE {i j:Array UInt8}:decide (V.byt i=V.byt j)=(i.toList==j.toList):=by
 rw[ubb]
 cases i
 cases j
 simp
section
variable {X:Cx}{a b c:ucg}{ta tb tc:TE}{pos:Pos}
theorem aW {pins:List (j9 × Obj)}{σ:St}{H:Hp}{s:d7}{Q:VK}{k k':Bool}(I:Inv X pins σ H s)(q:Q (.bl k) H)(e:k=k'):EP X pins σ Q (.bool k') s:=by
 subst e
 exact⟨.bl k,H,I,rfl,q⟩
theorem bL:OpR X (compareOp .Eq) rEq:=by
 intro pins s σ H x y v u Q I rx ry h
 obtain⟨hs,q⟩:=h
 cases x with
 | non =>
  cases rx
  cases y with
  | non=>cases ry;exact PySem.EqNone.eq_none_none (aW I q (by simp))
  | bl j=>cases ry;exact PySem.EqNone.eq_none_bool (aW I q (by simp))
  | int j=>obtain⟨t',rfl⟩:=ry;exact PySem.EqNone.eq_none_int (aW I q (by simp))
  | str j=>obtain⟨t',rfl⟩:=ry;exact PySem.EqNone.eq_none_str (aW I q (by simp))
  | _=>exact absurd (show false=true from hs) j6
 | bl i =>
  cases rx
  cases y with
  | non=>cases ry;exact PySem.EqNone.eq_bool_none (aW I q (by simp))
  | bl j=>cases ry;exact eq_bool (aW I q qY)
  | str j=>obtain⟨t',rfl⟩:=ry;exact PySem.EqMixed.eq_bool_str (aW I q (by simp))
  | _=>exact absurd (show false=true from hs) j6
 | int i =>
  obtain⟨t,rfl⟩:=rx
  cases y with
  | non=>cases ry;exact PySem.EqNone.eq_int_none (aW I q (by simp))
  | int j=>obtain⟨t',rfl⟩:=ry;exact eq_int (aW I q dB)
  | str j=>obtain⟨t',rfl⟩:=ry;exact PySem.EqMixed.eq_int_str (aW I q (by simp))
  | _=>exact absurd (show false=true from hs) j6
 | str i =>
  obtain⟨t,rfl⟩:=rx
  cases y with
  | non=>cases ry;exact PySem.EqNone.eq_str_none (aW I q (by simp))
  | bl j=>cases ry;exact PySem.EqMixed.eq_str_bool (aW I q (by simp))
  | int j=>obtain⟨t',rfl⟩:=ry;exact PySem.EqMixed.eq_str_int (aW I q (by simp))
  | str j=>obtain⟨t',rfl⟩:=ry;exact eq_str (aW I q qD)
  | _=>exact absurd (show false=true from hs) j6
 | byt i =>
  obtain⟨t,rfl⟩:=rx
  cases y with
  | byt j=>obtain⟨t',rfl⟩:=ry;exact PySem.W.eq_bytes (aW I q qE)
  | _=>exact absurd (show false=true from hs) j6
 | _=>cases y <;> exact absurd (show false=true from hs) j6
theorem fJ:OpR X (compareOp .NotEq) rNe:=by
 intro pins s σ H x y v u Q I rx ry h
 obtain⟨hs,q⟩:=h
 cases x with
 | non =>
  cases rx
  cases y with
  | non=>cases ry;exact PySem.EqNone.ne_none_none (aW I q (by simp))
  | bl j=>cases ry;exact PySem.EqNone.ne_none_bool (aW I q (by simp))
  | int j=>obtain⟨t',rfl⟩:=ry;exact PySem.EqNone.ne_none_int (aW I q (by simp))
  | str j=>obtain⟨t',rfl⟩:=ry;exact PySem.EqNone.ne_none_str (aW I q (by simp))
  | _=>exact absurd (show false=true from hs) j6
 | bl i =>
  cases rx
  cases y with
  | non=>cases ry;exact PySem.EqNone.ne_bool_none (aW I q (by simp))
  | bl j=>cases ry;exact ne_bool (aW I q (congrArg not qY))
  | str j=>obtain⟨t',rfl⟩:=ry;exact PySem.EqMixed.ne_bool_str (aW I q (by simp))
  | _=>exact absurd (show false=true from hs) j6
 | int i =>
  obtain⟨t,rfl⟩:=rx
  cases y with
  | non=>cases ry;exact PySem.EqNone.ne_int_none (aW I q (by simp))
  | int j=>obtain⟨t',rfl⟩:=ry;exact ne_int (aW I q (congrArg not dB))
  | str j=>obtain⟨t',rfl⟩:=ry;exact PySem.EqMixed.ne_int_str (aW I q (by simp))
  | _=>exact absurd (show false=true from hs) j6
 | str i =>
  obtain⟨t,rfl⟩:=rx
  cases y with
  | non=>cases ry;exact PySem.EqNone.ne_str_none (aW I q (by simp))
  | bl j=>cases ry;exact PySem.EqMixed.ne_str_bool (aW I q (by simp))
  | int j=>obtain⟨t',rfl⟩:=ry;exact PySem.EqMixed.ne_str_int (aW I q (by simp))
  | str j=>obtain⟨t',rfl⟩:=ry;exact ne_str (aW I q (congrArg not qD))
  | _=>exact absurd (show false=true from hs) j6
 | byt i =>
  obtain⟨t,rfl⟩:=rx
  cases y with
  | byt j=>obtain⟨t',rfl⟩:=ry;exact PySem.W.ne_bytes (aW I q (congrArg not qE))
  | _=>exact absurd (show false=true from hs) j6
 | _=>cases y <;> exact absurd (show false=true from hs) j6
theorem fK:OpR X (compareOp .Lt) (rI0 λ i j=>.bl (decide (i<j))):=opB0 λ _ _ _ _ _ _ _ q=>lt_int q
theorem dH:OpR X (compareOp .Gt) (rI0 λ i j=>.bl (decide (j<i))):=opB0 λ _ _ _ _ _ _ _ q=>gt_int q
theorem fI:OpR X (compareOp .Is) (λ x y H Q=>y=.non/\Q (.bl (decide (x=.non))) H):=by
 intro pins s σ H x y v u Q I rx ry h
 obtain⟨rfl,q⟩:=h
 cases ry
 refine is_none_gen (aW I q ?_)
 cases x <;> first
  | (cases rx;rfl)
  | (obtain⟨t,rfl⟩:=rx;rfl)
theorem hV:OpR X (compareOp .IsNot) (λ x y H Q=>y=.non/\Q (.bl (!decide (x=.non))) H):=by
 intro pins s σ H x y v u Q I rx ry h
 obtain⟨rfl,q⟩:=h
 cases ry
 refine isnot_none_gen (aW I q ?_)
 cases x <;> first
  | (cases rx;rfl)
  | (obtain⟨t,rfl⟩:=rx;rfl)
theorem nomark (b:ucg){op:CmpOp}(h:op≠.In:=by decide)(h2:op≠.NotIn:=by decide):behindInMarks op b=false:=by
 have e1:(op==CmpOp.In)=false:=by cases op <;> first | rfl | exact absurd rfl h
 have e2:(op==CmpOp.NotIn)=false:=by cases op <;> first | rfl | exact absurd rfl h2
 cases b <;> simp [behindInMarks,e1,e2]
theorem bS {op:CmpOp}{r:R2}(ho:OpR X (compareOp op) r)(ha:PE X a ta)(hb:PE X b tb)(hm:behindInMarks op b=false):PE X (.Compare a [op] [b] pos) (tOp r ta tb):=by
 intro pins s σ H Q I h
 exact wpAny_Compare1 (binT ha hb I h λ v u s2 x y H2 I2 rx ry q=>ho pins s2 σ H2 x y v u Q I2 rx ry q) hm
def tTest (t:TE):TT:=λ σ H Q=>t σ H λ x H'=>EBl x λ k=>Q k H'
theorem aT {op:CmpOp}{r:R2}(ho:OpR X (compareOp op) r)(ha:PE X a ta)(hb:PE X b tb)(hm:behindInMarks op b=false):PT X (.Compare a [op] [b] pos) (tTest (tOp r ta tb)):=by
 intro pins s σ H Q I h
 refine wpAny_isTrue_Compare1 (thn (ha pins s σ H _ I h) λ v s1 ⟨x,H1,I1,r1,q1⟩=>thn (hb pins s1 σ H1 _ I1 q1) λ u s2 ⟨y,H2,I2,r2,q2⟩ =>
  thn (ho pins s2 σ H2 x y v u _ I2 r1 r2 q2) λ c s3 ⟨z,H3,I3,r3,k,e,q3⟩=>?_) hm
 subst e
 cases r3
 exact ucy ⟨H3,I3,q3⟩
theorem line63:(v5:Nat)<2^63:=by rw[ubj];decide
theorem vals1 {x:V}{us:List d6}(r:Vals [x] us):∃ u,us=[u]/\RelV x u:=by
 cases r with
 | cons r1 r2=>cases r2;exact⟨_,rfl,r1⟩
theorem vals2 {x y:V}{us:List d6}(r:Vals [x,y] us):∃ u w',us=[u,w']/\RelV x u/\RelV y w':=by
 cases r with
 | cons r1 r2 =>
  cases r2 with
  | cons r3 r4=>cases r4;exact⟨_,_,rfl,r1,r3⟩
theorem fP (hc:X.calm=true):CallR X (.builtin "max") (λ xs H Q=>∃ i j,xs=[.int i,.int j]/\Q (.int (if j>i then j else i)) H):=by
 intro pins s σ H xs us Q I r h
 obtain⟨i,j,rfl,q⟩:=h
 obtain⟨u,w',rfl,⟨t,rfl⟩,⟨t',rfl⟩⟩:=vals2 r
 refine max_two_ints (I.ok.hd hc) λ h' tk k=>⟨_,H,I.kept k,?_,q⟩
 by_cases hj:j>i
 ·rw[uhc hj,uhc hj];exact⟨_,rfl⟩
 ·rw[uhd hj,uhd hj];exact⟨_,rfl⟩
inductive call_min2_i  (xs:List V) (H:Hp) (Q:VK):Prop
 | mk:∀ i j,(xs=[.int i,.int j])->(Q (.int (if j<i then j else i)) H)->call_min2_i xs H Q
theorem gR (hc:X.calm=true):CallR X (.builtin "min") (call_min2_i):=by
 intro pins s σ H xs us Q I r h
 obtain⟨i,j,rfl,q⟩:=h
 obtain⟨u,w',rfl,⟨t,rfl⟩,⟨t',rfl⟩⟩:=vals2 r
 refine min_two_ints (I.ok.hd hc) λ h' tk k=>⟨_,H,I.kept k,?_,q⟩
 by_cases hj:j<i
 ·rw[uhc hj,uhc hj];exact⟨_,rfl⟩
 ·rw[uhd hj,uhd hj];exact⟨_,rfl⟩
theorem yN:CallR X (.type "int") (λ xs H Q=>(∃ i,xs=[.int i]/\Q (.int i) H)\/∃ k,xs=[.bl k]/\Q (.int (if k then 1 else 0)) H):=by
 intro pins s σ H xs us Q I r h
 rcases h with ⟨i,rfl,q⟩ | ⟨k,rfl,q⟩
 ·obtain⟨u,rfl,t,rfl⟩:=vals1 r
  exact call_int_int ⟨.int i,H,I,⟨_,rfl⟩,q⟩
 ·obtain⟨u,rfl,r1⟩:=vals1 r
  cases r1
  exact call_int_bool ⟨.int (if k then 1 else 0),H,I.tok _,⟨_,rfl⟩,q⟩
end
end L2
namespace L2
open PySem PySem.Spec PyProof.Rows
structure ObjM (h:Heap)(x dx C:j9)(mA:Str->Option d6):Prop where
 obj:h.get? x=some (uft C dx)
 ns:h.Ns1 dx mA
 ne:dx≠x
theorem xM {h:Heap}{dx:j9}{mA:Str->Option d6}(n:h.Ns1 dx mA):∃ od,h.get? dx=some od/\∀ name,uf7 name od=some (mA name):=by
 obtain⟨o,es,ep,ho,hd,hk,_,hm⟩:=n
 refine⟨o,ho,λ name=>?_⟩
 have e:=hm name
 unfold nsFind findBy at e
 rw[← Array.find?_toList] at e
 unfold uf7
 rw[hd]
 dsimp only
 split
 ·rename_i y q
  rw[q] at e
  exact congrArg some e
 ·rename_i q
  rw[q] at e
  have a:es.toList.any (·.refKey)=false:=by
   rw[List.any_eq_false]
   intro y hy
   obtain⟨z,t,hkey⟩:=hk y (Array.mem_toList_iff.mp hy)
   simp [DictEntry.refKey,hkey]
  have a':¬ es.toList.any (·.refKey)=true:=by rw[a];exact j6
  rw[uhd a']
  exact congrArg some e
theorem ObjM.look {h:Heap}{x dx C:j9}{mA:Str->Option d6}(I:ObjM h x dx C mA):∃ od,PySem.W.InstAt h x (uft C dx) C (some od)/\∀ name,uf7 name od=some (mA name) :=
 let ⟨od,ho,hl⟩:=xM I.ns
 ⟨od,⟨I.obj,rfl,rfl,ho⟩,hl⟩
section
variable {prog:m5}{w:ual}{A:uaf}{E:d6->d7->Prop}{s:d7}{K:c6}{x dx C f:j9}{mA:Str->Option d6}{name:Str}{v:d6}
end
section
variable {P:m5}{w:ual}{H H':Hp}{h h':Heap}{a C dx:j9}{fs fs':List (Str × V)}
theorem zbn (hok:HOk P w H h)(e:H a=some (.ins C dx fs)):∃ mA,ObjM h a dx C mA/\(∀ f,RelO (fs.lookup f) (mA f))/\PySem.Within mA (fs.map (·.1))/\fs.length<=1000/\H dx=some (.own a):=by
 obtain⟨d,z,ne,ob,mA,n,r,q⟩:=(show ObjOk P w H h a (.ins C dx fs) from hok a _ e)
 exact⟨mA,⟨ob,n,ne⟩,r,q,z,d⟩
end
structure Cls (K:c6)(C:j9):Prop where
 pg:PySem.W.plainGet K C Str.empty=true
 hd:PySem.W.hasDictIn K C=true
 po:PySem.W.plainOver K C=true
 sa:uet K (.ref C) "__setattr__"=some (some (.builtin "object.__setattr__"))
theorem Cls.get {K:c6}{C:j9}(c:Cls K C)(f:Str):PySem.W.plainGet K C f=true:=c.pg
structure Con (K:c6)(C:j9)(f:Str)(v:V)(u:d6):Prop where
 at_:uet K (.ref C) f=some (some u)
 rel:RelV v u
 get:PySem.W.specialIn K u "__get__"=some none
 cp:PySem.W.copiedNames.contains f=false
section
variable {X:Cx}{pins:List (j9 × Obj)}{σ:St}{H:Hp}{s:d7}{a C dx:j9}{fs:List (Str × V)}{f:Str}{v:V}{A:uaf}{E:d6->d7->Prop}
end
section
variable {X:Cx}{o e value:ucg}{f:Str}{pos pos' tpos:Pos}{ta tv:TE}
end
section
variable {X:Cx}{pins:List (j9 × Obj)}{σ:St}{H:Hp}{s:d7}{A:uaf}{E:d6->d7->Prop}{Q:d6->d7->Prop}{c:d6}{b:Bool}
inductive TyOf (K:c6)(H:Hp):V->d6->Prop where
 | non:TyOf K H .non (.type "NoneType")
 | bl (x:Bool):TyOf K H (.bl x) (.type "bool")
 | int (i:Int):TyOf K H (.int i) (.type "int")
 | str (x:Str):TyOf K H (.str x) (.type "str")
 | flt (x:UInt64):TyOf K H (.flt x) (.type "float")
 | lst {a:j9} {xs:List V} (e:H a=some (.lst xs)):TyOf K H (.ref a) (.type "list")
 | frz {a:j9} {o:Obj} {xs:List V} (e:H a=some (.frz o (.lst xs))):TyOf K H (.ref a) (.type "list")
 | tup {a:j9} {xs:List V} (e:H a=some (.tup xs)):TyOf K H (.ref a) (.type "tuple")
 | dK {a:j9} {kvs:List (Key × V)} (e:H a=some (.dK kvs)):TyOf K H (.ref a) (.type "dict")
 | dT {a:j9} {kvs:List (List Key × V)} (e:H a=some (.dT kvs)):TyOf K H (.ref a) (.type "dict")
 | ins {a C dx : j9} {fs : List (Str × V)} (e : H a = some (.ins C dx fs)) (cl : Cls K C) (ha : uet K (.ref C) "__class__" = some (some (.builtin "object.__class__")))
     (hn:PySem.W.specialIn K (.builtin "object.__class__") "__get__"=some (some (.builtin "getset_descriptor.__get__"))) (htk:PySem.W.takesIn K (.builtin "object.__class__")=some true)
     (hm:PySem.W.mroIn K C (.type "object")=some true):TyOf K H (.ref a) (.ref C)
theorem xU {x:V}{u t:d6}(I:Inv X pins σ H s)(rx:RelV x u)(ty:TyOf X.K H x t)(e:PySem.W.kitOne X.K t c=some b)(h:∀ tk,Q (.bool b) { s with toks:=tk }) :
  j8 (v6 X.prog X.w) A (call (.builtin "isinstance") [u,c]) Q E s:=by
 cases ty with
 | non=>cases (show u=Value.none from rx);exact ubq PySem.W.kitx_none I.kIn True.intro e (λ z=>nomatch z) h
 | bl y=>cases (show u=Value.bool y from rx);exact ubq PySem.W.kitx_bool I.kIn True.intro e (λ z=>nomatch z) h
 | int i=>obtain⟨t,q⟩:=(show ∃ t,u=Value.int i t from rx);cases q;exact ubq PySem.W.kitx_int I.kIn True.intro e (λ z=>nomatch z) h
 | str y=>obtain⟨t,q⟩:=(show ∃ t,u=Value.str y t from rx);cases q;exact ubq PySem.W.kitx_str I.kIn True.intro e (λ z=>nomatch z) h
 | flt y=>obtain⟨t,q⟩:=(show ∃ t,u=Value.float y t from rx);cases q;exact ubq PySem.W.kitx_float I.kIn True.intro e (λ z=>nomatch z) h
 | @lst a xs ea =>
  cases (show u=Value.ref a from rx)
  obtain⟨_,_,n,_,h1⟩:=(show ObjOk X.prog X.w H s.heap a (.lst xs) from I.hok a _ ea)
  exact ubq PySem.W.kitx_list I.kIn ⟨_,h1,rfl⟩ e (λ z=>nomatch z) h
 | @frz a ob xs ea =>
  cases (show u=Value.ref a from rx)
  obtain⟨_,_,_,n,_,h1⟩:=(show ObjOk X.prog X.w H s.heap a (.frz ob (.lst xs)) from I.hok a _ ea)
  exact ubq PySem.W.kitx_list I.kIn ⟨_,h1,rfl⟩ e (λ z=>nomatch z) h
 | @tup a xs ea =>
  cases (show u=Value.ref a from rx)
  obtain⟨_,_,_,p⟩:=(show ObjOk X.prog X.w H s.heap a (.tup xs) from I.hok a _ ea)
  obtain⟨o,h1,h2,_⟩:=p
  exact ubq PySem.W.kitx_tuple I.kIn ⟨o,h1,h2⟩ e (λ z=>nomatch z) h
 | @dK a kvs ea =>
  cases (show u=Value.ref a from rx)
  obtain⟨_,_,vs,_,p⟩:=(show ObjOk X.prog X.w H s.heap a (.dK kvs) from I.hok a _ ea)
  obtain⟨o,es,ep,h1,h2,_⟩:=p
  exact ubq PySem.W.kitx_dict I.kIn ⟨o,h1,h2.1⟩ e (λ z=>nomatch z) h
 | @dT a kvs ea =>
  cases (show u=Value.ref a from rx)
  obtain⟨_,_,xs,_,o,es,ep,h1,h2,_⟩:=(show ObjOk X.prog X.w H s.heap a (.dT kvs) from I.hok a _ ea)
  exact ubq PySem.W.kitx_dict I.kIn ⟨o,h1,h2.1⟩ e (λ z=>nomatch z) h
 | @ins a C dx fs ea cl ha hn htk hm =>
  cases (show u=Value.ref a from rx)
  obtain⟨mA,O,_⟩:=zbn I.hok ea
  obtain⟨od,J,_⟩:=O.look
  exact ubq (PySem.W.kitx_own (cl.get _) cl.hd ha hn htk hm) I.kIn J e (λ z=>nomatch z) h
end
end L2
namespace L2
open PySem PySem.Spec PyProof.Rows
structure Room (k:Nat)(A:uaf):Prop where
 hd:A.handled=none
 dp:A.depth+3*k+5<recursionLimit
 un:A.units+16*k+200<cLine
 gd:A.guards=some []
theorem Room.mono {j k:Nat}{A:uaf}(r:Room k A)(h:j<=k):Room j A:=⟨r.hd,by have:=r.dp;left,by have:=r.un;left,r.gd⟩
theorem Room.deeper {k:Nat}{A:uaf}(r:Room (k+1) A)(env:Env):Room k (A.deeper env) :=
 ⟨r.hd,by have:=r.dp;show A.depth+1+3*k+5<_;left,by have:=r.un;show A.units+3+16*k+200<_;left,r.gd⟩
theorem Room.in1 {k:Nat}{A:uaf}(r:Room (k+1) A):Room k A.in1 :=
 ⟨r.hd,by have:=r.dp;show A.depth+3*k+5<_;left,by have:=r.un;show A.units+1+16*k+200<_;left,r.gd⟩
theorem Room.depth {k:Nat}{A:uaf}(r:Room k A):A.depth<recursionLimit:=by have:=r.dp;left
theorem Room.units {k:Nat}{A:uaf}(r:Room k A):A.units+64<cLine:=by have:=r.un;left
theorem Room.units0 {k:Nat}{A:uaf}(r:Room k A):A.units<cLine:=by have:=r.un;left
def tNil:TA:=λ _ H Q=>Q [] H
def tCons (ta:TE)(tr:TA):TA:=λ σ H Q=>ta σ H λ x H1=>tr σ H1 λ xs H2=>Q (x::xs) H2
section
variable {X:Cx}{e:ucg}{es:List ucg}{te:TE}{t:TA}{pos:Pos}
theorem aB:PA X [] tNil:=λ _ _ _ _ H Q I h=>Calls.spliced_nil ⟨[],H,I,.nil,h⟩
theorem aA (ha:PE X e te)(hr:PA X es t)(hs:ubd (e::es) X.env=(false,eval e X.env)::ubd es X.env:=by rfl):PA X (e::es) (tCons te t):=by
 intro pos pins s σ H Q I h
 rw[hs]
 show j8 _ _ (spliced ((false,eval e X.env)::backTo pos (ubd es X.env))) _ _ s
 refine Calls.spliced_cons (thn (ha pins s σ H _ I h) λ u s1 ⟨x,H1,I1,r1,q1⟩=>?_)
 exact thn (hr pos pins s1 σ H1 _ I1 q1) λ us s2 ⟨xs,H2,I2,r2,q2⟩=>⟨x::xs,H2,I2,.cons r1 r2,q2⟩
def tTup (t:TA):TE:=λ σ H Q=>t σ H λ xs H1=>xs.length<=v5/\∀ p,H1 p=none->Q (.ref p) (upd H1 p (.tup xs))
def tLst (t:TA):TE:=λ σ H Q=>t σ H λ xs H1=>xs.length<=v5/\∀ p,H1 p=none->Q (.ref p) (upd H1 p (.lst xs))
theorem qP {x1} (h:PA X es t):PE X (.Tuple es x1 pos) (tTup t):=by
 intro pins s σ H Q I hq
 refine wpAny_Tuple_spliced (thn (h pos pins s σ H _ I hq) λ us s1 ⟨xs,H1,I1,r,z,q⟩=>⟨by rw[← r.length];exact z,?_⟩)
 have hf:H1 s1.heap.objs.size=none:=I1.hok.fresh (h9 _)
 refine⟨.ref s1.heap.objs.size,upd H1 s1.heap.objs.size (.tup xs),I1.laid (t':=s1.toks) (λ b u e=>b9 _ e) (h9 _) ?_,rfl,q _ hf⟩
 exact⟨z,us,r,⟨_,i6 _ rfl,rfl,⟨_,rfl⟩,rfl⟩⟩
theorem dS (h:PA X es t):PE X (.List es pos) (tLst t):=by
 intro pins s σ H Q I hq
 refine wpAny_List_spliced (thn (h pos pins s σ H _ I hq) λ us s1 ⟨xs,H1,I1,r,z,q⟩=>⟨by rw[← r.length];exact z,?_⟩)
 have hf:H1 s1.heap.objs.size=none:=I1.hok.fresh (h9 _)
 refine⟨.ref s1.heap.objs.size,upd H1 s1.heap.objs.size (.lst xs),I1.laid (t':=s1.toks) (λ b u e=>b9 _ e) (h9 _) ?_,rfl,q _ hf⟩
 exact⟨z,us,0,r,i6 _ rfl⟩
end
abbrev Sp:=List V->Hp->VK->XK->Prop
abbrev CXT:=List Env->Hp->d7->XK->d6->d7->Prop
structure Env0 (P:m5)(w:ual)(K:c6)(mg:Str->Option d6)(base:Heap)(A:uaf)(outer:List Env)(s:d7)(H:Hp):Prop where
 frames:A.frames=some outer
 mod:Mod K mg base
 bs:∀ b o,base.get? b=some o->s.heap.get? b=some o/\H b=none
 bsz:base.objs.size<=s.heap.objs.size
 funs:s.heap.FunFrames base outer
 frf:∀ b∈frs outer,H b=none
 hok:HOk P w H s.heap
 bare:AllBare s.gens
def CE (outer:List Env)(P:m5)(w:ual)(H:Hp)(s:d7)(Q:VK)(u:d6)(s':d7):Prop :=
 ∃ v H',s'.os=s.os/\AllBare s'.gens/\Un (frs outer) [] H H' s.heap s'.heap/\HOk P w H' s'.heap/\RelV v u/\Q v H'
def CR (CX:CXT)(outer:List Env)(P:m5)(w:ual)(H:Hp)(s:d7)(Q:VK)(E:XK)(r:Result)(s':d7):Prop :=
 match r with
 | .ok (.ret u)=>CE outer P w H s Q u s'
 | .ok _=>False
 | .error e=>CX outer H s E e s'
structure FnOk (P:m5)(w:ual)(K:c6)(mg:Str->Option d6)(base:Heap)(CX:CXT)(k:Nat)(f:j9)(fd:ub7)(ps:List Str)(sp:Sp):Prop where
 len:∀ vs H Q E,sp vs H Q E->vs.length=ps.length
 run:∀ (A:uaf)(outer:List Env)(s:d7)(H:Hp)(args:Args)(us:List d6)(vs:List V)(Q:VK)(E:XK),Room k A->Env0 P w K mg base A outer s H->BindsTo s fd args (ps.zip us)->Vals vs us->sp vs H Q E ->
  codeAny (v6 P w) A (.call (.ref f) args) (CR CX outer P w H s Q E) s
theorem FnOk.mono {P:m5}{w:ual}{K:c6}{mg:Str->Option d6}{base:Heap}{CX:CXT}{j k:Nat}{f:j9}{fd:ub7}{ps:List Str}{sp:Sp}(F:FnOk P w K mg base CX j f fd ps sp)(h:j<=k) :
  FnOk P w K mg base CX k f fd ps sp:=⟨F.len,λ A outer s H args us vs Q E hr=>F.run A outer s H args us vs Q E (hr.mono h)⟩
theorem FnOk.imp {P:m5}{w:ual}{K:c6}{mg:Str->Option d6}{base:Heap}{CX:CXT}{k:Nat}{f:j9}{fd:ub7}{ps:List Str}{sp sp':Sp}(F:FnOk P w K mg base CX k f fd ps sp)
  (h:∀ vs H Q E,sp' vs H Q E->sp vs H Q E):FnOk P w K mg base CX k f fd ps sp' :=
 ⟨λ vs H Q E q=>F.len vs H Q E (h _ _ _ _ q),λ A outer s H args us vs Q E hr he hb hv hs=>F.run A outer s H args us vs Q E hr he hb hv (h _ _ _ _ hs)⟩
theorem Env0.in1 {P:m5}{w:ual}{K:c6}{mg:Str->Option d6}{base:Heap}{A:uaf}{outer:List Env}{s:d7}{H:Hp}(e:Env0 P w K mg base A outer s H) :
  Env0 P w K mg base A.in1 outer s H:=⟨e.frames,e.mod,e.bs,e.bsz,e.funs,e.frf,e.hok,e.bare⟩
section
variable {X:Cx}{pins:List (j9 × Obj)}{σ:St}{H:Hp}{s s':d7}
theorem Inv.env0 (I:Inv X pins σ H s):Env0 X.prog X.w X.K X.mg X.base X.A X.stack s H :=
 ⟨I.ok.frames,I.ok.mod,I.bs,uas I.ok.bsz I.sz,I.stack,I.stkFree,I.hok,I.bare⟩
theorem Inv.after {Q:VK}{u:d6}(I:Inv X pins σ H s)(h:CE X.stack X.prog X.w H s Q u s'):EP X pins σ Q u s':=by
 obtain⟨v,H',os,bare,un,hok,r,q⟩:=h
 obtain⟨hh,g,d,t,os'⟩:=s'
 obtain rfl:os'=s.os:=os
 exact⟨v,H',I.call (h':=hh) (g':=g) (d':=d) (t':=t) (ch:=[]) un hok bare (λ b z=>absurd z (by simp)),r,q⟩
end
def tCall (sp:Sp)(dvs:List V)(E:XK)(t:TA):TE:=λ σ H Q=>t σ H λ vs H1=>sp (vs++dvs) H1 Q E
def Binds (K:c6)(fd:ub7)(ps:List Str)(ds:List d6):Prop :=
 ∀ (s:d7)(us:List d6),K.In s.heap->(us++ds).length=ps.length->BindsTo s fd ⟨us,[]⟩ (ps.zip (us++ds))
theorem Binds.all {K:c6}{fd:ub7}{ps:List Str}(h:∀ us:List d6,us.length=ps.length->bindArgs fd ⟨us,[]⟩=pure (ps.zip us)):Binds K fd ps []:=λ s us _ hl=>by
 rw[ubi] at hl ⊢
 exact .of_eq (h us hl)
def Passes (CX:CXT)(X:Cx)(E:XK):Prop:=∀ (pins:List (j9 × Obj))(σ:St)(H:Hp)(s:d7)(e:d6)(s':d7),Inv X pins σ H s->CX X.stack H s E e s'->X.xe e s'
section
variable {X:Cx}{CX:CXT}{k:Nat}{f C:j9}{fd:ub7}{ps:List Str}{sp:Sp}{dvs:List V}{ds:List d6}{E:XK}{x m:Str}{p pos apos:Pos}{e o:ucg}{es:List ucg}{ta:TE}{t:TA}
theorem zb1 {pins:List (j9 × Obj)}{σ:St}{H:Hp}{s:d7}{Q:VK}{us:List d6}{vs:List V}(F:FnOk X.prog X.w X.K X.mg X.base CX k f fd ps sp)(hr:Room k X.A)(hb:Binds X.K fd ps ds)(hd:Vals dvs ds)(hx:Passes CX X E)
  (I:Inv X pins σ H s) (r:Vals vs us) (h:sp (vs++dvs) H Q E):j8 (v6 X.prog X.w) X.A (call (.ref f) us) (EP X pins σ Q) X.xe s:=by
 have r2:Vals (vs++dvs) (us++ds):=r.append hd
 have hl:(us++ds).length=ps.length:=by rw[← r2.length];exact F.len _ _ _ _ h
 refine ugf (udh (F.run X.A X.stack s H ⟨us,[]⟩ (us++ds) (vs++dvs) Q E hr I.env0 (hb s us I.kIn hl) r2 h) λ r s' hq=>?_)
 cases r with
 | error e=>exact hx pins σ H s e s' I hq
 | ok fl =>
  cases fl with
  | ret u=>exact I.after hq
  | next=>exact False.elim hq
  | brk=>exact False.elim hq
  | cont=>exact False.elim hq
theorem zbc (F:FnOk X.prog X.w X.K X.mg X.base CX k f fd ps sp)(hr:Room k X.A)(hg:Gl X x)(hm:X.mg x=some (.ref f))(hk:ub3 X.K (.ref f)=true)(hb:Binds X.K fd ps ds)(hd:Vals dvs ds)(hx:Passes CX X E)
  (ha:PA X (e::es) t) (hdb:(x==("__debug__":Str))=false:=by decide) (he:ubd (e::es) X.env=(false,eval e X.env)::ubd es X.env:=by rfl) (hpl:(backTo pos (ubd es X.env)).any (·.1)=false:=by rfl) :
  PE X (.Call (.Name x p) (e::es) [] pos) (tCall sp dvs E t):=by
 intro pins s σ H Q I h
 refine udx (zbj I hg hm ?_ hdb)
 refine PySem.W.callWith_K (h₀:=X.base) I.ok.mod.kin hk (thn (ha pos pins s σ H _ I h) λ us s1 ⟨vs,H1,I1,r,q⟩=>⟨I1.kIn,?_⟩) he hpl
 exact zb1 F hr hb hd hx I1 r q
structure Mk (K:c6)(C f:j9):Prop where
 makes:PySem.W.makesIn K C=true
 init:uet K (.ref C) "__init__"=some (some (.ref f))
 fn:PySem.W.isFn K (.ref f)=true
 kp:ub3 K (.ref C)=true
end
def PK (X:Cx)(kws:List Keyword)(t:TA):Prop :=
 ∀ (pos:Pos)(pins:List (j9 × Obj))(s:d7)(σ:St)(H:Hp)(Q:List V->Hp->Prop),Inv X pins σ H s->t σ H Q->j8 (v6 X.prog X.w) X.A (evalAll ((backToKw pos (keywordEach kws X.env)).map (·.2))) (AP X pins σ Q) X.xe s
section
variable {X:Cx}{CX:CXT}{k:Nat}{f C:j9}{fd:ub7}{ps ks:List Str}{sp:Sp}{E:XK}{x m:Str}{p pos apos kpos:Pos}{e o:ucg}{es:List ucg}{kws:List Keyword}{te ta:TE}{t tk:TA}{nm:Option Str}
theorem zb6:PK X [] tNil:=λ _ _ _ _ H Q I h=>wpAny_evalAll_nil ⟨[],H,I,.nil,h⟩
theorem zba (ha:PE X e te)(hr:PK X kws t):PK X (⟨nm,e,kpos⟩::kws) (tCons te t):=by
 intro pos pins s σ H Q I h
 show j8 _ _ (evalAll ((do let v ← eval e X.env;standAt pos;pure v)::(backToKw pos (keywordEach kws X.env)).map (·.2))) _ _ s
 refine wpAny_evalAll_cons (a9 (thn (ha pins s σ H _ I h) λ u s1 ⟨x,H1,I1,r1,q1⟩=>a9 (uez (c8 ?_))))
 exact thn (hr pos pins s1 σ H1 _ I1 q1) λ us s2 ⟨xs,H2,I2,r2,q2⟩=>⟨x::xs,H2,I2,.cons r1 r2,q2⟩
variable {g:List d6->List d6->List d6}{gV:List V->List V->List V}
end
structure FnScope (N P:List Str)(sc:ueh):Prop where
 kind:sc.kind=.function
 co:sc.isCoroutine=false
 gen:sc.isGenerator=false
 nd:N.Nodup
 pre:N.take P.length=P
 par:∀ x∈P,sc.names.lookup x=some .local\/sc.names.lookup x=some .cell
 nofree:∀ y∈sc.names,y.2≠.free
theorem nE {kindOf:Str->Option NameKind}{x:Str}:∀ {binds:List (Str × d6)}{m:Str->Option d6},(∀ v,(x,v)∉binds)->bindL kindOf binds m x=m x
 | [],_,_=>rfl
 | (n,v)::r,m,h=>by
  unfold bindL
  rw[nE λ w hw=>h w (i7 _ hw)]
  split
  ·have:x≠n:=by rintro rfl;exact h v i5
   simp [this]
  ·rfl
theorem nG {kindOf:Str->Option NameKind}{x:Str}:∀ {binds:List (Str × d6)}{m:Str->Option d6},(∀ v,(x,v)∉binds)->bindC kindOf binds m x=m x
 | [],_,_=>rfl
 | (n,v)::r,m,h=>by
  unfold bindC
  rw[nG λ w hw=>h w (i7 _ hw)]
  split
  ·rfl
  ·have:x≠n:=by rintro rfl;exact h v i5
   simp [this]
theorem nF {kindOf:Str->Option NameKind}{x:Str}{v:d6}:∀ {P:List Str}{vs:List d6}{i:Nat}{m:Str->Option d6},P.Nodup->P[i]?=some x->vs[i]?=some v->kindOf x=some .local ->
  bindL kindOf (P.zip vs) m x=some v
 | [],_,_,_,_,h,_,_=>by simp at h
 | _::_,[],_,_,_,_,h,_=>by simp at h
 | p::P,w::vs,0,m,nd,h1,h2,hk=>by
  simp at h1 h2;subst h1;subst h2
  show bindL kindOf ((p,w)::P.zip vs) m p=_
  unfold bindL
  rw[nE λ v hv=>(ua2.mp nd).1 (ugb hv).1,uhc hk]
  simp
 | p::P,w::vs,i+1,m,nd,h1,h2,hk=>by
  show bindL kindOf ((p,w)::P.zip vs) m x=_
  unfold bindL
  exact nF (i:=i) (ua2.mp nd).2 (by simpa using h1) (by simpa using h2) hk
theorem nH {kindOf:Str->Option NameKind}{x:Str}{v:d6}:∀ {P:List Str}{vs:List d6}{i:Nat}{m:Str->Option d6},P.Nodup->P[i]?=some x->vs[i]?=some v->kindOf x≠some .local ->
  bindC kindOf (P.zip vs) m x=some v
 | [],_,_,_,_,h,_,_=>by simp at h
 | _::_,[],_,_,_,_,h,_=>by simp at h
 | p::P,w::vs,0,m,nd,h1,h2,hk=>by
  simp at h1 h2;subst h1;subst h2
  show bindC kindOf ((p,w)::P.zip vs) m p=_
  unfold bindC
  rw[nG λ v hv=>(ua2.mp nd).1 (ugb hv).1,uhd hk]
  simp
 | p::P,w::vs,i+1,m,nd,h1,h2,hk=>by
  show bindC kindOf ((p,w)::P.zip vs) m x=_
  unfold bindC
  exact nH (i:=i) (ua2.mp nd).2 (by simpa using h1) (by simpa using h2) hk
def start (N:List Str)(vs:List V):St:=vs.map some++o6 (N.length-vs.length) none
def cxOf (CX:CXT)(P:m5)(w:ual)(K:c6)(mg:Str->Option d6)(base:Heap)(N:List Str)(qual:Str)(scope:ueh)(f:j9)(cd:d6)(A:uaf)(outer:List Env)(s:d7)(H:Hp)(E:XK):Cx where
 prog:=P
 w:=w
 K:=K
 mg:=mg
 base:=base
 A:=A.deeper (envOfC qual scope s.heap.objs.size f cd)
 N:=N
 s₀:=s
 H₀:=H
 env:=envOfC qual scope s.heap.objs.size f cd
 outer:=outer
 stack:=envOfC qual scope s.heap.objs.size f cd::outer
 ex:=[]
 calm:=true
 fn:=λ _=>true
 pn:=[]
 xe:=λ e s'=>j8 (v6 P w) (A.deeper (envOfC qual scope s.heap.objs.size f cd)) (leaving (envOfC qual scope s.heap.objs.size f cd) e) (λ _ s''=>CX outer H s E e s'') (λ e' s''=>CX outer H s E e' s'') s'
theorem oS {sc:ueh}{n:Nat}{x:Str}(h:sc.names.lookup x=some .cell):∃ c,(cellsFrom n sc.names []).lookup x=some c:=by
 have q:=ugq sc.names n [] (.inl h)
 exact ugj.mp q
theorem xV {CX:CXT}{P:m5}{w:ual}{K:c6}{mg:Str->Option d6}{base:Heap}{N ps:List Str}{qual:Str}{scope:ueh}{f:j9}{cd:d6}{A:uaf}{outer:List Env}{s s1:d7}{H:Hp}{E:XK}{us:List d6}{vs:List V}
  (S:FnScope N ps scope) (hd:A.handled=none) (e0:Env0 P w K mg base A outer s H) (hl:vs.length=ps.length) (r:Vals vs us)
  (x:InCallC s s.heap.objs.size (bindL (envOfC qual scope s.heap.objs.size f cd).kindOf (ps.zip us) λ _=>none) (cellsFrom (s.heap.objs.size+1) scope.names []) (bindC (envOfC qual scope s.heap.objs.size f cd).kindOf (ps.zip us) λ _=>none) s1) :
  Inv (cxOf CX P w K mg base N qual scope f cd A outer s H E) [] (start N vs) H s1:=by
 have hpl:ps.length<=N.length:=by have:=congrArg List.length S.pre;rw[uc3] at this;left
 obtain⟨h1,tk,rfl,hk⟩:=x.done
 have noA:∀ b:j9,b∉(cxOf CX P w K mg base N qual scope f cd A outer s H E).ex:=λ b z=>absurd (show b∈([]:List j9) from z) (by simp)
 refine⟨⟨e0.mod,S.kind,rfl,rfl,h9 _,λ y z c h1 h2=>?_,λ y hy=>?_,λ y c _ h=>?_,λ _=>hd,Around.frames_deeper e0.frames,.inr ⟨rfl,rfl⟩,λ b z=>absurd z (noA b),e0.bs,e0.bsz,λ b _ _=>noA b,λ b z=>absurd z (noA b),e0.funs,e0.frf⟩,
  rfl,e0.bare,Un.kept hk,⟨_,x.toInCall.ns,λ i y v h1 h2 h3=>?_⟩,λ y c h=>⟨_,x.cell y c h⟩,e0.hok.fresh (h9 _),λ y c h=>?_,λ p hp=>absurd (show p∈([]:List (j9 × Obj)) from hp) (by simp),e0.hok.kept hk,?_⟩
 ·exact name_of_addr x.apart (ubk h1) (ubk h2)
 ·have hy:scope.names.lookup y=some .cell\/scope.names.lookup y=some .free:=hy
  rcases hy with hy | hy
  ·exact oS hy
  ·exact absurd rfl (S.nofree _ (ubk hy))
 ·exact uea (x.above y c (ubk h))
 ·have hi:i<vs.length:=by
   unfold start at h2
   by_cases hi:i<vs.length
   ·exact hi
   ·rw[uaq (by simpa using hi)] at h2
    rw[udq] at h2
    split at h2 <;> cases h2
  have ha:vs[i]?=some v:=by
   unfold start at h2
   rw[uck (by simpa using hi),k0] at h2
   cases e:vs[i]? with
   | none=>rw[e] at h2;cases h2
   | some a=>rw[e] at h2;cases h2;rfl
  obtain⟨u,hu,rv⟩:=r.get ha
  have hp:ps[i]?=some y:=by
   rw[← S.pre,List.getElem?_take_of_lt (by left)];exact h1
  have ndP:ps.Nodup:=by rw[← S.pre];exact S.nd.sublist (ufq _ _)
  refine⟨u,rv,?_⟩
  rcases S.par y (u6 hp) with k | k
  ·exact .inl ⟨k,nF ndP hp hu k⟩
  ·obtain⟨c,e⟩:=oS (n:=s.heap.objs.size+1) k
   refine .inr ⟨.inl k,c,e,?_⟩
   have q:=x.cell y c e
   rw[nH ndP hp hu (by show scope.names.lookup y≠_;rw[k];decide)] at q
   exact q
 ·exact e0.hok.fresh (uea (x.above y c (ubk h)))
 ·unfold start
  show _=N.length
  rw[i9,c9,uai]
  left
theorem rH {CX:CXT}{P:m5}{w:ual}{K:c6}{mg:Str->Option d6}{base:Heap}{k:Nat}{f:j9}{name qual:Str}{params:Arguments}{body:List ude}{scope:ueh}{dV kV doc pm cdv ct oc:d6}{an od:Option j9}
  {osl:Array (Option d6)} {N ps:List Str} {sp:Sp} (lk:K.lookup f=some ⟨oc,od,.func (ubf name qual params body scope dV kV doc pm an cdv ct),osl⟩) (hcd:ucu K cdv qual=true) (S:FnScope N ps scope)
  (len:∀ vs H Q E,sp vs H Q E->vs.length=ps.length)
  (hbody:∀ (A:uaf)(outer:List Env)(s:d7)(H:Hp)(vs:List V)(Q:VK)(E:XK),Room k (A.deeper (envOfC qual scope s.heap.objs.size f cdv))->sp vs H Q E ->
   ∃ t,PSs (cxOf CX P w K mg base N qual scope f cdv A outer s H E) body t/\t { nx:=λ _ H'=>Q .non H',rt:=Q } (start N vs) H) :
  FnOk P w K mg base CX (k+1) f (ubf name qual params body scope dV kV doc pm an cdv ct) ps sp:=by
 refine⟨len,λ A outer s H args us vs Q E hr e0 hb r hsp=>?_⟩
 have hl:=len _ _ _ _ hsp
 have KX:K.In s.heap:=e0.mod.kin.keeps λ b o e=>(e0.bs b o e).1
 have lim:s.heap.NoLimit:=e0.mod.nolimit.keeps λ b o e=>(e0.bs b o e).1
 have hkind:∀ y∈ps.zip us,scope.names.lookup y.1=some .local\/(scope.names.lookup y.1=some .cell/\((cellsFrom (s.heap.objs.size+1) scope.names []).lookup y.1).isSome=true):=λ ⟨n,v⟩ hy=>by
  rcases S.par n (ugb hy).1 with q | q
  ·exact .inl q
  ·exact .inr ⟨q,ugq _ _ _ (.inl q)⟩
 refine codeAny_call_function hr.depth (KX _ _ lk) rfl S.co S.gen rfl (PySem.W.codeRec_of KX hcd) (hb _ _ _ _ ?_)
 refine wpAny_newFunctionEnv_cells S.kind hkind λ env he s1 x=>?_
 subst he
 refine⟨lim.keeps x.toInCall.keep,codeAny_func ?_⟩
 obtain⟨t,ht,hq⟩:=hbody A outer s H vs Q E (hr.deeper _) hsp
 have I:Inv (cxOf CX P w K mg base N qual scope f cdv A outer s H E) [] (start N vs) H s1:=xV S hr.hd e0 hl r x
 refine ub4 (ht [] s1 (start N vs) H _ I hq) (λ fl s' hs=>?_) λ e s' hs=>hs
 have fin:∀ {σ':St}{H':Hp}{v:V}{u:d6},Inv (cxOf CX P w K mg base N qual scope f cdv A outer s H E) [] σ' H' s'->RelV v u->Q v H'->CE outer P w H s Q u s' :=
  λ {σ' H' v u} J rv q=>⟨v,H',J.os,J.bare,J.base,J.hok,rv,q⟩
 cases fl with
 | ret u =>
  obtain⟨v,σ',H',J,rv,q⟩:=hs
  exact fin J rv q
 | next =>
  obtain⟨σ',H',J,q⟩:=hs
  exact fin (v:=V.non) (u:=Value.none) J rfl q
 | brk =>
  obtain⟨_,_,_,q⟩:=hs
  exact False.elim q
 | cont =>
  obtain⟨_,_,_,q⟩:=hs
  exact False.elim q
end L2
namespace L2
open PySem PySem.Spec PyProof.Rows
section
variable {X:Cx}{x:Str}{p pos:Pos}{e:ucg}{es:List ucg}{t:TA}{id T:String}{r:List V->Hp->VK->Prop}
def tCB (r:List V->Hp->VK->Prop)(t:TA):TE:=λ σ H Q=>t σ H λ vs H1=>r vs H1 Q
theorem aX (hc:CallR X (.builtin id) r)(hg:Gl X x)(hm:X.mg x=none)(hv:bootBuiltins x=some (.builtin id))(ha:PA X (e::es) t)(hn:x≠"__name__":=by decide)(hdb:(x==("__debug__":Str))=false:=by decide)
  (he:ubd (e::es) X.env=(false,eval e X.env)::ubd es X.env:=by rfl) (hpl:(backTo pos (ubd es X.env)).any (·.1)=false:=by rfl):PE X (.Call (.Name x p) (e::es) [] pos) (tCB r t):=by
 intro pins s σ H Q I h
 refine udx (dE I hg hm hv ?_ hn hdb)
 exact PyProof.Rows.callWith_builtin1 (thn (ha pos pins s σ H _ I h) λ us s1 ⟨vs,H1,I1,r1,q1⟩=>hc pins s1 σ H1 vs us Q I1 r1 q1) he hpl
theorem aY (hc:CallR X (.type T) r)(hg:Gl X x)(hm:X.mg x=none)(hv:bootBuiltins x=some (.type T))(ha:PA X (e::es) t)(hn:x≠"__name__":=by decide)(hdb:(x==("__debug__":Str))=false:=by decide)
  (he:ubd (e::es) X.env=(false,eval e X.env)::ubd es X.env:=by rfl) (hpl:(backTo pos (ubd es X.env)).any (·.1)=false:=by rfl):PE X (.Call (.Name x p) (e::es) [] pos) (tCB r t):=by
 intro pins s σ H Q I h
 refine udx (dE I hg hm hv ?_ hn hdb)
 exact ucv (thn (ha pos pins s σ H _ I h) λ us s1 ⟨vs,H1,I1,r1,q1⟩=>hc pins s1 σ H1 vs us Q I1 r1 q1) he hpl
end
end L2
namespace HT
open PySem PyProof.Rows
def lexLt:List Int->List Int->Bool
 | [],[]=>false
 | [],_::_=>true
 | _::_,[]=>false
 | x::xs,y::ys=>if x=y then lexLt xs ys else decide (x<y)
theorem wA (x y:Int)(xs ys:List Int):lexLt (x::xs) (y::ys)=if x=y then lexLt xs ys else decide (x<y):=rfl
theorem tP:lexLt [] []=false:=rfl
theorem sQ (y:Int)(ys:List Int):lexLt [] (y::ys)=true:=rfl
theorem sR (x:Int)(xs:List Int):lexLt (x::xs) []=false:=rfl
theorem zag (A:uaf)(s:d7)(a:Int)(t:Tok)(c:Int)(u:Tok):∃ e,SeqAt.EqAt A s (.int a t) (.int c u) e/\(e=true↔a=c) :=
 ⟨(a==c),SeqAt.EqAt.int_int a t c u,by simp⟩
theorem zO (A:uaf)(s:d7)(a:Int)(t:Tok)(c:Int)(u:Tok)(prog:m5)(w:ual)(E:d6->d7->Prop)(Q:d6->d7->Prop)(h:Q (.bool (decide (a<c))) s) :
  j8 (v6 prog w) A (richCompare .Lt (.int a t) (.int c u)) Q E s :=
 (PyProof.Rows.lt_int h:j8 (v6 prog w) A (compareOp .Lt (.int a t) (.int c u)) Q E s)
section
open PySem.SeqAt
open PySem.AutoSeq1 (wpAny_loadPart')
open PySem.MeetsSeq PySem.MeetsSeq2 PySem.MeetsSeq3
theorem tD (l b:j9)(items items2:Array d6)(n n2:Nat)(dd dd2:Option j9)(sl sl2:Array (Option d6))(ns ms:List Int)(hi:IntsAre items.toList ns)(hj:IntsAre items2.toList ms) :
  Meets (Builtin.«tuple.__lt__» ⟨[.ref l,.ref b],[]⟩)
   (λ _ R s=>s.heap.get? l=some { cls:=.type "tuple",dict:=dd,data:=.seq items n,slots:=sl }/\s.heap.get? b=some { cls:=.type "tuple",dict:=dd2,data:=.seq items2 n2,slots:=sl2 } /\
    R (.ok (.ret (.bool (lexLt ns ms)))) s) :=
 .of_wp λ prog w A R s h=>by
  obtain⟨hp,g,d,tk,os⟩:=s;obtain⟨hl,hb,h⟩:=h
  have f2:=AutoSeq1.sub_tuple_tuple
  have z1:items.size=ns.length:=by rw[← hi.length];simp
  have z2:items2.size=ms.length:=by rw[← hj.length];simp
  wp_walk using ueg hl,ueg hb,wpAny_forIn_list _ (λ rest b s'=>b.1=none/\s'=⟨hp,g,d,tk,os⟩/\∃ (vs ws:List d6)(ns' ms':List Int),rest=vs.zip ws /\
   IntsAre vs ns'/\IntsAre ws ms'/\ns'.length+items2.size=ms'.length+items.size/\R (.ok (.ret (.bool (lexLt ns' ms')))) ⟨hp,g,d,tk,os⟩) _
  case turn =>
   rintro ⟨y,x⟩ rest b s' ⟨hb',rfl,vs,ws,ns',ms',hz,hvi,hwi,hlen,hR⟩
   cases hvi with
   | nil=>rw[List.zip_nil_left] at hz;cases hz
   | cons a t hvi' =>
    cases hwi with
    | nil=>rw[List.zip_nil_right] at hz;cases hz
    | cons c u hwi' =>
     rw[ud8] at hz
     injection hz with hyx hrest
     injection hyx with hy hx
     subst hy hx
     rw[wA] at hR
     simp only [z0] at hlen
     obtain⟨e,he,hiff⟩:=zag A.in1 ⟨hp,g,d,tk,os⟩ a t c u
     refine a9 (he prog w _ _ ?_)
     cases e with
     | true =>
      rw[uhc (hiff.mp rfl)] at hR
      wp_walk
      exact⟨rfl,rfl,_,_,_,_,hrest,hvi',hwi',by left,hR⟩
     | false =>
      rw[uhd (λ q=>absurd (hiff.mpr q) j6)] at hR
      have hri:=zO A.in1 ⟨hp,g,d,tk,os⟩ a t c u prog w
      wp_walk using hri
      exact⟨_,rfl,by simpa using hR⟩
  case fin =>
   rintro ⟨b1,b2⟩ s' ⟨hb',rfl,vs,ws,ns',ms',hz,hvi,hwi,hlen,hR⟩
   simp only at hb'
   subst hb'
   have hv:lexLt ns' ms'=decide (items.size<items2.size):=by
    cases hvi with
    | nil =>
     cases hwi with
     | nil =>
      simp only [ugc] at hlen
      rw[tP]
      exact (uha (by left)).symm
     | cons c u hw =>
      simp only [ugc,z0] at hlen
      rw[sQ]
      exact (ug8 (by left)).symm
    | cons a t hv =>
     cases hwi with
     | nil =>
      simp only [ugc,z0] at hlen
      rw[sR]
      exact (uha (by left)).symm
     | cons c u hw =>
      rw[ud8] at hz
      cases hz
   rw[hv] at hR
   wp_walk
   exact⟨_,rfl,by simpa [Builtin.Tuple.tupleCompareSizes] using hR⟩
  case h =>
   exact⟨rfl,rfl,items.toList,items2.toList,ns,ms,rfl,hi,hj,by left,h⟩
end
section
variable {prog:m5}{w:ual}{A:uaf}{E:d6->d7->Prop}{s:d7}
theorem vZ {l b:j9}{items items2:Array d6}{ns ms:List Int}{Q:d6->d7->Prop}(hl:IsTup s.heap l items)(hb:IsTup s.heap b items2)(hi:IntsAre items.toList ns)(hj:IntsAre items2.toList ms)
  (hu:A.units<cLine) (h:Q (.bool (lexLt ns ms)) s):j8 (v6 prog w) A (compareOp .Lt (.ref l) (.ref b)) Q E s:=by
 obtain⟨⟨cls,dd,data,sl⟩,ho,hc,n,hd⟩:=id hl
 obtain⟨⟨cls2,dd2,data2,sl2⟩,ho2,hc2,n2,hd2⟩:=id hb
 simp only at hc hd hc2 hd2
 subst hc hd hc2 hd2
 exact richCompare_meets_room (op:=.Lt) ⟨_,ho,rfl⟩ ⟨_,ho2,rfl⟩ PySem.F.slot_tuple_lt PySem.F.entry_tuple_lt (PySem.F.args_tuple_lt_2 _ _) (tD l b items items2 n n2 dd dd2 sl sl2 ns ms hi hj)
  ⟨ho,ho2,show Value.bool (lexLt ns ms)≠Value.notImplemented/\Q (.bool (lexLt ns ms)) s from ⟨(λ x=>nomatch x),h⟩⟩ hu
def sIx (n d:Nat):Option Int->Nat
 | none=>d
 | some v=>if v<0 then (v+(n:Int)).toNat else min v.toNat n
theorem zb0 (n d:Nat)(hd:d<=n)(o:Option Int):sIx n d o<=n:=by
 cases o with
 | none=>exact hd
 | some v =>
  show (if v<0 then (v+(n:Int)).toNat else min v.toNat n)<=n
  by_cases hv:v<0
  ·rw[uhc hv];left
  ·rw[uhd hv];exact Nat.min_le_right _ _
theorem qH (v:Int)(n d:Nat):(if v<0 then max (v+(n:Int)) 0 else min v (n:Int))=((sIx n d (some v):Nat):Int):=by
 show (if v<0 then max (v+(n:Int)) 0 else min v (n:Int))=(((if v<0 then (v+(n:Int)).toNat else min v.toNat n):Nat):Int)
 by_cases hv:v<0
 ·simp only [uhc hv];left
 ·simp only [uhd hv];left
theorem wQ (lo hi:Option Int)(n:Nat):Builtin.Slice.sliceAdjust lo hi 1 (n:Int)=(((sIx n 0 lo:Nat):Int),((sIx n n hi:Nat):Int)):=by
 have h1:¬ ((1:Int)<0):=by left
 unfold Builtin.Slice.sliceAdjust
 simp only [h1,if_false]
 refine Prod.ext ?_ ?_
 ·cases lo with
  | none=>rfl
  | some v=>exact qH v n 0
 ·cases hi with
  | none=>rfl
  | some v=>exact qH v n n
theorem vU (i j:Nat):Builtin.Slice.slicePlaces (i:Int) (j:Int) 1=j-i:=by
 unfold Builtin.Slice.slicePlaces
 have h1:(1:Int)>0:=by left
 simp only [h1,if_true,Int.ediv_one]
 split <;> left
theorem lK {v:d6}{o:Option Int}{Q:Option Int->d7->Prop}(p:IsPart v o)(h:Q o s):j8 (v6 prog w) A (Builtin.Slice.slicePartIndex v) Q E s:=by
 cases p with
 | none=>exact slicePart_none h
 | int i t=>exact slicePart_int h
theorem kT {sl:j9}{vl vu:d6}{lo hi:Option Int}{n:Nat}{Q:Int × Int × Nat->d7->Prop}(hs:s.heap.IsSliceOf sl vl vu .none)(pl:IsPart vl lo)(pu:IsPart vu hi)
  (h:Q (((sIx n 0 lo:Nat):Int),1,sIx n n hi-sIx n 0 lo) s):j8 (v6 prog w) A (Builtin.Slice.sliceApplied (.ref sl) (pure (n:Int))) Q E s:=by
 obtain⟨os,hos,hcs,hds⟩:=id hs
 unfold Builtin.Slice.sliceApplied Builtin.Slice.sliceFields
 refine a9 (a9 (ua3 hos hds (x:=vl) rfl (a9 (ua3 hos hds (x:=vu) rfl (a9 (ua3 hos hds (x:=.none) rfl (c8 ?_)))))))
 refine a9 (slicePart_none ?_)
 show j8 _ _ (if ((1:Int)==0)=true then _ else _) _ _ s
 rw[uhd (by decide)]
 refine a9 (lK pl (a9 (lK pu (a9 (c8 ?_)))))
 show j8 _ _ (match Builtin.Slice.sliceAdjust lo hi 1 (n:Int) with | (lo,hi)=>pure (lo,(1:Int),Builtin.Slice.slicePlaces lo hi 1)) _ _ s
 rw[wQ lo hi n]
 show j8 _ _ (pure (((sIx n 0 lo:Nat):Int),(1:Int),Builtin.Slice.slicePlaces ((sIx n 0 lo:Nat):Int) ((sIx n n hi:Nat):Int) 1)) _ _ s
 rw[vU]
 exact c8 h
theorem zQ (xs:Array d6)(i k:Nat):((c7 k).filterMap λ (m:Nat)=>xs[((i:Int)+(m:Int)*1).toNat]?).toArray=((xs.toList.drop i).take k).toArray:=by
 have e:(λ (m:Nat)=>xs[((i:Int)+(m:Int)*1).toNat]?)=λ m=>xs[i+m]?:=by
  funext m
  have:((i:Int)+(m:Int)*1).toNat=i+m:=by left
  rw[this]
 rw[e]
 have:=pick_run xs i k
 rw[ufe] at this
 have e2:((λ x=>xs[x]?) ∘ λ x=>i+x)=λ m=>xs[i+m]?:=rfl
 rw[e2] at this
 rw[this]
theorem rS {t sl:j9}{items:Array d6}{vl vu:d6}{lo hi:Option Int}{Q:d6->d7->Prop}(ht:IsTup s.heap t items)(hs:s.heap.IsSliceOf sl vl vu .none)(pl:IsPart vl lo)(pu:IsPart vu hi)
  (hw:¬ (sIx items.size 0 lo=0/\sIx items.size items.size hi=items.size))
  (h:Q (.ref s.heap.objs.size) { s with heap:=s.heap.push { cls:=.type "tuple",data:=.seq ((items.toList.drop (sIx items.size 0 lo)).take (sIx items.size items.size hi-sIx items.size 0 lo)).toArray } })
  (hsz:items.size<=v5):j8 (v6 prog w) A (getItem (.ref t) (.ref sl)) Q E s:=by
 have htake:sizeOk (.seq ((items.toList.drop (sIx items.size 0 lo)).take (sIx items.size items.size hi-sIx items.size 0 lo)).toArray):=by
  show ((items.toList.drop (sIx items.size 0 lo)).take (sIx items.size items.size hi-sIx items.size 0 lo)).toArray.size<=v5
  rw[i8,uc3,uby,z9]
  left
 have hj:sIx items.size items.size hi<=items.size:=zb0 _ _ (h9 _) hi
 obtain⟨os,hos,hcs,hds⟩:=id hs
 have hTs:s.TypeIs (.ref sl) "slice":=⟨os,hos,hcs⟩
 unfold getItem
 try with_reducible refine uam ?_
 first | refine a9 (c8 ?_) | skip
 refine a9 (wpAny_sequenceKey ht.typeIs (by decide) ?_)
 refine a9 (uan (name:=o8 "__getitem__") ht.typeIs ua5
  (uat ua5 ht.typeIs entry_tuple_getitem ?_ (args_tuple_getitem _ _)))
 show j8 _ _ (Builtin.Tuple.tupleItemsOf (.ref t) >>= _) _ _ s
 refine a9 (tupleItemsOf_ ht ?_)
 refine a9 (uen hTs ?_)
 rw[uhc (by decide)]
 refine a9 (kT hs pl pu ?_)
 have hno:¬ ((((sIx items.size 0 lo:Nat):Int)==0&&(1:Int)==1&&(sIx items.size items.size hi-sIx items.size 0 lo)==items.size)=true):=by
  intro q
  rw[uaj,uaj] at q
  have q1:((sIx items.size 0 lo:Nat):Int)=0:=eq_of_beq q.1.1
  have q2:sIx items.size items.size hi-sIx items.size 0 lo=items.size:=eq_of_beq q.2
  exact hw ⟨by left,by left⟩
 show j8 _ _ (if (((sIx items.size 0 lo:Nat):Int)==0&&(1:Int)==1&&(sIx items.size items.size hi-sIx items.size 0 lo)==items.size)=true then _ else _) _ _ s
 rw[uhd hno,zQ]
 first
  | exact a9 (m:=Builtin.Tuple.tupleExact _) (uay (c8 ⟨_,rfl,c8 h⟩) htake)
  | exact a9 (m:=Builtin.Tuple.tupleExact _) (uay (a9 (c8 (c8 ⟨_,rfl,c8 h⟩))) htake)
  | exact a9 (a9 (m:=Builtin.Tuple.tupleExact _) (uay (c8 (c8 ⟨_,rfl,c8 h⟩)) htake))
  | exact a9 (a9 (m:=Builtin.Tuple.tupleExact _) (uay (c8 ⟨_,rfl,c8 h⟩) htake))
end
end HT
namespace L2
open PySem PySem.Spec PyProof.Rows
abbrev TO:=St->Hp->(Option Int->Hp->Prop)->Prop
def PO (X:Cx)(e:Option ucg)(t:TO):Prop :=
 ∀ (pins:List (j9 × Obj))(s:d7)(σ:St)(H:Hp)(Q:Option Int->Hp->Prop),Inv X pins σ H s->t σ H Q ->
  j8 (v6 X.prog X.w) X.A (evalPart e X.env) (λ u s'=>∃ o H',Inv X pins σ H' s'/\IsPart u o/\Q o H') X.xe s
def tNoPart:TO:=λ _ H Q=>Q none H
def tPart (t:TE):TO:=λ σ H Q=>t σ H λ x H1=>EInt x λ i=>Q (some i) H1
theorem cO {ns:List Int}:∀ {us:List d6},Vals (ns.map V.int) us->IntsAre us ns:=by
 induction ns with
 | nil=>intro us r;rw[List.map_nil] at r;cases r;exact .nil
 | cons n ns ih =>
  intro us r
  rw[ucf] at r
  cases r with
  | cons r1 r2 =>
   obtain⟨t,e⟩:=r1
   subst e
   exact .cons n t (ih r2)
section
variable {X:Cx}{e:ucg}{te:TE}{lo hi:Option ucg}{tl th:TO}{pos p2:Pos}
theorem eY:PO X none tNoPart:=by
 intro pins s σ H Q I h
 rw[evalPart_none]
 exact c8 ⟨none,H,I,.none,h⟩
theorem eW (h:PE X e te):PO X (some e) (tPart te):=by
 intro pins s σ H Q I hw
 rw[evalPart_some]
 refine thn (h pins s σ H _ I hw) λ u s1 ⟨x,H1,I1,r1,q1⟩=>?_
 obtain⟨i,rfl,q⟩:=q1
 obtain⟨t,rfl⟩:=r1
 exact⟨some i,H1,I1,.int i t,q⟩
def SlR (X:Cx)(r:V->Option Int->Option Int->Hp->VK->Prop):Prop :=
 ∀ (pins:List (j9 × Obj))(s:d7)(σ:St)(H:Hp)(x:V)(v vl vu:d6)(lo hi:Option Int)(sl:j9)(Q:VK),Inv X pins σ H s->RelV x v->s.heap.IsSliceOf sl vl vu .none->IsPart vl lo->IsPart vu hi->r x lo hi H Q ->
  ∃ T id,typeLookup (.type T) "__getitem__"=pure (some (.builtin id))/\s.TypeIs v T/\j8 (v6 X.prog X.w) X.A (getItem v (.ref sl)) (EP X pins σ Q) X.xe s
def tSl (r:V->Option Int->Option Int->Hp->VK->Prop)(te:TE)(tl th:TO):TE:=λ σ H Q=>te σ H λ x H1=>tl σ H1 λ l H2=>th σ H2 λ u H3=>r x l u H3 Q
theorem eQ {r:V->Option Int->Option Int->Hp->VK->Prop}(hr:SlR X r)(he:PE X e te)(hl:PO X lo tl)(hu:PO X hi th):PE X (.Subscript e (.Slice lo hi none p2) pos) (tSl r te tl th):=by
 intro pins s σ H Q I h
 refine Subscript_ (thn (he pins s σ H _ I h) λ v s1 ⟨x,H1,I1,r1,q1⟩=>?_)
 refine wpAny_Slice (thn (hl pins s1 σ H1 _ I1 q1) λ vl s2 ⟨l,H2,I2,pl,q2⟩=>thn (hu pins s2 σ H2 _ I2 q2) λ vu s3 ⟨u,H3,I3,pu,q3⟩=>?_)
 rw[evalPart_none]
 refine c8 ?_
 have I4:Inv X pins σ H3 { s3 with heap:=s3.heap.push { cls:=.type "slice",data:=.fields #[vl,vu,.none] } }:=I3.kept (t':=s3.toks) λ b ob q=>b9 _ q
 obtain⟨T,id,hT,ht,hg⟩:=hr pins { s3 with heap:=s3.heap.push { cls:=.type "slice",data:=.fields #[vl,vu,.none] } } σ H3 x v vl vu l u s3.heap.objs.size Q I4 r1 (Heap.IsSliceOf.new ..) pl pu q3
 show j8 (v6 X.prog X.w) X.A (subscriptTail e (.Slice lo hi none p2) v (.ref s3.heap.objs.size)) (EP X pins σ Q) X.xe { s3 with heap:=s3.heap.push { cls:=.type "slice",data:=.fields #[vl,vu,.none] } }
 exact tail_any (ops:=[.ref s3.heap.objs.size,v]) ht hT hg (by with_unfolding_all rfl)
def cutV (xs:List V)(lo hi:Option Int):List V:=(xs.drop (HT.sIx xs.length 0 lo)).take (HT.sIx xs.length xs.length hi-HT.sIx xs.length 0 lo)
theorem lJ (xs:List V)(lo hi:Option Int):(cutV xs lo hi).length<=xs.length:=by
 unfold cutV
 rw[uc3,uby]
 left
inductive rSlT_i (K:c6)(x:V)(lo:Option Int)(hi:Option Int)(H:Hp)(Q:VK):Prop
 | mk:∀ a xs,(x=.ref a)->(SqT K H a xs)->(¬ (HT.sIx xs.length 0 lo=0/\HT.sIx xs.length xs.length hi=xs.length))->(∀ p,H p=none->Q (.ref p) (upd H p (.tup (cutV xs lo hi))))->rSlT_i K x lo hi H Q
def rSlT (K:c6):V->Option Int->Option Int->Hp->VK->Prop:=λ x lo hi H Q=>rSlT_i K x lo hi H Q
theorem zbz:SlR X (rSlT X.K):=by
 intro pins s σ H x v vl vu lo hi sl Q I rx hs pl pu h
 obtain⟨a,xs,rfl,hx,hw,q⟩:=h
 cases rx
 obtain⟨its,r,ht,hz⟩:=I.tuple hx
 have hlen:its.toArray.size=xs.length:=by rw[i8];exact r.length.symm
 refine⟨"tuple",_,ua5.lookup,ht.typeIs,?_⟩
 refine HT.rS ht hs pl pu (by rw[hlen];exact hw) ?_ (by rw[hlen];exact hz)
 rw[hlen]
 refine⟨.ref s.heap.objs.size,_,I.laid (t':=s.toks) (o:=.tup (cutV xs lo hi)) (λ b ob q=>b9 _ q) (h9 _) ?_,rfl,q _ (I.hok.fresh (h9 _))⟩
 exact⟨uas (lJ xs lo hi) hz,_,(r.drop (HT.sIx xs.length 0 lo)).take (HT.sIx xs.length xs.length hi-HT.sIx xs.length 0 lo),TupN.new _ _⟩
inductive rLtT_i (K:c6)(x:V)(y:V)(H:Hp)(Q:VK):Prop
 | mk:∀ a b ns ms,(x=.ref a)->(y=.ref b)->(SqT K H a (ns.map V.int))->(SqT K H b (ms.map V.int))->(Q (.bl (HT.lexLt ns ms)) H)->rLtT_i K x y H Q
def rLtT (K:c6):R2:=λ x y H Q=>rLtT_i K x y H Q
theorem zce (hu:X.A.units<cLine):OpR X (compareOp .Lt) (rLtT X.K):=by
 intro pins s σ H x y v u Q I rx ry h
 obtain⟨a,b,ns,ms,rfl,rfl,ha,hb,q⟩:=h
 cases rx
 cases ry
 obtain⟨its,r1,p1,_⟩:=I.tuple ha
 obtain⟨its2,r2,p2,_⟩:=I.tuple hb
 have i1:IntsAre its.toArray.toList ns:=cO r1
 have i2:IntsAre its2.toArray.toList ms:=cO r2
 exact HT.vZ p1 p2 i1 i2 hu ⟨.bl (HT.lexLt ns ms),H,I,rfl,q⟩
end
end L2
namespace L2
open PySem PySem.Spec PyProof.Rows
def ixN (n:Nat)(i:Int):Option Nat:=if 0<=i then (if i<n then some i.toNat else none) else if -(n:Int)<=i then some (i+n).toNat else none
def atI {α:Type}(xs:List α)(i:Int):Option α:=(ixN xs.length i).bind λ j=>xs[j]?
theorem jT {n:Nat}{i:Int}{j:Nat}(h:ixN n i=some j):seqIndex? i n=some j/\j<n/\-(n:Int)<=i/\i<n:=by
 unfold ixN at h
 by_cases h0:0<=i
 ·rw[uhc h0] at h
  by_cases h1:i<n
  ·rw[uhc h1] at h
   have e:i.toNat=j:=u7 h
   exact⟨by rw[seqIndex_of h0 h1,e],by left,by left,h1⟩
  ·rw[uhd h1] at h;cases h
 ·rw[uhd h0] at h
  by_cases h1:-(n:Int)<=i
  ·rw[uhc h1] at h
   have e:(i+n).toNat=j:=u7 h
   exact⟨by rw[seqIndex_neg (by left) h1,e],by left,h1,by left⟩
  ·rw[uhd h1] at h;cases h
theorem qJ {α:Type}{xs:List α}{i:Int}{v:α}(h:atI xs i=some v):∃ j,seqIndex? i xs.length=some j/\xs[j]?=some v/\j<xs.length/\-(xs.length:Int)<=i/\i<xs.length:=by
 unfold atI at h
 cases e:ixN xs.length i with
 | none=>rw[e] at h;cases h
 | some j =>
  rw[e] at h
  obtain⟨h1,h2,h3,h4⟩:=jT e
  exact⟨j,h1,h,h2,h3,h4⟩
theorem qI {α:Type}{xs:List α}{j:Nat}{v:α}(h:xs[j]?=some v):atI xs (j:Int)=some v:=by
 have hj:j<xs.length:=(m9.mp h).1
 have e:ixN xs.length (j:Int)=some j:=by
  unfold ixN
  rw[uhc (by left),uhc (by left)];simp
 unfold atI;rw[e];exact h
theorem oV {α:Type}(xs:List α)(v:α):atI (xs++[v]) (-1)=some v:=by
 have hl:(xs++[v]).length=xs.length+1:=by simp
 have e:ixN (xs++[v]).length (-1)=some xs.length:=by
  unfold ixN
  rw[hl,uhd (by decide),uhc (by left)]
  congr 1
  left
 unfold atI
 rw[e]
 show (xs++[v])[xs.length]?=some v
 simp
def PlainIx (b:ucg):Prop:=∀ o i,subscripted b false o i=operate [o,i] (getItem o i)
def IxR (X:Cx)(r:R2):Prop :=
 ∀ (value slice:ucg)(pins:List (j9 × Obj))(s:d7)(σ:St)(H:Hp)(x y:V)(v u:d6)(Q:VK),Inv X pins σ H s->RelV x v->RelV y u->r x y H Q ->
  subscripted slice false v u=operate [v,u] (getItem v u)->j8 (v6 X.prog X.w) X.A (subscriptTail value slice v u) (EP X pins σ Q) X.xe s
def MtR (X:Cx)(id:String)(r:V->List V->Hp->VK->Prop):Prop :=
 ∀ (pins:List (j9 × Obj))(s:d7)(σ:St)(H:Hp)(x:V)(xs:List V)(v:d6)(us:List d6)(Q:VK),Inv X pins σ H s->RelV x v->Vals xs us->r x xs H Q ->
  j8 (v6 X.prog X.w) X.A (call (.builtin id) (v::us)) (EP X pins σ Q) X.xe s
section
variable {X:Cx}{a b:ucg}{ta tb:TE}{pos:Pos}
theorem aE {r:R2}(hr:IxR X r)(ha:PE X a ta)(hb:PE X b tb)(hs:PlainIx b):PE X (.Subscript a b pos) (tOp r ta tb):=by
 intro pins s σ H Q I h
 exact Subscript_ (binT ha hb I h λ v u s2 x y H2 I2 rx ry q=>hr a b pins s2 σ H2 x y v u Q I2 rx ry q (hs _ _))
inductive rIxL_i (K:c6)(x:V)(y:V)(H:Hp)(Q:VK):Prop
 | mk:∀ p xs i v,(x=.ref p)->(y=.int i)->(SqL K H p xs)->(atI xs i=some v)->(Q v H)->rIxL_i K x y H Q
def rIxL (K:c6):R2:=λ x y H Q=>rIxL_i K x y H Q
inductive rIxT_i (K:c6)(x:V)(y:V)(H:Hp)(Q:VK):Prop
 | mk:∀ p xs i v,(x=.ref p)->(y=.int i)->(SqT K H p xs)->(atI xs i=some v)->(Q v H)->rIxT_i K x y H Q
def rIxT (K:c6):R2:=λ x y H Q=>rIxT_i K x y H Q
theorem aV:IxR X (rIxL X.K):=by
 intro value slice pins s σ H x y v u Q I rx ry h hs
 obtain⟨p,xs,i,z,rfl,rfl,hq,he,q⟩:=h
 cases rx
 obtain⟨t,rfl⟩:=ry
 obtain⟨its,r,pl,hz⟩:=I.list hq
 obtain⟨j,h1,h2,h3,h4,h5⟩:=qJ he
 obtain⟨w,ew,rw'⟩:=r.get h2
 have hl:=r.length
 have hn:=line63
 have fin:EP X pins σ Q w s:=⟨z,H,I,rw',q⟩
 by_cases h0:0<=i
 ·have hj:i.toNat=j:=by
   rw[seqIndex_of h0 h5] at h1
   exact u7 h1
  exact item_listR pl.isList h0 (by left) (by rw[hj];simpa using ew) fin hs
 ·have hj:(i+(its.toArray.size:Int)).toNat=j:=by
   rw[seqIndex_neg (by left) h4] at h1
   rw[i8,← hl]
   exact u7 h1
  exact subscriptTail_builtinR (x:=w) pl.isList.typeIs slot_list_getitem.lookup
   (wpAny_getItem_list_neg (Q:=λ r s'=>r=w/\EP X pins σ Q r s') pl.isList (by left) (by rw[i8] <;> left) (by left) (by rw[hj];simpa using ew) ⟨rfl,fin⟩) hs
theorem aU:IxR X (rIxT X.K):=by
 intro value slice pins s σ H x y v u Q I rx ry h hs
 obtain⟨p,xs,i,z,rfl,rfl,hq,he,q⟩:=h
 cases rx
 obtain⟨t,rfl⟩:=ry
 obtain⟨its,r,pl,hz⟩:=I.tuple hq
 obtain⟨j,h1,h2,h3,h4,h5⟩:=qJ he
 obtain⟨w,ew,rw'⟩:=r.get h2
 have hl:=r.length
 have hn:=line63
 have fin:EP X pins σ Q w s:=⟨z,H,I,rw',q⟩
 exact subscriptTail_builtinR (x:=w) pl.typeIs slot_tuple_getitem.lookup
  (getItem_tuple (j:=j) (Q:=λ r s'=>r=w/\EP X pins σ Q r s') pl (by left) (by left) (by rw[i8,← hl];exact h1) (by simpa using ew) ⟨rfl,fin⟩) hs
theorem vY (its:List d6)(n j:Nat)(u:d6):Obj.mapSeq (·.setIfInBounds j u) { cls:=.type "list",data:=.seq its.toArray n }={ cls:=.type "list",data:=.seq (its.set j u).toArray n }:=by
 simp [Obj.mapSeq]
theorem Inv.lst {pins:List (j9 × Obj)}{σ:St}{H:Hp}{s:d7}{p:j9}{xs:List V}(I:Inv X pins σ H s)(h:H p=some (.lst xs)) :
  ∃ (its:List d6)(n:Nat),Vals xs its/\s.heap.get? p=some { cls:=.type "list",data:=.seq its.toArray n }/\xs.length<=v5:=by
 obtain⟨z,its,n,r,e⟩:=I.hok p _ h
 exact⟨its,n,r,e,z⟩
theorem Inv.lstUpd {pins:List (j9 × Obj)}{σ:St}{H:Hp}{s:d7}{p:j9}{xs ys:List V}{its its':List d6}{n n':Nat}{f:Obj->Obj}(I:Inv X pins σ H s)(h:H p=some (.lst xs))
  (ho:s.heap.get? p=some { cls:=.type "list",data:=.seq its.toArray n }) (hf:f { cls:=.type "list",data:=.seq its.toArray n }={ cls:=.type "list",data:=.seq its'.toArray n' }) (r:Vals ys its') (hz:ys.length<=v5) (t:Nat) :
  Inv X pins σ (upd H p (.lst ys)) { s with heap:=s.heap.update p f,toks:=t }:=by
 have e:(s.heap.update p f).get? p=some { cls:=.type "list",data:=.seq its'.toArray n' }:=by
  rw[ua7 f ho (by rw[hf] <;> rfl),hf]
 refine I.write (x:=p) (e:=p) (by rw[h];trivial) (.inl rfl) (λ b u hb q=>(v8 _ _ (Ne.symm hb)).trans q) ⟨_,e⟩ ?_
 exact⟨hz,its',n',r,e⟩
inductive rSetL_i  (o:V) (i:V) (v:V) (H:Hp) (Q:Hp->Prop):Prop
 | mk:∀ p xs k j,(o=.ref p)->(i=.int k)->(H p=some (.lst xs))->(ixN xs.length k=some j)->(Q (upd H p (.lst (xs.set j v))))->rSetL_i o i v H Q
def rSetL :V->V->V->Hp->(Hp->Prop)->Prop:=λ o i v H Q=>rSetL_i o i v H Q
theorem dI:PSet X rSetL:=by
 intro pins s σ H o i v ov iv u Q I ro ri rv h
 obtain⟨p,xs,k,j,rfl,rfl,hp,hj,q⟩:=h
 cases ro
 obtain⟨t,rfl⟩:=ri
 obtain⟨its,n,r,ho,hz⟩:=I.lst hp
 obtain⟨h1,h2,h3,h4⟩:=jT hj
 have hl:=r.length
 have hn:=line63
 have I':Inv X pins σ (upd H p (.lst (xs.set j v))) { s with heap:=s.heap.update p (Obj.mapSeq (·.setIfInBounds j u)) } :=
  I.lstUpd hp ho (vY its n j u) (r.set rv j) (by rw[ubs];exact hz) s.toks
 by_cases h0:0<=k
 ·have hk:k.toNat=j:=by
   rw[seqIndex_of h0 h4] at h1
   exact u7 h1
  exact PySem.W.ki_setAt ho h0 (by left) (by rw[i8,← hl];exact h4) (by rw[hk];exact⟨_,I',q⟩)
 ·have hk:(k+(its.toArray.size:Int)).toNat=j:=by
   rw[seqIndex_neg (by left) h3] at h1
   rw[i8,← hl]
   exact u7 h1
  exact PySem.W.ki_setBack ho (by left) (by rw[i8,← hl];exact h3) (by left) (by rw[hk];exact⟨_,I',q⟩)
theorem uD (lo hi:Option Int)(n:Nat):(sliceBounds lo hi none n).1=((HT.sIx n 0 lo:Nat):Int)/\(sliceBounds lo hi none n).2.1=((HT.sIx n n hi:Nat):Int)/\(sliceBounds lo hi none n).2.2=1:=by
 refine⟨?_,?_,rfl⟩
 ·cases lo with
  | none=>simp [sliceBounds,HT.sIx]
  | some i =>
   simp only [sliceBounds,HT.sIx,Option.getD_none,show (1:Int)>0 by decide,if_true]
   by_cases h:i<0
   ·simp only [h,if_true] <;> left
   ·simp only [h,if_false] <;> left
 ·cases hi with
  | none=>simp [sliceBounds,HT.sIx]
  | some i =>
   simp only [sliceBounds,HT.sIx,Option.getD_none,show (1:Int)>0 by decide,if_true]
   by_cases h:i<0
   ·simp only [h,if_true] <;> left
   ·simp only [h,if_false] <;> left
theorem tE (its:List d6)(lo hi:Option Int):slicePick its.toArray lo hi none=((its.drop (HT.sIx its.length 0 lo)).take (HT.sIx its.length its.length hi-HT.sIx its.length 0 lo)).toArray:=by
 obtain⟨h1,h2,h3⟩:=uD lo hi its.toArray.size
 unfold slicePick
 rw[h1,h2,h3]
 simp only [sliceRange_one,pick_run,i8] <;> rfl
inductive rSlL_i (K:c6)(x:V)(lo:Option Int)(hi:Option Int)(H:Hp)(Q:VK):Prop
 | mk:∀ a xs,(x=.ref a)->(SqL K H a xs)->(∀ p,H p=none->Q (.ref p) (upd H p (.lst (cutV xs lo hi))))->rSlL_i K x lo hi H Q
def rSlL (K:c6):V->Option Int->Option Int->Hp->VK->Prop:=λ x lo hi H Q=>rSlL_i K x lo hi H Q
theorem za1:SlR X (rSlL X.K):=by
 intro pins s σ H x v vl vu lo hi sl Q I rx hs pl pu h
 obtain⟨a,xs,rfl,hx,q⟩:=h
 cases rx
 obtain⟨its,r,ht,hz⟩:=I.list hx
 have hlen:=r.length
 refine⟨"list",_,slot_list_getitem.lookup,ht.isList.typeIs,?_⟩
 refine wpAny_getItem_list_slice ht.isList hs pl pu .none (by simp) ?_ (by rw[i8] <;> left)
 rw[tE,← hlen]
 refine⟨.ref s.heap.objs.size,_,I.laid (t':=s.toks) (o:=.lst (cutV xs lo hi)) (λ b ob q=>b9 _ q) (h9 _) ?_,rfl,q _ (I.hok.fresh (h9 _))⟩
 exact⟨uas (lJ xs lo hi) hz,_,0,(r.drop (HT.sIx xs.length 0 lo)).take (HT.sIx xs.length xs.length hi-HT.sIx xs.length 0 lo),i6 _ rfl⟩
def flatV:V->Bool
 | .non=>true
 | .bl _=>true
 | .int _=>true
 | .str _=>true
 | _=>false
def eqV:V->V->Bool
 | .non,.non=>true
 | .bl a,.bl b=>a==b
 | .bl a,.int b=>(if a then 1 else 0)==b
 | .int a,.bl b=>a==(if b then 1 else 0)
 | .int a,.int b=>a==b
 | .str a,.str b=>a==b
 | _,_=>false
theorem zcq {A:uaf}{s:d7}{y x:V}{u v:d6}(ry:RelV y u)(rx:RelV x v)(fy:flatV y=true)(fx:flatV x=true):SeqAt.EqAt A s u v (eqV y x):=by
 cases y with
 | non =>
  cases ry
  cases x with
  | non=>cases rx;exact SeqAt.EqAt.same _
  | bl b=>cases rx;exact SeqAt.EqAt.none_bool b
  | int b=>obtain⟨t,rfl⟩:=rx;exact SeqAt.EqAt.none_int b t
  | str b=>obtain⟨t,rfl⟩:=rx;exact SeqAt.EqAt.none_str b t
  | _=>exact absurd (show false=true from fx) j6
 | bl a =>
  cases ry
  cases x with
  | non=>cases rx;exact SeqAt.EqAt.bool_none a
  | bl b=>cases rx;exact SeqAt.EqAt.bool_bool a b
  | int b=>obtain⟨t,rfl⟩:=rx;exact SeqAt.EqAt.bool_int a b t
  | str b=>obtain⟨t,rfl⟩:=rx;exact SeqAt.EqAt.bool_str a b t
  | _=>exact absurd (show false=true from fx) j6
 | int a =>
  obtain⟨t',rfl⟩:=ry
  cases x with
  | non=>cases rx;exact SeqAt.EqAt.int_none a t'
  | bl b=>cases rx;exact SeqAt.EqAt.int_bool a t' b
  | int b=>obtain⟨t,rfl⟩:=rx;exact SeqAt.EqAt.int_int a t' b t
  | str b=>obtain⟨t,rfl⟩:=rx;exact SeqAt.EqAt.int_str a t' b t
  | _=>exact absurd (show false=true from fx) j6
 | str a =>
  obtain⟨t',rfl⟩:=ry
  cases x with
  | non=>cases rx;exact SeqAt.EqAt.str_none a t'
  | bl b=>cases rx;exact SeqAt.EqAt.str_bool a t' b
  | int b=>obtain⟨t,rfl⟩:=rx;exact SeqAt.EqAt.str_int a t' b t
  | str b=>obtain⟨t,rfl⟩:=rx;exact SeqAt.EqAt.str_str a t' b t
  | _=>exact absurd (show false=true from fx) j6
 | _=>exact absurd (show false=true from fy) j6
def eqU (x:V)(u:d6):Bool:=match u with
 | .none=>eqV .non x
 | .bool b=>eqV (.bl b) x
 | .int i _=>eqV (.int i) x
 | .str z _=>eqV (.str z) x
 | _=>false
theorem qX {x y:V}{u:d6}(r:RelV y u)(f:flatV y=true):eqU x u=eqV y x:=by
 cases y with
 | non=>cases r;rfl
 | bl b=>cases r;rfl
 | int i=>obtain⟨t,rfl⟩:=r;rfl
 | str z=>obtain⟨t,rfl⟩:=r;rfl
 | _=>exact absurd (show false=true from f) j6
theorem gA {x:V}:∀ {xs:List V}{us:List d6},Vals xs us->xs.all flatV=true->us.any (eqU x)=xs.any λ y=>eqV y x
 | _,_,.nil,_=>rfl
 | y::xs,u::us,.cons r t,f=>by
  rw[List.all_cons,uaj] at f
  rw[ug7,ug7,qX r f.1,gA t f.2]
theorem fT {A:uaf}{s:d7}{x:V}{v:d6}(rx:RelV x v)(fx:flatV x=true):∀ {xs:List V}{us:List d6},Vals xs us->xs.all flatV=true->∀ u∈us,SeqAt.EqAt A s u v (eqU x u)
 | _,_,.nil,_=>λ u hu=>by cases hu
 | y::xs,u::us,.cons r t,f=>λ u' hu=>by
  rw[List.all_cons,uaj] at f
  rcases j0.mp hu with rfl | hu
  ·rw[qX r f.1];exact zcq r rx f.1 fx
  ·exact fT rx fx t f.2 u' hu
def inV (x:V)(xs:List V):Bool:=xs.any λ y=>eqV y x
inductive rIn_i (K:c6)(neg:Bool)(x:V)(y:V)(H:Hp)(Q:VK):Prop
 | mk:∀ p xs,(y=.ref p)->((SqL K H p xs\/SqT K H p xs))->(flatV x=true)->(xs.all flatV=true)->(Q (.bl (if neg then !inV x xs else inV x xs)) H)->rIn_i K neg x y H Q
def rIn (K:c6)(neg:Bool):R2:=λ x y H Q=>rIn_i K neg x y H Q
theorem mM:OpR X (compareOp .In) (rIn X.K false):=by
 intro pins s σ H x y v u Q I rx ry h
 obtain⟨p,xs,rfl,hq,fx,fs,q⟩:=h
 cases ry
 rcases hq with hq | hq
 ·obtain⟨its,r,pl,hz⟩:=I.list hq
  refine SeqAt.in_listAt (eqU x) pl.isList (λ w hw=>fT rx fx r fs w (by simpa using hw)) ⟨.bl _,H,I,rfl,?_⟩
  rw[show its.toArray.any (eqU x)=its.any (eqU x) by simp,gA r fs]
  exact q
 ·obtain⟨its,r,pl,hz⟩:=I.tuple hq
  refine SeqAt.in_tupleAt (eqU x) pl (λ w hw=>fT rx fx r fs w (by simpa using hw)) ⟨.bl _,H,I,rfl,?_⟩
  rw[show its.toArray.any (eqU x)=its.any (eqU x) by simp,gA r fs]
  exact q
theorem kY:OpR X (compareOp .NotIn) (rIn X.K true):=by
 intro pins s σ H x y v u Q I rx ry h
 obtain⟨p,xs,rfl,hq,fx,fs,q⟩:=h
 cases ry
 rcases hq with hq | hq
 ·obtain⟨its,r,pl,hz⟩:=I.list hq
  refine SeqAt.notIn_listAt (eqU x) pl.isList (λ w hw=>fT rx fx r fs w (by simpa using hw)) ⟨.bl _,H,I,rfl,?_⟩
  rw[show its.toArray.any (eqU x)=its.any (eqU x) by simp,gA r fs]
  exact q
 ·obtain⟨its,r,pl,hz⟩:=I.tuple hq
  refine SeqAt.notIn_tupleAt (eqU x) pl (λ w hw=>fT rx fx r fs w (by simpa using hw)) ⟨.bl _,H,I,rfl,?_⟩
  rw[show its.toArray.any (eqU x)=its.any (eqU x) by simp,gA r fs]
  exact q
inductive call_len_seq_i (K:c6)(xs:List V)(H:Hp)(Q:VK):Prop
 | mk:∀ p ys,(xs=[.ref p])->((SqL K H p ys\/SqT K H p ys))->(Q (.int ys.length) H)->call_len_seq_i K xs H Q
theorem cM:CallR X (.builtin "len") (call_len_seq_i X.K):=by
 intro pins s σ H xs us Q I r h
 obtain⟨p,ys,rfl,hq,q⟩:=h
 obtain⟨u,rfl,rx⟩:=vals1 r
 cases rx
 have hn:=line63
 rcases hq with hq | hq
 ·obtain⟨its,r',pl,hz⟩:=I.list hq
  have hlen:=r'.length
  exact Calls.call_len_list pl.isList (by simp only [i8] <;> left) ⟨.int ys.length,H,I.tok _,⟨s.toks+1,by rw[i8,hlen]⟩,q⟩
 ·obtain⟨its,r',pl,hz⟩:=I.tuple hq
  have hlen:=r'.length
  exact len_tuple pl (by simp only [i8] <;> left) ⟨.int ys.length,H,I.tok _,⟨s.toks+1,by rw[i8,hlen]⟩,q⟩
inductive call_list_of_i (K:c6)(xs:List V)(H:Hp)(Q:VK):Prop
 | mk:∀ p ys,(xs=[.ref p])->((SqL K H p ys\/SqT K H p ys))->(∀ l,H l=none->Q (.ref l) (upd H l (.lst ys)))->call_list_of_i K xs H Q
theorem uJ:CallR X (.type "list") (call_list_of_i X.K):=by
 intro pins s σ H xs us Q I r h
 obtain⟨p,ys,rfl,hq,q⟩:=h
 obtain⟨u,rfl,rx⟩:=vals1 r
 cases rx
 have fin : ∀ (its : List d6), Vals ys its → ys.length <= v5 → ∀ (h' : Heap)(c' : Nat), (∀ b o', s.heap.get? b = some o' → h'.get? b = some o') →
     h'.get? s.heap.objs.size=some { cls:=.type "list",dict:=none,data:=.seq its.toArray c',slots:=#[] }->EP X pins σ Q (.ref s.heap.objs.size) { s with heap:=h' }:=λ its r' hz h' c' kp e =>
  ⟨.ref s.heap.objs.size,_,I.laid (t':=s.toks) kp (h9 _) (show ObjOk X.prog X.w _ h' _ (.lst ys) from ⟨hz,its,c',r',e⟩),rfl,q _ (I.hok.fresh (h9 _))⟩
 rcases hq with hq | hq
 ·obtain⟨its,r',pl,hz⟩:=I.list hq
  have hlen:=r'.length
  obtain⟨o,ho,hc,n,hd⟩:=pl.isList
  exact call_list_seq p (.inl rfl) ho hc hd (λ h' c' kp e=>fin its r' hz h' c' kp e) (by simp only [i8] <;> left)
 ·obtain⟨its,r',pl,hz⟩:=I.tuple hq
  have hlen:=r'.length
  obtain⟨o,ho,hc,n,hd⟩:=pl
  exact call_list_seq p (.inr rfl) ho hc hd (λ h' c' kp e=>fin its r' hz h' c' kp e) (by simp only [i8] <;> left)
inductive call_tuple_of_i (K:c6)(xs:List V)(H:Hp)(Q:VK):Prop
 | mk:∀ p ys,(xs=[.ref p])->(((SqL K H p ys/\∀ l,H l=none->Q (.ref l) (upd H l (.tup ys)))\/(SqT K H p ys/\Q (.ref p) H)))->call_tuple_of_i K xs H Q
theorem gG:CallR X (.type "tuple") (call_tuple_of_i X.K):=by
 intro pins s σ H xs us Q I r h
 obtain⟨p,ys,rfl,h⟩:=h
 obtain⟨u,rfl,rx⟩:=vals1 r
 cases rx
 rcases h with ⟨hq,q⟩ | ⟨hq,q⟩
 ·obtain⟨its,r',pl,hz⟩:=I.list hq
  have hlen:=r'.length
  refine call_tuple_list pl.isList (λ h' kp=>?_) (by simp only [i8] <;> left)
  have I1:Inv X pins σ H { s with heap:=h' }:=I.kept (t':=s.toks) kp
  have I2:Inv X pins σ (upd H h'.objs.size (.tup ys)) { s with heap:=h'.push { cls:=.type "tuple",data:=.seq its.toArray } } :=
   I1.laid (t':=s.toks) (λ b o e=>b9 _ e) (h9 _) (show ObjOk X.prog X.w _ _ _ (.tup ys) from ⟨hz,its,r',TupN.new _ _⟩)
  exact⟨.ref h'.objs.size,_,I2,rfl,q _ (I1.hok.fresh (h9 _))⟩
 ·obtain⟨its,r',pl,hz⟩:=I.tuple hq
  exact call_tuple_same pl ⟨.ref p,H,I,rfl,q⟩
def tyV (K:c6)(T:String)(x:V)(H:Hp):Prop:=match x with
 | .str _=>T="str"
 | .int _=>T="int"
 | .ref p => (T = "list" /\ ∃ xs, SqL K H p xs) \/ (T = "tuple" /\ ∃ o, K.lookup p = some o /\ o.cls = .type "tuple" /\ o.dict = none) \/
     (T="dict"/\((∃ kvs,H p=some (.dK kvs))\/∃ kvs,H p=some (.dT kvs)))\/(T="set"/\∃ S n,H p=some (.set S n))
 | _=>False
theorem qL {pins:List (j9 × Obj)}{σ:St}{H:Hp}{s:d7}{T:String}{x:V}{v:d6}(I:Inv X pins σ H s)(r:RelV x v)(ty:tyV X.K T x H) :
  s.TypeIs v T/\∀ a,v=.ref a->∃ ob,s.heap.get? a=some ob/\ob.dict=none:=by
 cases x with
 | str z =>
  obtain⟨t,rfl⟩:=r
  cases (show T="str" from ty)
  exact⟨typeIs_str s z t,λ _ e=>nomatch e⟩
 | int i =>
  obtain⟨t,rfl⟩:=r
  cases (show T="int" from ty)
  exact⟨typeIs_int s i t,λ _ e=>nomatch e⟩
 | ref p =>
  cases r
  rcases ty with ⟨rfl,xs,hq⟩ | ⟨rfl,o,hk,hc,hd⟩ | ⟨rfl,hk⟩ | ⟨rfl,S,n,hk⟩
  ·obtain⟨its,_,pl,_⟩:=I.list hq
   refine⟨pl.isList.typeIs,λ a e=>?_⟩
   cases e
   obtain⟨o,n,e,c,hd,_⟩:=pl
   exact⟨o,e,hd⟩
  ·refine⟨⟨o,I.kIn p o hk,hc⟩,λ a e=>?_⟩
   cases e
   exact⟨o,I.kIn _ o hk,hd⟩
  ·have z:∃ o,s.heap.get? p=some o/\o.ExactDict:=by
    rcases hk with ⟨kvs,hk⟩ | ⟨kvs,hk⟩
    ·obtain⟨_,_,_,_,o,_,_,e,ex,_⟩:=I.hok p _ hk
     exact⟨o,e,ex⟩
    ·obtain⟨_,_,_,_,o,_,_,e,ex,_⟩:=I.hok p _ hk
     exact⟨o,e,ex⟩
   obtain⟨o,e,ex⟩:=z
   refine⟨⟨o,e,ex.1⟩,λ a e2=>?_⟩
   cases e2
   exact⟨o,e,ex.2.1⟩
  ·obtain⟨o,_,_,_,e,ex,_⟩:=I.hok p _ hk
   refine⟨⟨o,e,ex.1⟩,λ a e2=>?_⟩
   cases e2
   exact⟨o,e,ex.2.1⟩
 | _=>exact False.elim ty
def tBM0 (K:c6)(T:String)(r:V->List V->Hp->VK->Prop)(to:TE):TE:=λ σ H Q=>to σ H λ x H1=>tyV K T x H1/\r x [] H1 Q
def tBM (K:c6)(T:String)(r:V->List V->Hp->VK->Prop)(to:TE)(t:TA):TE:=λ σ H Q=>to σ H λ x H1=>tyV K T x H1/\t σ H1 λ xs H2=>r x xs H2 Q
variable {o e:ucg}{es:List ucg}{to:TE}{t:TA}{name:Str}{apos cpos:Pos}{T id:String}{r:V->List V->Hp->VK->Prop}
theorem zca (pa:PlainAttrs T)(slot:Slot T name id)(hty:typeOf (.builtin id)=pure (.type "method_descriptor"))(hm:MtR X id r)(ho:PE X o to)
  (hbase:attributeBase o name X.env (eval o X.env)=eval o X.env:=by rfl) (hline:(apos.endLine==cpos.line)=true:=by rfl):PE X (.Call (.Attribute o name apos) [] [] cpos) (tBM0 X.K T r to):=by
 intro pins s σ H Q I h
 refine wpAny_Call_method0_late hbase hline (thn (ho pins s σ H _ I h) λ v s1 ⟨x,H1,I1,r1,ty,q1⟩=>?_)
 obtain⟨h1,h2⟩:=qL I1 r1 ty
 exact⟨T,id,pa,slot,hty,h1,h2,Calls.callWith_builtin rfl (PySem.evalArgs_none (hm pins s1 σ H1 x [] v [] Q I1 r1 .nil q1))⟩
theorem bY (pa:PlainAttrs T)(slot:Slot T name id)(hty:typeOf (.builtin id)=pure (.type "method_descriptor"))(hm:MtR X id r)(ho:PE X o to)(ha:PA X (e::es) t)
  (hbase:attributeBase o name X.env (eval o X.env)=eval o X.env:=by rfl)
  (hfew:((backTo cpos (ubd (e::es) X.env)).all (λ x=>!x.1)&&(backToKw cpos (keywordEach [] X.env)).all (λ x=>x.1.isSome)
  &&decide ((e::es).length+([]:List Keyword).length+(if ([]:List Keyword).isEmpty then 0 else 1)<30))=true:=by rfl)
  (hline:(apos.endLine==cpos.line)=true:=by rfl) (hs:ubd (e::es) X.env=(false,eval e X.env)::ubd es X.env:=by rfl) (hplain:(backTo cpos (ubd es X.env)).any (·.1)=false:=by rfl) :
  PE X (.Call (.Attribute o name apos) (e::es) [] cpos) (tBM X.K T r to t):=by
 intro pins s σ H Q I h
 refine wpAny_Call_method_late hbase hfew hline rfl (thn (ho pins s σ H _ I h) λ v s1 ⟨x,H1,I1,r1,ty,q1⟩=>?_)
 obtain⟨h1,h2⟩:=qL I1 r1 ty
 refine⟨T,id,pa,slot,hty,h1,h2,?_⟩
 have hA:=ha cpos pins s1 σ H1 _ I1 q1
 rw[hs] at hA ⊢
 refine Calls.callWith_builtin (by show (false||(backTo cpos (ubd es X.env)).any (·.1))=false;rw[hplain] <;> rfl) (Calls.evalArgs_plain ?_)
 exact thn hA λ us s2 ⟨vs,H2,I2,r2,q2⟩=>hm pins s2 σ H2 x vs v us Q I2 r1 r2 q2
end
end L2
namespace L2
open PySem PySem.Spec PyProof.Rows
def MtM (X:Cx)(id:String)(r:V->List V->Hp->VK->Prop):Prop :=
 ∀ (pins:List (j9 × Obj))(s:d7)(σ:St)(H:Hp)(x:V)(xs:List V)(v:d6)(us:List d6)(Q:VK),Inv X pins σ H s->RelV x v->Vals xs us->r x xs H Q ->
  j8 (v6 X.prog X.w) X.A (call (.builtin id) (v::us)) (EP X pins σ Q) X.xe s
theorem Vals.one:∀ {x:V}{us:List d6},Vals [x] us->∃ u,us=[u]/\RelV x u
 | _,_,.cons r .nil=>⟨_,rfl,r⟩
theorem Vals.two:∀ {x y:V}{us:List d6},Vals [x,y] us->∃ u v,us=[u,v]/\RelV x u/\RelV y v
 | _,_,_,.cons r (.cons q .nil)=>⟨_,_,rfl,r,q⟩
theorem Vals.zero:∀ {us:List d6},Vals [] us->us=[]
 | _,.nil=>rfl
theorem Vals.dropLast {xs:List V}{us:List d6}(h:Vals xs us):Vals xs.dropLast us.dropLast:=by
 induction h with
 | nil=>exact .nil
 | cons r t ih =>
  cases t with
  | nil=>exact .nil
  | cons q t'=>exact .cons r ih
theorem Vals.eraseIdx:∀ {xs:List V}{us:List d6}(i:Nat),Vals xs us->Vals (xs.eraseIdx i) (us.eraseIdx i)
 | _,_,_,.nil=>.nil
 | _,_,0,.cons _ t=>t
 | _,_,i+1,.cons r t=>.cons r (Vals.eraseIdx i t)
theorem Vals.reverse {xs:List V}{us:List d6}(h:Vals xs us):Vals xs.reverse us.reverse:=by
 induction h with
 | nil=>exact .nil
 | cons r t ih=>rw[ub0,ub0];exact Vals.append ih (.cons r .nil)
theorem Vals.rep {xs:List V}{us:List d6}(h:Vals xs us):∀ k:Nat,Vals (o6 k xs).flatten (o6 k us).flatten
 | 0=>.nil
 | k+1=>by
  rw[ucw,ucw,udv,udv]
  exact Vals.append h (Vals.rep h k)
theorem wC {α:Type}(l:List α):l.eraseIdx (l.length-1)=l.dropLast:=by
 induction l with
 | nil=>rfl
 | cons a r ih =>
  cases r with
  | nil=>rfl
  | cons b r =>
   have e:(a::b::r).length-1=((b::r).length-1)+1:=by
    have h1:(a::b::r).length=r.length+2:=rfl
    have h2:(b::r).length=r.length+1:=rfl
    left
   rw[e,List.eraseIdx_cons_succ,ih]
   all_goals rfl
theorem mT {α:Type}:∀ (l:List α)(i:Nat),(l.eraseIdx i).length<=l.length
 | [],_=>h9 _
 | _::_,0=>ub8 _
 | _::r,i+1=>uf8 (mT r i)
theorem mX (its:List d6):∀ (k:Nat)(acc:List d6),
  ufr (λ x1 x2=>x1++x2) acc.toArray (o6 k its.toArray)=(acc++(o6 k its).flatten).toArray
 | 0,acc=>by simp
 | k+1,acc=>by
  have e:acc.toArray++its.toArray=(acc++its).toArray:=by simp
  have e2:(acc++its)++(o6 k its).flatten=acc++(o6 (k+1) its).flatten:=by
   rw[ucw,udv,ubp]
  rw[← e2,← mX its k (acc++its),← e,ucw,udd]
section
variable {X:Cx}{pins:List (j9 × Obj)}{σ:St}{H:Hp}{s:d7}{l b:j9}{xs ys zs:List V}
theorem Inv.lset {its its':List d6}{n:Nat}{f:Array d6->Array d6}{t':Nat}(I:Inv X pins σ H s)(hH:H l=some (.lst xs))
  (e:s.heap.get? l=some { cls:=.type "list",data:=.seq its.toArray n }) (hf:f its.toArray=its'.toArray) (hv:Vals ys its') (hz:ys.length<=v5) :
  Inv X pins σ (upd H l (.lst ys)) { s with heap:=s.heap.update l (Obj.mapSeq f),toks:=t' }:=by
 have q:=PySem.IsL.update e f
 rw[hf] at q
 refine I.write (x:=l) (e:=l) (by rw[hH];exact trivial) (.inl rfl) (λ b' u hb hu=>(v8 s.heap (Obj.mapSeq f) (Ne.symm hb)).trans hu) ⟨_,q⟩ ?_
 exact⟨hz,its',_,hv,q⟩
theorem Inv.lnew {its:List d6}{t':Nat}(I:Inv X pins σ H s)(hv:Vals ys its)(hz:ys.length<=v5) :
  Inv X pins σ (upd H s.heap.objs.size (.lst ys)) { s with heap:=s.heap.push { cls:=.type "list",data:=.seq its.toArray },toks:=t' } :=
 I.laid (λ _ _ q=>b9 _ q) (h9 _) ⟨hz,its,0,hv,i6 _ rfl⟩
theorem Inv.fresh (I:Inv X pins σ H s):H s.heap.objs.size=none:=I.hok.fresh (h9 _)
theorem Inv.lstM (I:Inv X pins σ H s)(hH:H l=some (.lst xs)):xs.length<=v5/\∃ (its:List d6)(n:Nat),Vals xs its/\xs.length=its.length/\s.heap.get? l=some { cls:=.type "list",data:=.seq its.toArray n }:=by
 obtain⟨z,its,n,r,e⟩:=I.hok l _ hH
 exact⟨z,its,n,r,r.length,e⟩
theorem notLongL {n:Nat}(h:n<=v5):Builtin.List.listTooLong n=false:=by
 unfold Builtin.List.listTooLong
 exact uha (by left)
end
section
variable {X:Cx}
inductive rAppend_i  (x:V) (vs:List V) (H:Hp) (Q:VK):Prop
 | mk:∀ l xs y,(x=.ref l)->(vs=[y])->(H l=some (.lst xs))->(xs.length<v5)->(Q .non (upd H l (.lst (xs++[y]))))->rAppend_i x vs H Q
def rAppend :V->List V->Hp->VK->Prop:=λ x vs H Q=>rAppend_i x vs H Q
theorem gN:MtM X "list.append" rAppend:=by
 intro pins s σ H x vs v us Q I rx rv h
 obtain⟨l,xs,y,rfl,rfl,hH,hz,q⟩:=h
 cases rx
 obtain⟨u,rfl,ru⟩:=rv.one
 obtain⟨z,its,n,r,hl,e⟩:=I.lstM hH
 refine ufb F.slot_list_append ⟨_,e,rfl⟩ F.entry_list_append (F.args_list_append_2 _ _) (PySem.list_append l its.toArray n u (by rw[i8];left)) ⟨e,?_⟩
 refine⟨.non,_,I.lset (its':=its++[u]) hH e (by simp) (r.append (.cons ru .nil)) ?_,rfl,q⟩
 rw[i9,u5]
 left
inductive rExtend_i  (x:V) (vs:List V) (H:Hp) (Q:VK):Prop
 | mk:∀ l b xs zs,(x=.ref l)->(vs=[.ref b])->(H l=some (.lst xs))->(H b=some (.lst zs))->(xs.length+zs.length<=v5)->(Q .non (upd H l (.lst (xs++zs))))->rExtend_i x vs H Q
def rExtend :V->List V->Hp->VK->Prop:=λ x vs H Q=>rExtend_i x vs H Q
theorem mR:MtM X "list.extend" rExtend:=by
 intro pins s σ H x vs v us Q I rx rv h
 obtain⟨l,b,xs,zs,rfl,rfl,hH,hB,hz,q⟩:=h
 cases rx
 obtain⟨u,rfl,ru⟩:=rv.one
 cases ru
 obtain⟨z,its,n,r,hl,e⟩:=I.lstM hH
 obtain⟨z2,its2,n2,r2,hl2,e2⟩:=I.lstM hB
 have hsz:its.toArray.size+its2.toArray.size<=v5:=by rw[i8,i8];left
 have hlong:¬ (!its.toArray.isEmpty&&Builtin.List.listTooLong (its.toArray.size+its2.toArray.size))=true:=by
  rw[notLongL hsz,Bool.and_false]
  exact j6
 refine ufb F.slot_list_extend ⟨_,e,rfl⟩ F.entry_list_extend (F.args_list_extend_2 _ _)
  (AutoSeq1.list_extend_list_list_0 l its.toArray n b its2.toArray n2 hlong (by rw[i8];left) (by left)) ⟨e,e2,?_⟩
 refine⟨.non,_,I.lset (its':=its++its2) hH e (by simp) (r.append r2) ?_,rfl,q⟩
 rw[i9]
 left
inductive rPop_i  (x:V) (vs:List V) (H:Hp) (Q:VK):Prop
 | mk:∀ l xs y,(x=.ref l)->(vs=[])->(H l=some (.lst xs))->(xs[xs.length-1]?=some y)->(Q y (upd H l (.lst xs.dropLast)))->rPop_i x vs H Q
def rPop :V->List V->Hp->VK->Prop:=λ x vs H Q=>rPop_i x vs H Q
theorem zci:MtM X "list.pop" rPop:=by
 intro pins s σ H x vs v us Q I rx rv h
 obtain⟨l,xs,y,rfl,rfl,hH,hy,q⟩:=h
 cases rx
 have hus:=rv.zero
 subst hus
 obtain⟨z,its,n,r,hl,e⟩:=I.lstM hH
 obtain⟨u,hu,ru⟩:=r.get hy
 have hy':its.toArray[its.toArray.size-1]?=some u:=by
  show its.toArray[its.length-1]?=some u
  rw[← ubn,← hl]
  exact hu
 refine ufb F.slot_list_pop ⟨_,e,rfl⟩ F.entry_list_pop (F.args_list_pop_1 _) (MeetsSeq.list_pop_last l its.toArray n u hy' (by rw[i8];left)) ⟨e,?_⟩
 refine⟨y,_,I.lset (its':=its.dropLast) hH e ?_ r.dropLast ?_,ru,q⟩
 ·show its.toArray.eraseIdxIfInBounds (its.toArray.size-1)=its.dropLast.toArray
  rw[i8,ufs,wC]
 ·rw[List.length_dropLast]
  left
inductive rPopAt_i  (x:V) (vs:List V) (H:Hp) (Q:VK):Prop
 | mk:∀ l xs i k y,(x=.ref l)->(vs=[.int i])->(H l=some (.lst xs))->(-(2^63)<=i)->(i<2^63)->(seqIndex? i xs.length=some k)->(xs[k]?=some y)->(Q y (upd H l (.lst (xs.eraseIdx k))))->rPopAt_i x vs H Q
def rPopAt :V->List V->Hp->VK->Prop:=λ x vs H Q=>rPopAt_i x vs H Q
theorem zV:MtM X "list.pop" rPopAt:=by
 intro pins s σ H x vs v us Q I rx rv h
 obtain⟨l,xs,i,k,y,rfl,rfl,hH,h1,h2,hk,hy,q⟩:=h
 cases rx
 obtain⟨u,rfl,ru⟩:=rv.one
 obtain⟨t,rfl⟩:=ru
 obtain⟨z,its,n,r,hl,e⟩:=I.lstM hH
 obtain⟨w,hw,rw'⟩:=r.get hy
 refine ufb F.slot_list_pop ⟨_,e,rfl⟩ F.entry_list_pop (F.args_list_pop_2 _ _)
  (MeetsSeq.list_pop_at l its.toArray n i t k w (fitsIndex_both h1 h2) (by rw[i8,← hl];exact hk) (by rw[← ubn];exact hw) (by rw[i8];left)) ⟨e,?_⟩
 refine⟨y,_,I.lset (its':=its.eraseIdx k) hH e ?_ (r.eraseIdx k) ?_,rw',q⟩
 ·show its.toArray.eraseIdxIfInBounds k=(its.eraseIdx k).toArray
  rw[ufs]
 ·have:=mT xs k
  left
inductive rRep_i  (x:V) (y:V) (H:Hp) (Q:VK):Prop
 | mk:∀ l k xs,(x=.ref l)->(y=.int k)->(H l=some (.lst xs))->(-(2^63)<=k)->(k<2^63)->(xs.length*k.toNat<=v5)->(∀ p,H p=none->Q (.ref p) (upd H p (.lst (o6 k.toNat xs).flatten)))->rRep_i x y H Q
def rRep :R2:=λ x y H Q=>rRep_i x y H Q
theorem zbh {α:Type}(xs:List α)(k:Nat):(o6 k xs).flatten.length=k*xs.length:=by
 induction k with
 | zero=>simp
 | succ k ih=>rw[ucw,udv,i9,ih,Nat.succ_mul,ufx]
theorem zcc:OpR X (binaryOp .Mult) rRep:=by
 intro pins s σ H x y v u Q I rx ry h
 obtain⟨l,k,xs,rfl,rfl,hH,h1,h2,hz,q⟩:=h
 cases rx
 obtain⟨t,rfl⟩:=ry
 obtain⟨z,its,n,r,hl,e⟩:=I.lstM hH
 have hlen:its.toArray.size*k.toNat<=v5:=by rw[i8,← hl];exact hz
 have hcap:¬ its.toArray.size*k.toNat>(2^63-1) / 8:=by
  have:(v5:Nat)<=(2^63-1) / 8:=by decide
  left
 have hfit:¬ (!Builtin.List.listFitsIndex k)=true:=by
  rw[fitsIndex_both h1 h2]
  exact j6
 have hlong:¬ Builtin.List.listTooLong (its.toArray.size*k.toNat)=true:=by
  rw[notLongL hlen]
  exact j6
 have hnew:ufr (λ x1 x2=>x1++x2) #[] (o6 (if its.toArray.isEmpty=true then 0 else k.toNat) its.toArray)=(o6 k.toNat its).flatten.toArray:=by
  have f0:∀ m:Nat,ufr (λ x1 x2=>x1++x2) #[] (o6 m its.toArray)=(o6 m its).flatten.toArray:=λ m=>by
   have:=mX its m []
   rw[ucn] at this
   exact this
  rw[f0]
  cases its with
  | nil=>simp
  | cons a r'=>rw[uhd (by simp)]
 refine wpAny_binaryOp_repeat_ref (T:="list") (U:="int") (by decide) ⟨_,e,rfl⟩ (λ s'=>typeIs_int s' k t) noFill_list_mul F.fills_int_mul F.slot_int_rmul repeat_list F.slot_int_index.lookup
  (ufb F.slot_int_rmul (typeIs_int s k t) F.entry_int_rmul (F.args_int_rmul_2 _ _) (int___rmul___int_list k t l its.toArray n)
   ⟨e,rfl,⟨_,e,rfl⟩,ufb F.slot_list_mul ⟨_,e,rfl⟩ F.entry_list_mul (F.args_list_mul_2 _ _) (AutoListH.list___mul___list_int_3 l its.toArray n k t hfit hcap hlong) ⟨e,?_⟩⟩)
 rw[hnew]
 exact⟨.ref _,_,I.lnew (t':=s.toks) (r.rep k.toNat) (by rw[zbh,Nat.mul_comm];exact hz),rfl,q _ I.fresh⟩
end
section
variable {prog:m5}{w:ual}{A:uaf}{E:d6->d7->Prop}{s:d7}
end
section
variable {X:Cx}
end
end L2
namespace Att
open PySem PySem.W PySem.Calls PyProof.Rows
theorem sE {P:Params}{h:Heap}:∀ (ns:List Int)(vs:List d6),WellAll P h vs (ns.map WData.int)->IntsAre vs ns:=by
 intro ns
 induction ns with
 | nil =>
  intro vs w
  rw[List.map_nil] at w
  cases w
  exact .nil
 | cons n ns ih =>
  intro vs w
  rw[ucf] at w
  cases w with
  | cons a b =>
   cases a
   exact .cons _ _ (ih _ b)
theorem wZ {l:OpenLaw}{n:Nat}(hn:l.most=some n){P:Params}{h:Heap}{args:List WData}{vals:List d6}
  (hpre:l.row.toRowW.claim.pre args=true) (hwl:WellAll P h vals args) :
  ∃ a vs ns,vals=[Value.ref a]/\args=[WData.list (ns.map WData.int)]/\h.get? a=some { cls:=.type "list",data:=.seq vs.toArray }/\IntsAre vs ns/\ns.length<=n:=by
 have hsh:WShape.hasAll [] args [.list .int]=true:=(pre_splitW hpre).1
 have hc:l.pre.holds [] { args:=args }=true:=(pre_splitW hpre).2
 obtain⟨d,r,rfl,h1,h2⟩:=hasAllW_cons hsh
 obtain rfl:=hasAllW_nil h2
 obtain⟨xs,rfl,h3⟩:=hasW_list h1
 obtain⟨ns,rfl⟩:=items_int h3
 have hlen:ns.length<=n:=by
  unfold OpenLaw.pre at hc
  have h4:(WTm.not (.lt (.lit (.int (n:Int))) (.len (.arg 0)))).holds [] { args:=[.list (ns.map .int)] }=true:=by
   have h4:=(holds_andW hc).1
   rw[hn] at h4
   exact h4
  have h5:=condW_of h4 (w_not (w_lt w_lit (w_len_list (w_arg rfl))))
  rw[c9] at h5
  refine Nat.le_of_not_lt λ q=>?_
  have q':(n:Int)<((ns.length:Nat):Int):=by left
  first
   | (rw[ug8 q'] at h5;exact absurd h5 (by decide))
   | (simp at h5;left)
 cases hwl with
 | cons w1 w2 =>
  cases w2
  cases w1 with
  | list ho hall=>exact⟨_,_,ns,rfl,rfl,ho,sE ns _ hall,hlen⟩
theorem xE (l:OpenLaw)(args:List WData):l.row.toRowW.claim.post args (.bool true) args=true :=
 postW_of (r:=l.row.toRowW) (X:=(true==true))
  (show WShape.has [] (.bool true) .bool=true by first | rfl | decide | simp [WShape.has,WShape.arms,WShape.armsAll])
  (show (WTm.eq .res (.lit (.bool true))).value [] { args:=args,res:=some (.bool true),after:=args }=some (.bool (true==true)) from w_eq_bool (w_res rfl) w_lit) rfl
theorem attach_call {l:OpenLaw}{n:Nat}{q:m5}{loose:List Str}{XP:(Str->Option d6)->Heap->Prop}{YP:ual->Heap->Prop}{d:DefRec}
  (hn:l.most=some n) (hdf:d.params.defaults=[])
  (call:∀ (w:ual)(s₀ s₁:d7)(mg mb:Str->Option d6)(fa:j9)(o:Obj)(pm cd doc:d6)(a:j9)(vs:List d6)(ns:List Int),
   Ground q loose [] XP w s₀ mg mb s₁.heap->YP w s₁.heap ->
   s₁.heap.get? fa=some o->o.data=.func (docDef d.name d.params d.body d.scope pm cd doc)->s₁.heap.CodeRec cd d.name->mg d.name=some (.ref fa) ->
   s₁.heap.get? a=some { cls:=.type "list",data:=.seq vs.toArray }->IntsAre vs ns->ns.length<=n->s₁.gens=#[] ->
   codeAny (v6 l.prog w) callerA (.call (.ref fa) ⟨[.ref a],[]⟩) (λ r s'=>r=.ok (.ret (.bool true))/\OldK s₁.heap s'.heap/\s'.os=s₁.os/\AllBare s'.gens) s₁) :
  WalkO q loose XP YP l.row.toRowW d [] (λ f vs=>PySem.call f vs):=by
 intro w s₀ s₁ mg mb G Y fa o pm cd doc dV kV ho hd hcd hD hmg hg args vals as hpre hlay hrd hwl hlo
 obtain rfl:dV=.none:=Dflts.none hD hdf
 obtain rfl:kV=.none:=Dflts.noKw hD
 obtain⟨a,vs,ns,rfl,rfl,hobj,hints,hlen⟩:=wZ hn hpre hwl
 refine enter_call (udh (call w s₀ s₁ mg mb fa o pm cd doc a vs ns G Y ho (fd_plain hd) hcd hmg hobj hints hlen hg) λ r s' hq=>?_)
 obtain⟨rfl,h2,h3,h4⟩:=hq
 exact⟨.inl ⟨.bool true,.bool true,[],rfl,λ _=>rfl,.bool true,xE l _,λ _=>⟨ugp,λ _ hm=>(nomatch hm)⟩⟩,h2,h3,h4⟩
section
variable {prog:m5}{w:ual}{A:uaf}{E:d6->d7->Prop}{s:d7}{K:Frag}
end
end Att
namespace L2
open PySem PySem.Spec PyProof.Rows
theorem lZ:∀ {vs:List d6}{ns:List Int},IntsAre vs ns->Vals (ns.map V.int) vs
 | _,_,.nil=>.nil
 | _,_,.cons n t h=>.cons ⟨t,rfl⟩ (lZ h)
end L2
namespace L2
open PySem PySem.Spec PyProof.Rows
end L2
namespace L2
open PySem PySem.Spec PyProof.Rows
def defArgs (s:ude):Arguments:=match s with
 | .FunctionDef _ a _ _ _ _ _ _ _ _=>a
 | _=>{ posonlyargs:=[],args:=[],vararg:=none,kwonlyargs:=[],kw_defaults:=[],kwarg:=none,defaults:=[] }
def defBody (s:ude):List ude:=match s with
 | .FunctionDef _ _ b _ _ _ _ _ _ _=>b
 | _=>[]
def defScope (s:ude):ueh:=match s with
 | .FunctionDef _ _ _ _ _ _ sc _ _ _=>sc
 | _=>{ kind:=.function,names:=[],isGenerator:=false,isCoroutine:=false }
abbrev CX0:CXT:=λ _ _ _ _ _ _=>False
abbrev E0:XK:=λ _ _ _=>False
theorem pass0 {X:Cx}:Passes CX0 X E0:=λ _ _ _ _ _ _ _ h=>h.elim
structure Fun (K:c6)(x qual:Str)(st:ude)(f:j9)(fd:ub7):Prop where
 ex:∃ (oc:d6)(od:Option j9)(kV doc pm:d6)(an:Option j9)(cdv ct:d6)(osl:Array (Option d6)),
  fd=ubf x qual (defArgs st) (defBody st) (defScope st) .none kV doc pm an cdv ct/\K.lookup f=some ⟨oc,od,.func fd,osl⟩/\ucu K cdv qual=true
 kp:ub3 K (.ref f)=true
section
variable {P:m5}{w:ual}{K:c6}{mg:Str->Option d6}{base:Heap}
theorem Fun.ok {x qual:Str}{st:ude}{f:j9}{fd:ub7}{N ps:List Str}{k:Nat}{sp:Sp}(F:Fun K x qual st f fd)(S:FnScope N ps (defScope st))(len:∀ vs H Q E,sp vs H Q E->vs.length=ps.length)
  (hbody:∀ (cdv:d6)(A:uaf)(outer:List Env)(s:d7)(H:Hp)(vs:List V)(Q:VK)(E:XK),Room k (A.deeper (envOfC qual (defScope st) s.heap.objs.size f cdv))->sp vs H Q E ->
   ∃ t,PSs (cxOf CX0 P w K mg base N qual (defScope st) f cdv A outer s H E).nox (defBody st) t/\t { nx:=λ _ H'=>Q .non H',rt:=Q } (start N vs) H):FnOk P w K mg base CX0 (k+1) f fd ps sp:=by
 obtain⟨oc,od,kV,doc,pm,an,cdv,ct,osl,rfl,lk,hcd⟩:=F.ex
 refine rH lk hcd S len λ A outer s H vs Q E hr hsp=>?_
 obtain⟨t,h,q⟩:=hbody cdv A outer s H vs Q E hr hsp
 exact⟨t,h.nox,q⟩
theorem Fun.binds {x qual:Str}{st:ude}{f:j9}{fd:ub7}{ps:List Str}(F:Fun K x qual st f fd)
  (h:∀ (kV doc pm:d6)(an:Option j9)(cdv ct:d6)(us:List d6),us.length=ps.length->bindArgs (ubf x qual (defArgs st) (defBody st) (defScope st) .none kV doc pm an cdv ct) ⟨us,[]⟩=pure (ps.zip us)):Binds K fd ps []:=by
 obtain⟨oc,od,kV,doc,pm,an,cdv,ct,osl,rfl,lk,hcd⟩:=F.ex
 exact .all (h kV doc pm an cdv ct)
theorem kH {x qual:Str}{st:ude}{f:j9}{oc:d6}{od an:Option j9}{osl:Array (Option d6)}{kV doc pm cdv ct:d6}(l:K.lookup f=some ⟨oc,od,.func (ubf x qual (defArgs st) (defBody st) (defScope st) .none kV doc pm an cdv ct),osl⟩)
  (c:ucu K cdv qual=true) (k:ub3 K (.ref f)=true):Fun K x qual st f (ubf x qual (defArgs st) (defBody st) (defScope st) .none kV doc pm an cdv ct):=⟨⟨oc,od,kV,doc,pm,an,cdv,ct,osl,rfl,l,c⟩,k⟩
end
section
variable {X:Cx}
theorem pv (i:Nat){x:Str}{pos:Pos}(hN:X.N[i]?=some x:=by rfl)(hv:Vis X.env.scope x:=by first | exact k8 rfl | exact ue1 (k8 rfl) | exact ue1 (ue1 rfl))(hd:(x==("__debug__":Str))=false:=by decide)
  (hcd:(x==("__classdict__":Str))=false:=by decide):PE X (.Name x pos) (tVar i):=zb8 hN hv hd hcd
end
theorem iteF {A B:Prop}(h:B):if false=true then A else B:=by
 rw[uhd j6]
 exact h
theorem iteT {A B:Prop}(h:A):if true=true then A else B:=by
 rw[uhc rfl]
 exact h
theorem ite2 {c A B:Prop}[Decidable c](h1:c->A)(h2:¬ c->B):if c then A else B:=by
 by_cases h:c
 ·rw[uhc h]
  exact h1 h
 ·rw[uhd h]
  exact h2 h
theorem iteNS {c A B:Prop}[Decidable c](hc:c)(h:B):if (!decide c)=true then A else B:=by
 rw[ug8 hc]
 exact iteF h
def Same (H H':Hp):Prop:=∀ b o,H b=some o->H' b=some o
theorem Same.refl (H:Hp):Same H H:=λ _ _ h=>h
theorem Same.trans {H H1 H2:Hp}(a:Same H H1)(b:Same H1 H2):Same H H2:=λ c o h=>b c o (a c o h)
theorem Same.free {H H':Hp}(e:Same H H'){l:j9}(h:H' l=Option.none):H l=Option.none:=by
 cases q:H l with
 | none=>rfl
 | some o =>
  rw[e l o q] at h
  cases h
end L2
namespace L2
open PySem PySem.Spec PyProof.Rows
section
variable {κ:Type}[DecidableEq κ]
def valV (kvs:List (κ × V))(k:κ):Option V:=(kvs.find? λ kv=>decide (kv.1=k)).map (·.2)
def putK (kvs:List (κ × V))(k:κ)(v:V):List (κ × V) :=
 if (kvs.any λ kv=>decide (kv.1=k))=true then kvs.map (λ kv=>if kv.1=k then (kv.1,v) else kv) else kvs++[(k,v)]
def dropK (kvs:List (κ × V))(k:κ):List (κ × V):=kvs.filter λ kv=>decide (kv.1≠k)
theorem RelO.getD {o:Option V}{u:Option d6}{d:V}{d':d6}(r:RelO o u)(rd:RelV d d'):RelV (o.getD d) (u.getD d'):=by
 cases o with
 | none=>cases u with
  | none=>exact rd
  | some _=>exact (show False from r).elim
 | some _=>cases u with
  | none=>exact (show False from r).elim
  | some _=>exact r
theorem KV.length {kvs:List (κ × V)}{vs:List (κ × d6)}(r:KV kvs vs):kvs.length=vs.length:=Paired.length r
end
abbrev KT (H:Hp):List (List Key × V)->List (List Key × j9 × d6)->Prop:=Paired λ p q=>p.1=q.1/\H q.2.1=some (.tup (p.1.map kV))/\RelV p.2 q.2.2
section
variable {P:m5}{w:ual}{H:Hp}{h:Heap}{a:j9}
end
def DGet (H:Hp)(a:j9)(y:V)(r:Option V):Prop :=
 (∃ kvs k,Rd H a (.dK kvs)/\y=kV k/\r=valV kvs k)\/∃ kvs k b,Rd H a (.dT kvs)/\y=.ref b/\H b=some (.tup (k.map kV))/\r=valV kvs k
def DPut (H:Hp)(a:j9)(y v:V)(H':Hp):Prop :=
 (∃ kvs k,H a=some (.dK kvs)/\y=kV k/\kvs.length<v5/\H'=upd H a (.dK (putK kvs k v))) \/
 ∃ kvs k b,H a=some (.dT kvs)/\y=.ref b/\H b=some (.tup (k.map kV))/\kvs.length<v5/\H'=upd H a (.dT (putK kvs k v))
section
variable {X:Cx}{pins:List (j9 × Obj)}{σ:St}{H:Hp}{s:d7}{a:j9}{y v:V}{u r:d6}{o:Option V}{A:uaf}{E:d6->d7->Prop}
end
section
variable {X:Cx}{pins:List (j9 × Obj)}{σ:St}{H:Hp}{s:d7}{a:j9}{kvs:List (Key × V)}{k:Key}{u:d6}{A:uaf}{E:d6->d7->Prop}
end
section
variable {X:Cx}{o i e value:ucg}{pos pos' tpos:Pos}{td ty tv:TE}
end
section
variable {X:Cx}{pos:Pos}
end
end L2
set_option maxHeartbeats 4000000
namespace Srt
open PySem PySem.W PyProof.Rows
section
variable {N:Nat}{r:Nat->Int}{cmp:Nat->Nat->(Bool->d7->Prop)->d7->Prop}{s:d7}
def ky (r:Nat->Int)(p:Array Nat)(m:Nat):Int:=r (p.getD m 0)
def Up (r:Nat->Int)(p:Array Nat)(n:Nat):Prop:=∀ i j,i<=j->j<n->ky r p i<=ky r p j
def Dn (r:Nat->Int)(p:Array Nat)(n:Nat):Prop:=∀ i j,i<=j->j<n->ky r p j<=ky r p i
def Ask (N:Nat)(r:Nat->Int)(cmp:Nat->Nat->(Bool->d7->Prop)->d7->Prop)(s:d7):Prop :=
 ∀ i j C,i<N->j<N->C (decide (r i<r j)) s->cmp i j C s
def Gd (N:Nat)(p:Array Nat):Prop:=p.Perm (ueu (c7 N))
theorem Gd.sz {p:Array Nat}(g:Gd N p):p.size=N:=by
 have:=g.size_eq
 simpa using this
theorem Gd.lt {p:Array Nat}(g:Gd N p)(h:0<N)(m:Nat):p.getD m 0<N:=by
 by_cases hm:m<p.size
 ·have e:p.getD m 0=p[m]:=by simp [uej,hm]
  rw[e]
  have h1:p[m]∈p:=Array.getElem_mem hm
  have h2:p[m]∈ueu (c7 N):=g.mem_iff.mp h1
  simpa using h2
 ·have e:p.getD m 0=0:=by simp [uej,hm]
  left
theorem gE {p q:Array Nat}{i j:Nat}(h:p[i]?=q[j]?):ky r p i=ky r q j:=by
 have e:∀ (a:Array Nat)(k:Nat),a.getD k 0=(a[k]?).getD 0:=λ a k=>by
  by_cases hk:k<a.size <;> simp [uej,hk]
 unfold ky
 rw[e,e,h]
theorem kF {p:Array Nat}{i j:Nat}(hj:j<=p.size)(k:Nat):ky r (kas_rev p i j) k=if i<=k/\k<j then ky r p (i+j-1-k) else ky r p k:=by
 have e:=getElem?_mirror_all (i:=i) hj k
 by_cases h:i<=k/\k<j
 ·rw[uhc h] at e ⊢
  exact gE e
 ·rw[uhd h] at e ⊢
  exact gE e
theorem zck {p:Array Nat}{k d:Nat}(hs:k<p.size)(hd:d<=k)(m:Nat) :
  ky r (bubble p k d) m=if m=k-d then ky r p k else if k-d<m/\m<=k then ky r p (m-1) else ky r p m:=by
 have e:=getElem?_bubble hs d hd m
 by_cases h1:m=k-d
 ·rw[uhc h1] at e ⊢
  exact gE e
 ·rw[uhd h1] at e ⊢
  by_cases h2:k-d<m/\m<=k
  ·rw[uhc h2] at e ⊢
   exact gE e
  ·rw[uhd h2] at e ⊢
   exact gE e
theorem Gd.rev {p:Array Nat}(g:Gd N p)(i j:Nat):Gd N (kas_rev p i j):=(mirror_perm p i j _).trans g
theorem Gd.bub {p:Array Nat}(g:Gd N p)(i j:Nat):Gd N (bubble p i j):=(bubble_perm p i j).trans g
theorem kK (h:Ask N r cmp s)(hN:0<N){p:Array Nat}(g:Gd N p){Q:Nat->d7->Prop}:∀ f n,1<=n->Up r p n ->
  (∀ m,n<=m->m<=n+f->Up r p m->(m<n+f->ky r p m<ky r p (m-1))->Q m s)->(kas_asc p f n).kasWp cmp Q s
 | 0,n,_,hu,q=>q n (h9 _) (h9 _) hu (λ z=>absurd z (ub1 _))
 | f+1,n,h1,hu,q=>by
  refine h _ _ _ (g.lt hN _) (g.lt hN _) ?_
  by_cases c:r (p.getD n 0)<r (p.getD (n-1) 0)
  ·rw[ug8 c]
   exact q n (h9 _) (by left) hu (λ _=>c)
  ·rw[uha c]
   refine kK h hN g f (n+1) (by left) (λ i j hij hj=>?_) (λ m a b u d=>q m (by left) (by left) u (λ z=>d (by left)))
   have c':ky r p (n-1)<=ky r p n:=by unfold ky;left
   by_cases e:j=n
   ·subst e
    by_cases e2:i=j
    ·subst e2;exact uav _
    ·exact uf2 (hu i (j-1) (by left) (by left)) c'
   ·exact hu i j hij (by left)
theorem iX {p:Array Nat}{i j:Nat}(hj:j<=p.size)(v:Int)(he:∀ k,i<=k->k<j->ky r p k=v)(k:Nat):ky r (kas_rev p i j) k=ky r p k:=by
 rw[kF hj]
 split
 ·rename_i c
  rw[he _ (by left) (by left),he k c.1 c.2]
 ·rfl
theorem iE (h:Ask N r cmp s)(hN:0<N){Q:Array Nat × Nat × Nat->d7->Prop}:∀ f p n q,Gd N p->1<=n->n+f<=N->Dn r p n->q+1<=n->(∀ i,n-(q+1)<=i->i<n->ky r p i=ky r p (n-1)) ->
  (∀ p' n' q',Gd N p'->n<=n'->n'<=n+f->Dn r p' n'->q'+1<=n'->(∀ i,n'-(q'+1)<=i->i<n'->ky r p' i=ky r p' (n'-1))->Q (p',n',q') s)->(kas_desc f p n q).kasWp cmp Q s
 | 0,p,n,q,g,_,_,hd,hq,he,z=>z p n q g (h9 _) (h9 _) hd hq he
 | f+1,p,n,q,g,h1,hf,hd,hq,he,z=>by
  refine h _ _ _ (g.lt hN _) (g.lt hN _) ?_
  by_cases c:r (p.getD n 0)<r (p.getD (n-1) 0)
  ·rw[ug8 c]
   have c':ky r p n<ky r p (n-1):=c
   have dn:∀ {p':Array Nat},(∀ k,ky r p' k=ky r p k)->Dn r p' (n+1):=λ e i j hij hj=>by
    rw[e,e]
    by_cases ej:j=n
    ·subst ej
     by_cases ei:i=j
     ·subst ei;exact uav _
     ·exact uf2 (ucx c') (hd i (j-1) (by left) (by left))
    ·exact hd i j hij (by left)
   show KasT.kasWp cmp (if q>0 then kas_desc f (kas_rev p (n-(q+1)) n) (n+1) 0 else kas_desc f p (n+1) 0) Q s
   by_cases hq0:q>0
   ·rw[uhc hq0]
    have e:=iX (r:=r) (p:=p) (i:=n-(q+1)) (j:=n) (by rw[g.sz];left) (ky r p (n-1)) he
    exact iE h hN f _ (n+1) 0 (g.rev _ _) (by left) (by left) (dn e) (by left) (λ i a b=>by congr 1;left)
     (λ p' n' q' g' a b d e1 e2=>z p' n' q' g' (by left) (by left) d e1 e2)
   ·rw[uhd hq0]
    exact iE h hN f _ (n+1) 0 g (by left) (by left) (dn λ _=>rfl) (by left) (λ i a b=>by congr 1;left)
     (λ p' n' q' g' a b d e1 e2=>z p' n' q' g' (by left) (by left) d e1 e2)
  ·rw[uha c]
   refine h _ _ _ (g.lt hN _) (g.lt hN _) ?_
   by_cases d:r (p.getD (n-1) 0)<r (p.getD n 0)
   ·rw[ug8 d]
    exact z p n q g (h9 _) (by left) hd hq he
   ·rw[uha d]
    have e:ky r p n=ky r p (n-1):=by unfold ky;left
    refine iE h hN f p (n+1) (q+1) g (by left) (by left) (λ i j hij hj=>?_) (by left) (λ i a b=>?_)
     (λ p' n' q' g' a b d e1 e2=>z p' n' q' g' (by left) (by left) d e1 e2)
    ·by_cases ej:j=n
     ·subst ej
      by_cases ei:i=j
      ·subst ei;exact uav _
      ·rw[e];exact hd i (j-1) (by left) (by left)
     ·exact hd i j hij (by left)
    ·rw[show n+1-1=n by left]
     by_cases ei:i=n
     ·rw[ei]
     ·rw[e];exact he i (by left) (by left)
theorem nQ (h:Ask N r cmp s)(hN:0<N){Q:Nat × Array Nat->d7->Prop}{p:Array Nat}{n:Nat}(g:Gd N p)(h1:1<=n)(hn:n<=N)(hd:Dn r p n)
  (z:∀ m p',Gd N p'->1<=m->m<=N->Up r p' m->Q (m,p') s):(kas_tail3 n N p).kasWp cmp Q s:=by
 unfold kas_tail3
 rw[KasT.kasWp_bind]
 refine kK h hN (g.rev 0 n) _ n h1 (λ i j hij hj=>?_) (λ m a b u _=>z m _ (g.rev 0 n) (by left) (by left) u)
 rw[kF (by rw[g.sz];left),kF (by rw[g.sz];left),uhc (by left),uhc (by left)]
 exact hd _ _ (by left) (by left)
theorem lH (h:Ask N r cmp s)(hN:0<N){Q:Nat × Array Nat->d7->Prop}{p:Array Nat}{n:Nat}(g:Gd N p)(h1:1<=n)(hn:n+1<=N)(hd:Dn r p (n+1))
  (z:∀ m p',Gd N p'->1<=m->m<=N->Up r p' m->Q (m,p') s):(kas_descPart n N p).kasWp cmp Q s:=by
 unfold kas_descPart
 rw[KasT.kasWp_bind]
 refine iE h hN _ p (n+1) 0 g (by left) (by left) hd (by left) (λ i a b=>by congr 1;left) (λ p' n' q' g' a b d e1 e2=>?_)
 show KasT.kasWp cmp (if q'>0 then kas_tail3 n' N (kas_rev p' (n'-(q'+1)) n') else kas_tail3 n' N p') Q s
 by_cases hq:q'>0
 ·rw[uhc hq]
  have e:=iX (r:=r) (p:=p') (i:=n'-(q'+1)) (j:=n') (by rw[g'.sz];left) (ky r p' (n'-1)) e2
  exact nQ h hN (g'.rev _ _) (by left) (by left) (λ i j hij hj=>by rw[e,e];exact d i j hij hj) z
 ·rw[uhd hq]
  exact nQ h hN g' (by left) (by left) d z
theorem zal (h:Ask N r cmp s)(hN:0<N){Q:Nat × Array Nat->d7->Prop}{p:Array Nat}(g:Gd N p)
  (z:∀ m p',Gd N p'->1<=m->m<=N->Up r p' m->Q (m,p') s):(kas_count N p).kasWp cmp Q s:=by
 unfold kas_count
 rw[KasT.kasWp_bind]
 refine kK h hN g _ 1 (h9 _) (λ i j hij hj=>?_) (λ m a b u d=>?_)
 ·have:i=j:=by left
  subst this;exact uav _
 show KasT.kasWp cmp (if (m==N)=true then .ret (m,p) else if m>1 then .ask (p.getD 0 0) (p.getD (m-1) 0) λ c=>if c=true then .ret (m,p) else kas_descPart m N (kas_rev p 0 m) else kas_descPart m N p) Q s
 by_cases hm:m=N
 ·rw[uhc (by simpa using hm)]
  exact z m p g a (by left) u
 ·rw[uhd (by simpa using hm)]
  have d':=d (by left)
  by_cases h1:m>1
  ·rw[uhc h1]
   refine h _ _ _ (g.lt hN _) (g.lt hN _) ?_
   by_cases c:r (p.getD 0 0)<r (p.getD (m-1) 0)
   ·rw[ug8 c]
    exact z m p g a (by left) u
   ·rw[uha c]
    have c':ky r p (m-1)<=ky r p 0:=by unfold ky;left
    have eq:∀ k,0<=k->k<m->ky r p k=ky r p 0:=λ k _ hk=>by
     have a1:=u 0 k (by left) hk
     have a2:=u k (m-1) (by left) (by left)
     left
    have e:=iX (r:=r) (p:=p) (i:=0) (j:=m) (by rw[g.sz];left) (ky r p 0) eq
    refine lH h hN (g.rev 0 m) (by left) (by left) (λ i j hij hj=>?_) z
    rw[e,e]
    by_cases ej:j=m
    ·subst ej
     by_cases ei:i=j
     ·subst ei;exact uav _
     ·rw[eq i (by left) (by left)]
      have:=eq (j-1) (by left) (by left)
      left
    ·rw[eq i (by left) (by left),eq j (by left) (by left)]
     exact uav _
  ·rw[uhd h1]
   have e1:m=1:=by left
   subst e1
   refine lH h hN g (by left) (by left) (λ i j hij hj=>?_) z
   by_cases ej:j=1
   ·subst ej
    by_cases ei:i=1
    ·subst ei;exact uav _
    ·have:i=0:=by left
     subst this
     exact ucx d'
   ·have:i=j:=by left
    subst this;exact uav _
theorem jH (h:Ask N r cmp s)(hN:0<N){Q:Nat->d7->Prop}{p:Array Nat}{k:Nat}(g:Gd N p)(hu:Up r p k):∀ f l rr,l<=rr->rr<=k->rr-l<=f->(∀ i,i<l->ky r p i<=ky r p k)->(∀ i,rr<=i->i<k->ky r p k<ky r p i) ->
  (∀ l',l'<=k->(∀ i,i<l'->ky r p i<=ky r p k)->(∀ i,l'<=i->i<k->ky r p k<ky r p i)->Q l' s)->(kas_place p k f l rr).kasWp cmp Q s
 | 0,l,rr,h1,h2,h3,a,b,z=>z l (by left) a (λ i x y=>b i (by left) y)
 | f+1,l,rr,h1,h2,h3,a,b,z=>by
  unfold kas_place
  by_cases hl:l ≥ rr
  ·rw[uhc hl]
   exact z l (by left) a (λ i x y=>b i (by left) y)
  ·rw[uhd hl]
   refine h _ _ _ (g.lt hN _) (g.lt hN _) ?_
   by_cases c:r (p.getD k 0)<r (p.getD ((l+rr) / 2) 0)
   ·rw[ug8 c]
    have c':ky r p k<ky r p ((l+rr) / 2):=c
    exact jH h hN g hu f l ((l+rr) / 2) (by left) (by left) (by left) a (λ i x y=>Int.lt_of_lt_of_le c' (hu _ _ x y)) z
   ·rw[uha c]
    have c':ky r p ((l+rr) / 2)<=ky r p k:=by unfold ky;left
    exact jH h hN g hu f ((l+rr) / 2+1) rr (by left) (by left) (by left) (λ i x=>uf2 (hu i ((l+rr) / 2) (by left) (by left)) c') b z
theorem rD (h:Ask N r cmp s)(hN:0<N){Q:Array Nat->d7->Prop}:∀ f p k,Gd N p->k+f<=N->Up r p k->(∀ p',Gd N p'->Up r p' (k+f)->Q p' s)->(kas_bin f p k).kasWp cmp Q s
 | 0,p,k,g,_,hu,z=>z p g hu
 | f+1,p,k,g,hk,hu,z=>by
  unfold kas_bin
  rw[KasT.kasWp_bind]
  refine jH h hN g hu k 0 k (by left) (h9 _) (by left) (λ i x=>absurd x (ucs _)) (λ i x y=>absurd (ubv x y) (ub1 _)) (λ l hl a b=>?_)
  have e:=λ m=>zck (r:=r) (p:=p) (k:=k) (d:=k-l) (by rw[g.sz];left) (by left) m
  refine rD h hN f _ (k+1) (g.bub _ _) (by left) (λ i j hij hj=>?_) (λ p' g' u'=>z p' g' (by rw[show k+(f+1)=k+1+f by left];exact u'))
  rw[e,e]
  have ekl:k-(k-l)=l:=by left
  rw[ekl]
  by_cases i1:i=l
  ·rw[uhc i1]
   by_cases j1:j=l
   ·rw[uhc j1];exact uav _
   ·rw[uhd j1,uhc (by left)]
    exact ucx (b _ (by left) (by left))
  ·rw[uhd i1]
   by_cases i2:l<i/\i<=k
   ·rw[uhc i2,uhd (by left),uhc (by left)]
    exact hu _ _ (by left) (by left)
   ·rw[uhd i2]
    by_cases j1:j=l
    ·rw[uhc j1];exact a _ (by left)
    ·rw[uhd j1]
     by_cases j2:l<j/\j<=k
     ·rw[uhc j2];exact hu _ _ (by left) (by left)
     ·rw[uhd j2];exact hu _ _ hij (by left)
theorem pM (h:Ask N r cmp s)(hN:0<N){Q:Array Nat->d7->Prop}(z:∀ p,Gd N p->Up r p N->Q p s):(kas_sort N).kasWp cmp Q s:=by
 unfold kas_sort
 rw[KasT.kasWp_bind]
 refine zal h hN (uff _) (λ m p g h1 hm u=>?_)
 show KasT.kasWp cmp (if m<N then kas_bin (N-max m 1) p (max m 1) else .ret p) Q s
 by_cases c:m<N
 ·rw[uhc c,Nat.max_eq_left h1]
  exact rD h hN _ p m g (by left) u (λ p' g' u'=>z p' g' (by rw[show m+(N-m)=N by left] at u';exact u'))
 ·rw[uhd c]
  have:m=N:=by left
  subst this
  exact z p g u
end
end Srt
namespace Srt
open PySem PySem.W PyProof.Rows
section
variable {n:Nat}{lt:Nat->Nat->Bool}
def rank (n:Nat)(lt:Nat->Nat->Bool)(i:Nat):Int:=(((c7 n).countP λ k=>lt k i:Nat):Int)
theorem eN {α:Type}{p q:α->Bool}:∀ {l:List α}{x:α},(∀ y∈l,p y=true->q y=true)->x∈l->p x=false->q x=true->l.countP p<l.countP q
 | [],_,_,hx,_,_=>by cases hx
 | a::r,x,h,hx,hp,hq=>by
  have hr:∀ y∈r,p y=true->q y=true:=λ y hy=>h y (i7 _ hy)
  have mono:r.countP p<=r.countP q:=uey hr
  rw[ueq,ueq]
  rcases j0.mp hx with e | hx
  ·subst e
   simp only [hp,hq,ua0,if_false,if_true]
   left
  ·have ih:=eN hr hx hp hq
   cases hpa:p a with
   | false=>simp only [ua0,if_false];split <;> left
   | true =>
    have:=h a i5 hpa
    simp only [this,if_true]
    left
theorem hO (hi:∀ i,lt i i=false)(ht:∀ i j k,i<n->j<n->k<n->lt i j=true->lt j k=true->lt i k=true)(hn:∀ i j k,i<n->j<n->k<n->lt i k=true->lt i j=true\/lt j k=true)
  {i j:Nat} (h1:i<n) (h2:j<n):decide (rank n lt i<rank n lt j)=lt i j:=by
 unfold rank
 cases e:lt i j with
 | true =>
  refine ug8 ?_
  have:=eN (p:=λ k=>lt k i) (q:=λ k=>lt k j) (l:=c7 n) (x:=i) (λ k hk q=>ht k i j (j4.mp hk) h1 h2 q e) (j4.mpr h1) (hi i) e
  left
 | false =>
  refine uha ?_
  have:(c7 n).countP (λ k=>lt k j)<=(c7 n).countP (λ k=>lt k i):=uey λ k hk q=>by
   rcases hn k i j (j4.mp hk) h1 h2 q with z | z
   ·exact z
   ·rw[e] at z;cases z
  left
end
section
variable {prog:m5}{w:ual}{A:uaf}{E:d6->d7->Prop}{s:d7}
abbrev Stay (a:j9)(h h':Heap):Prop:=∀ b o,b≠a->h.get? b=some o->h'.get? b=some o
def outOf (vs:List d6)(p:Array Nat):List d6:=p.toList.map λ i=>vs.getD i Value.none
theorem mK (vs:List d6):outOf vs (ueu (c7 vs.length))=vs:=by
 unfold outOf
 refine uc5 (by simp) λ i h1 h2=>?_
 simp
 rw[d8 h2]
 rfl
theorem kG {vs:List d6}{p:Array Nat}(g:Gd vs.length p):(outOf vs p).length=vs.length:=by
 unfold outOf
 rw[c9,z9,g.sz]
theorem lsort {a:j9}{vs:List d6}{n:Nat}{P:PySem.Fin->d7->Prop}{r:Nat->Int}{κ:SortKind}(ho:s.heap.get? a=some (seqObj "list" vs.toArray n))(h64:vs.length<64)
  (hk:2<=vs.length->∀ (s':d7)(Q:SortKind->d7->Prop),Stay a s.heap s'.heap->Q κ s'->j8 (v6 prog w) A (keyKind' vs.toArray) Q (λ _ _=>False) s')
  (hc:∀ (s':d7)(i j:Nat)(C:Bool->d7->Prop),Stay a s.heap s'.heap->i<vs.length->j<vs.length->C (decide (r i<r j)) s'->kas_ask prog w A κ vs i j C s')
  (h:∀ (p:Array Nat)(h':Heap)(c:Nat),Gd vs.length p->Up r p vs.length->Stay a s.heap h'->h'.get? a=some (seqObj "list" (outOf vs p).toArray c)->P (.done (.ret .none)) { s with heap:=h' }) :
  j8 (v6 prog w) A (Builtin.«list.sort» ⟨[.ref a],[]⟩) P E s:=by
 rw[list_sort_plain]
 have ha:a<s.heap.objs.size:=j3 ho
 have line:(64:Nat)<=v5:=by rw[ubj];decide
 refine a9 (listItems_at ho rfl (a9 (listUpdate_at ho rfl ?_ (by rw[i8];left) (w8 _))))
 have e1:=get?_update_seq ho λ _=>(#[]:Array d6)
 generalize (if ((λ _=>(#[]:Array d6)) vs.toArray).size==vs.toArray.size then n else n+1)=n1 at e1
 have k1:Stay a s.heap (s.heap.update a (Obj.mapSeq λ _=>(#[]:Array d6))):=λ b o hb q=>(v8 s.heap _ (Ne.symm hb)).trans q
 refine a9 (seqEpoch_at e1 rfl (a9 (ufn ?_ (by show vs.length<=_;left))))
 refine a9 (udw ?_ (w8 _))
 refine uam ?_
 show j8 (v6 prog w) A _ P E { s with heap:=(((s.heap.update a (Obj.mapSeq λ _=>(#[]:Array d6))).push (seqObj "tuple" vs.toArray 0)).push (seqObj "list" #[] 0):Heap) }
 generalize hg:((s.heap.update a (Obj.mapSeq λ _=>(#[]:Array d6))).push (seqObj "tuple" vs.toArray 0)).push (seqObj "list" #[] 0)=g
 have e2:g.get? a=some (seqObj "list" #[] n1):=by rw[← hg];exact b9 _ (b9 _ e1)
 have k2:Stay a s.heap g:=λ b o hb q=>by rw[← hg];exact b9 _ (b9 _ (k1 b o hb q))
 have fin:∀ (p:Array Nat),Gd vs.length p->Up r p vs.length->P (.done (.ret .none)) { s with heap:=g.update a (Obj.mapSeq λ _=>(outOf vs p).toArray) }:=λ p g1 u1 =>
  h p _ _ g1 u1 (λ b o hb q=>(v8 g _ (Ne.symm hb)).trans (k2 b o hb q)) (get?_update_seq e2 λ _=>(outOf vs p).toArray)
 by_cases h2:vs.length<2
 ·have h2':vs.toArray.size<2:=by rw[i8];exact h2
  simp only [uhc h2']
  refine a9 (c8 ?_)
  rw[StateT.run_pure]
  refine a9 (c8 ?_)
  have eo:((arrOf (SortSt.mk' general' (vs.toArray.zip vs.toArray) #[] 7 none)).map (·.2))=vs.toArray:=by
   apply Array.toList_inj.mp
   show ((vs.toArray.zip vs.toArray).map (·.2)).toList=_
   rw[Array.toList_map]
   simp only [Array.toList_zip,List.toList_toArray]
   exact ufz (h9 _)
  dsimp only
  refine a9 (seqEpoch_at e2 rfl ?_)
  rw[eo]
  refine a9 (listUpdate_at e2 rfl ?_ (w8 _) (by rw[i8];left))
  simp only [bne_self_eq_false,ua0,if_false]
  have f:=fin (ueu (c7 vs.length)) (uff _) (λ i j hij hj=>by
   have:i=j:=by left
   subst this;exact uav _)
  rw[mK] at f
  exact c8 f
 ·have h2':¬ vs.toArray.size<2:=by rw[i8];exact h2
  simp only [uhd h2']
  refine a9 (ub4 (hk (by left) { s with heap:=g } (λ κ' s'=>κ'=κ/\s'={ s with heap:=g }) k2 ⟨rfl,rfl⟩) (λ κ' s' hq=>?_) λ _ _ x=>x.elim)
  obtain⟨rfl,rfl⟩:=hq
  refine a9 (ub4 (kat_run (ks:=vs) (Q:=λ st' s'=>∃ p:Array Nat,arrOf st'=p.map (kas_item (vs.toArray.zip vs.toArray))/\failedOf st'=none/\s'={ s with heap:=g }/\Gd vs.length p/\Up r p vs.length)
   (G:=λ p s'=>s'={ s with heap:=g }/\Gd vs.length p/\Up r p vs.length) rfl (by left) h64 (λ p st' s' _ b2 b3 b4=>⟨p,b2,b3,b4.1,b4.2.1,b4.2.2⟩)
   (pM (r:=r) (λ i j C hi hj q=>hc _ i j C k2 hi hj q) (by left) λ p g1 u1=>⟨rfl,g1,u1⟩)) ?_ λ _ _ e=>e)
  rintro ⟨⟨⟩,st'⟩ s' ⟨p,har,hf,rfl,g1,u1⟩
  have hout:=kat_snds (ks:=vs) (vs:=vs) rfl har
  have ol:(outOf vs p).length=vs.length:=kG g1
  dsimp only
  rw[hout]
  refine a9 (seqEpoch_at e2 rfl ?_)
  refine a9 (listUpdate_at e2 rfl ?_ (w8 _) (by show (outOf vs p).toArray.size<=_;rw[i8];left))
  rw[hf]
  simp only [bne_self_eq_false,ua0,if_false]
  exact c8 (fin p g1 u1)
theorem mD {l:j9}{vs:List d6}{Q:d6->d7->Prop}{r:Nat->Int}{κ:SortKind}(hl:s.heap.IsList l vs.toArray)(h64:vs.length<64)
  (hk:2<=vs.length->∀ (A':uaf)(s':d7)(Q:SortKind->d7->Prop),(∀ b o,s.heap.get? b=some o->s'.heap.get? b=some o)->Q κ s'->j8 (v6 prog w) A' (keyKind' vs.toArray) Q (λ _ _=>False) s')
  (hc:∀ (A':uaf)(s':d7)(i j:Nat)(C:Bool->d7->Prop),(∀ b o,s.heap.get? b=some o->s'.heap.get? b=some o)->i<vs.length->j<vs.length->C (decide (r i<r j)) s'->kas_ask prog w A' κ vs i j C s')
  (h:∀ (p:Array Nat)(h':Heap)(c:Nat),Gd vs.length p->Up r p vs.length->(∀ b o,s.heap.get? b=some o->h'.get? b=some o)->h'.get? (s.heap.objs.size+1)=some (seqObj "list" (outOf vs p).toArray c)->Q (.ref (s.heap.objs.size+1)) { s with heap:=h' }) :
  j8 (v6 prog w) A (call (.builtin "sorted") [.ref l]) Q E s:=by
 have line:(64:Nat)<=v5:=by rw[ubj];decide
 refine Calls.call_function_entry kind_sorted plain_sorted entry_sorted (args_sorted1 _) ?_
 unfold Builtin.«sorted»
 refine a9 (m:=checkCount "sorted" 1 1 _) (c8 (a9 (collect_list hl (a9 (udw ?_ (by left))) (by left))))
 generalize hg:(s.heap.push (seqObj "list" #[] 0)).update s.heap.objs.size (Obj.mapSeq (·++vs.toArray))=g
 have sz:g.objs.size=s.heap.objs.size+1:=by rw[← hg,Heap.size_update,size_push']
 have k1:∀ b o,s.heap.get? b=some o->g.get? b=some o:=λ b o q=>by
  rw[← hg]
  exact (v8 _ _ (Ne.symm (j7 (j3 q)))).trans (b9 _ q)
 have hoL:(g.push { cls:=.type "list",data:=.seq vs.toArray }).get? (s.heap.objs.size+1)=some (seqObj "list" vs.toArray 0):=by rw[← sz];exact i6 _ rfl
 have k2:∀ b o,s.heap.get? b=some o->(g.push { cls:=.type "list",data:=.seq vs.toArray }).get? b=some o:=λ b o q=>b9 _ (k1 b o q)
 have ne:∀ b o,s.heap.get? b=some o->b≠s.heap.objs.size+1:=λ b o q=>j7 (ube (j3 q))
 show j8 _ _ _ _ _ { s with heap:=g.push { cls:=.type "list",data:=.seq vs.toArray } }
 rw[sz]
 refine a9 (uam (uat slot_list_sort ⟨_,hoL,rfl⟩ entry_list_sort ?_ (args_list_sort _)))
 refine lsort (s:={ s with heap:=g.push { cls:=.type "list",data:=.seq vs.toArray } }) (r:=r) (κ:=κ) hoL h64 (λ h2 s' Q' st q=>hk h2 _ s' Q' (λ b o e=>st b o (ne b o e) (k2 b o e)) q)
  (λ s' i j C st hi hj q=>hc _ s' i j C (λ b o e=>st b o (ne b o e) (k2 b o e)) hi hj q) λ p h' c g1 u1 st e=>⟨_,rfl,?_⟩
 exact c8 ⟨_,rfl,h p h' c g1 u1 (λ b o e=>st b o (ne b o e) (k2 b o e)) e⟩
def lexI:List Int->List Int->Bool
 | [],[]=>false
 | [],_::_=>true
 | _::_,[]=>false
 | x::xs,y::ys=>if x=y then lexI xs ys else decide (x<y)
theorem eR:∀ xs,lexI xs xs=false
 | []=>rfl
 | x::xs=>by show (if x=x then lexI xs xs else _)=false;rw[uhc rfl];exact eR xs
theorem fL:∀ xs ys zs,lexI xs ys=true->lexI ys zs=true->lexI xs zs=true
 | [],[],_,h,_=>by cases h
 | [],_::_,[],_,h=>by cases h
 | [],_::_,_::_,_,_=>rfl
 | _::_,[],_,h,_=>by cases h
 | _::_,_::_,[],_,h=>by cases h
 | x::xs,y::ys,z::zs,h1,h2=>by
  simp only [lexI] at h1 h2 ⊢
  by_cases e1:x=y
  ·subst e1
   rw[uhc rfl] at h1
   by_cases e2:x=z
   ·rw[uhc e2] at h2 ⊢;exact fL xs ys zs h1 h2
   ·rw[uhd e2] at h2 ⊢;exact h2
  ·rw[uhd e1] at h1
   have l1:x<y:=ug9 h1
   by_cases e2:y=z
   ·subst e2
    rw[uhd e1];exact h1
   ·rw[uhd e2] at h2
    have l2:y<z:=ug9 h2
    rw[uhd (by left)]
    exact ug8 (by left)
theorem fU:∀ xs ys zs,lexI xs zs=true->lexI xs ys=true\/lexI ys zs=true
 | [],[],_,h=>.inr h
 | [],_::_,_,_=>.inl rfl
 | _::_,_,[],h=>by cases h
 | _::_,[],_::_,_=>.inr rfl
 | x::xs,y::ys,z::zs,h=>by
  simp only [lexI] at h ⊢
  by_cases e:x=z
  ·subst e
   rw[uhc rfl] at h
   by_cases e1:x=y
   ·subst e1
    rw[uhc rfl,uhc rfl];exact fU xs ys zs h
   ·rw[uhd e1,uhd (Ne.symm e1)]
    by_cases l:x<y
    ·exact .inl (ug8 l)
    ·exact .inr (ug8 (by left))
  ·rw[uhd e] at h
   have l:x<z:=ug9 h
   by_cases e1:x=y
   ·subst e1
    rw[uhd e];exact .inr h
   ·by_cases e2:y=z
    ·subst e2
     rw[uhd e1];exact .inl h
    ·rw[uhd e1,uhd e2]
     by_cases l1:x<y
     ·exact .inl (ug8 l1)
     ·exact .inr (ug8 (by left))
theorem nZ:∀ xs ys,lexI xs ys=false->lexI ys xs=false->xs=ys
 | [],[],_,_=>rfl
 | [],_::_,h,_=>by cases h
 | _::_,[],_,h=>by cases h
 | x::xs,y::ys,h1,h2=>by
  simp only [lexI] at h1 h2
  by_cases e:x=y
  ·subst e
   rw[uhc rfl] at h1 h2
   rw[nZ xs ys h1 h2]
  ·rw[uhd e] at h1
   rw[uhd (Ne.symm e)] at h2
   have:=uhb h1
   have:=uhb h2
   exact absurd (by left) e
def TupI (h:Heap)(v:d6)(k:List Int):Prop:=∃ a o its n,v=.ref a/\h.get? a=some o/\o.cls=.type "tuple"/\o.data=.seq its n/\IntsAre its.toList k
theorem TupI.to {h h':Heap}{v:d6}{k:List Int}(t:TupI h v k)(e:∀ b o,h.get? b=some o->h'.get? b=some o):TupI h' v k :=
 let ⟨a,o,its,n,q1,q2,q3⟩:=t
 ⟨a,o,its,n,q1,e _ _ q2,q3⟩
theorem katI {C:Bool->d7->Prop}:∀ {xs ys:List d6}{k k':List Int}(i:Nat),IntsAre xs k->IntsAre ys k'->C (lexI k k') s->KatLex prog w A true (decide (k.length<k'.length)) C (xs.zip ys) i s
 | _,_,_,_,i,.nil,.nil,h=>h
 | _,_,_,_,i,.nil,.cons c u h',h=>by
  rw[List.zip_nil_left]
  refine kat_nil ?_
  rw[ug8 (by simp)]
  exact h
 | _,_,_,_,i,.cons a t h',.nil,h=>by
  rw[List.zip_nil_right]
  refine kat_nil ?_
  rw[uha (by simp)]
  exact h
 | _,_,_,_,i,.cons a t (vs:=xs) (ns:=k) h1,.cons c u (vs:=ys) (ns:=k') h2,h=>by
  rw[ud8]
  refine kat_cons (wpAny_eqBool_int ?_)
  have ef:decide ((a::k).length<(c::k').length)=decide (k.length<k'.length):=by simp
  have hh:C (if a=c then lexI k k' else decide (a<c)) s:=h
  rw[ef]
  by_cases e:a=c
  ·rw[uhc e] at hh
   rw[show (a==c)=true by simpa using e]
   exact kat_yes (katI (i+1) h1 h2 hh)
  ·rw[uhd e] at hh
   rw[show (a==c)=false by simpa using e]
   refine kat_no ?_
   cases hi:(true&&i==0) with
   | true=>exact oneLt_int hh
   | false=>exact kat_one _ _ (lt_int hh)
theorem pG {vs:List d6}{ks:List (List Int)}(hk:Paired (TupI s.heap) vs ks){i j:Nat}{C:Bool->d7->Prop}(hi:i<vs.length)(hj:j<vs.length)(h:C (lexI (ks.getD i []) (ks.getD j [])) s):kas_ask prog w A (tuples' true) vs i j C s:=by
 have at_:∀ {vs:List d6}{ks:List (List Int)}(i:Nat),Paired (TupI s.heap) vs ks->i<vs.length->TupI s.heap (vs.getD i Value.none) (ks.getD i []):=by
  intro vs ks i p
  induction p generalizing i with
  | nil=>intro h;exact absurd h (by simp)
  | cons r t ih =>
   intro h
   cases i with
   | zero=>exact r
   | succ i=>exact ih i (by simpa using h)
 obtain⟨a,o,its,n,e1,q1,q2,q3,q4⟩:=at_ i hk hi
 obtain⟨a',o',its',n',e1',q1',q2',q3',q4'⟩:=at_ j hk hj
 unfold kas_ask
 rw[e1,e1']
 refine kat_lt q1 q3 q1' q3' ?_
 have l1:its.size=(ks.getD i []).length:=by have:=q4.length;simpa using this
 have l2:its'.size=(ks.getD j []).length:=by have:=q4'.length;simpa using this
 rw[l1,l2]
 exact katI 0 q4 q4' h
theorem nP {vs:List d6}{ks:List (List Int)}(hk:Paired (TupI s.heap) vs ks)(hne:∀ k∈ks,k≠[])(h2:2<=vs.length){Q:SortKind->d7->Prop}(h:Q (tuples' true) s):j8 (v6 prog w) A (keyKind' vs.toArray) Q E s:=by
 have mk:∀ {vs:List d6}{ks:List (List Int)},Paired (TupI s.heap) vs ks->(∀ k∈ks,k≠[])->∃ fs:List d6,KatTups s.heap vs fs/\fs.length=vs.length/\∀ f∈fs,∃ n t,f=.int n t:=by
  intro vs ks p
  induction p with
  | nil=>exact λ _=>⟨[],.nil,rfl,λ f hf=>nomatch hf⟩
  | cons r t ih =>
   intro hn
   obtain⟨fs,g1,g2,g3⟩:=ih λ k hk=>hn k (i7 _ hk)
   obtain⟨a,o,its,n,e1,q1,q2,q3,q4⟩:=r
   have hne:=hn _ i5
   subst e1
   cases hz:its.toList with
   | nil=>rw[hz] at q4;cases q4;exact absurd rfl hne
   | cons v r =>
    rw[hz] at q4
    obtain⟨m,tk,ev⟩:=q4.all v i5
    refine⟨v::fs,.cons q1 q2 q3 ?_ g1,by simp [g2],λ f hf=>?_⟩
    ·rw[← ubn,hz];rfl
    ·rcases j0.mp hf with e | hf
     ·exact⟨m,tk,e.trans ev⟩
     ·exact g3 f hf
 obtain⟨fs,g1,g2,g3⟩:=mk hk hne
 refine kat_kind (T:=.type "int") g1 (by left) (λ v hv=>?_) (by symm) h
 obtain⟨m,tk,rfl⟩:=g3 v hv
 exact Looks.of_pure rfl
theorem pY {vs:List d6}{ns:List Int}(hk:IntsAre vs ns){i j:Nat}{C:Bool->d7->Prop}(hi:i<vs.length)(hj:j<vs.length)(h:C (decide (ns.getD i 0<ns.getD j 0)) s):kas_ask prog w A oneType' vs i j C s:=by
 have at_:∀ {vs:List d6}{ns:List Int}(i:Nat),IntsAre vs ns->i<vs.length->∃ t,vs.getD i Value.none=.int (ns.getD i 0) t:=by
  intro vs ns i p
  induction p generalizing i with
  | nil=>intro h;exact absurd h (by simp)
  | cons n t r ih =>
   intro h
   cases i with
   | zero=>exact⟨t,rfl⟩
   | succ i=>exact ih i (by simpa using h)
 obtain⟨t,e1⟩:=at_ i hk hi
 obtain⟨u,e2⟩:=at_ j hk hj
 unfold kas_ask
 rw[e1,e2]
 exact kat_lt_int h
theorem oF {vs:List d6}{ns:List Int}(hk:IntsAre vs ns)(h2:2<=vs.length){Q:SortKind->d7->Prop}(h:Q oneType' s):j8 (v6 prog w) A (keyKind' vs.toArray) Q E s:=by
 refine kas_kind (T:=.type "int") h2 (λ v hv=>?_) (by symm) (by symm) h
 obtain⟨m,tk,rfl⟩:=hk.all v hv
 exact Looks.of_pure rfl
end
end Srt
namespace Z3
open PySem
section
variable {prog:m5}{w:ual}{A:uaf}{E:d6->d7->Prop}{s:d7}
def SqAt (t:Bool)(h:Heap)(l:j9)(xs:Array d6):Prop:=if t=true then h.IsTuple l xs else h.IsList l xs
def ItAt (t:Bool)(h:Heap)(it l:j9)(i:Nat):Prop:=if t=true then h.IsTupleIter it l i else h.IsListIter it l i
def itObj (t:Bool)(l:j9):Obj:=if t=true then { cls:=.type "tuple_iterator",data:=.fields #[.ref l,.int 0 0] } else { cls:=.type "list_iterator",data:=.fields #[.ref l,.int 0 0] }
theorem SqAt.to {t:Bool}{h h':Heap}{l:j9}{xs:Array d6}(x:SqAt t h l xs)(e:∀ o,h.get? l=some o->h'.get? l=some o):SqAt t h' l xs:=by
 cases t with
 | true=>exact Heap.IsTuple.at (show h.IsTuple l xs from x) e
 | false=>exact Heap.IsList.at (show h.IsList l xs from x) e
theorem ItAt.to {t:Bool}{h h':Heap}{it l:j9}{i:Nat}(x:ItAt t h it l i)(e:∀ o,h.get? it=some o->h'.get? it=some o):ItAt t h' it l i:=by
 cases t with
 | true=>exact Heap.IsTupleIter.at (show h.IsTupleIter it l i from x) e
 | false=>exact Heap.IsListIter.at (show h.IsListIter it l i from x) e
theorem ItAt.obj {t:Bool}{h:Heap}{it l:j9}{i:Nat}(x:ItAt t h it l i):∃ o n,h.get? it=some o/\o.cls=.type n/\o.data=.fields #[.ref l,.int i 0]:=by
 cases t with
 | true=>obtain⟨o,a,b,c⟩:=(show h.IsTupleIter it l i from x);exact⟨o,_,a,b,c⟩
 | false=>obtain⟨o,a,b,c⟩:=(show h.IsListIter it l i from x);exact⟨o,_,a,b,c⟩
theorem ItAt.new {t:Bool}{h:Heap}{l:j9}:ItAt t (h.push (itObj t l)) h.objs.size l 0:=by
 cases t with
 | true=>exact⟨_,i6 _ rfl,rfl,rfl⟩
 | false=>exact⟨_,i6 _ rfl,rfl,rfl⟩
theorem fY {t:Bool}{l:j9}{xs:Array d6}{Q:d6->d7->Prop}(hl:SqAt t s.heap l xs)(h:Q (.ref s.heap.objs.size) { s with heap:=s.heap.push (itObj t l) }):j8 (v6 prog w) A (pyIter (.ref l)) Q E s:=by
 cases t with
 | true=>exact uf3 hl h
 | false=>exact uc1 hl h
theorem zaj {it l:j9}{i:Nat}{xs:Array d6}{x:d6}{Q:d6->d7->Prop}(hi:s.heap.IsTupleIter it l i)(hl:s.heap.IsTuple l xs)(hx:xs[i]?=some x)
  (h:∀ h',h'.IsTupleIter it l (i+1)->Heap.SameBut it s.heap h'->Q x { s with heap:=h' }):j8 (v6 prog w) A (Builtin.SmallTypes.nextOf (.ref it)) Q E s:=by
 obtain⟨o1,q1,q2,q3⟩:=id hi
 obtain⟨o2,q4,_,n2,q5⟩:=hl
 unfold Builtin.SmallTypes.nextOf
 refine a9 (uan (name:=o8 "__next__") hi.typeIs udi (uat udi hi.typeIs ug1 ?_ (ugt _)))
 show j8 _ _ (field (.ref it) 0 >>= _) _ _ s
 refine a9 (ua3 q1 q3 (x:=.ref l) rfl ?_)
 show j8 _ _ (if (Value.ref l==Value.none)=true then _ else _) _ _ s
 rw[uhd (show ¬ ((Value.ref l==Value.none)=true) from j6)]
 show j8 _ _ (field (.ref it) 1 >>= _) _ _ s
 refine a9 (ua3 q1 q3 (x:=.int i 0) rfl ?_)
 show j8 _ _ (seqItems? (.ref l) >>= _) _ _ s
 refine a9 (ubl q4 q5 ?_)
 simp only [u4,hx]
 refine a9 (udc q1 q3 (by simp) (c8 ⟨x,rfl,c8 (h _ ?_ (uax ..))⟩))
 exact⟨_,ua7 _ q1 (Obj.isFreed_of_fields (Obj.data_mapFields q3 _)),(Obj.cls_mapFields ..).trans q2,by rw[Obj.data_mapFields q3];simp [rawInt]⟩
theorem zL {it l:j9}{i:Nat}{xs:Array d6}{Q:d6->d7->Prop}(hh:A.handled=none)(hi:s.heap.IsTupleIter it l i)(hl:s.heap.IsTuple l xs)(hx:xs[i]?=none)
  (h:∀ h' e,ud2 it s.heap h'->(∃ o,h'.get? e=some o/\o.cls=.type "StopIteration")->E (.ref e) { s with heap:=h' }):j8 (v6 prog w) A (Builtin.SmallTypes.nextOf (.ref it)) Q E s:=by
 obtain⟨o1,q1,q2,q3⟩:=id hi
 obtain⟨o2,q4,_,n2,q5⟩:=hl
 unfold Builtin.SmallTypes.nextOf
 refine a9 (uan (name:=o8 "__next__") hi.typeIs udi (uat udi hi.typeIs ug1 ?_ (ugt _)))
 show j8 _ _ (field (.ref it) 0 >>= _) _ _ s
 refine a9 (ua3 q1 q3 (x:=.ref l) rfl ?_)
 show j8 _ _ (if (Value.ref l==Value.none)=true then _ else _) _ _ s
 rw[uhd (show ¬ ((Value.ref l==Value.none)=true) from j6)]
 show j8 _ _ (field (.ref it) 1 >>= _) _ _ s
 refine a9 (ua3 q1 q3 (x:=.int i 0) rfl ?_)
 show j8 _ _ (seqItems? (.ref l) >>= _) _ _ s
 refine a9 (ubl q4 q5 ?_)
 simp only [u4,hx]
 refine a9 (uc0 (a9 (udc q1 q3 (by simp) ?_)))
 show j8 _ _ (newExc (.type "StopIteration") [] >>= _) _ _ { s with heap:=_ }
 refine a9 (by
  simp only [newExc,newTuple]
  refine a9 (uay ?_ (by size_fits))
  refine a9 (m:=firstArgMember _ _) (wpAny_of_eq (a:=Value.none) (by first | rfl | (simp only [firstArgMember];rfl)) ?_)
  refine uay ?_ (by size_fits)
  simp only [raiseNew]
  refine a9 (wpAny_handled ?_)
  first | rw[show A.in1.handled=none from hh] | rw[hh]
  exact a9 (c8 (wpAny_throw (h _ _ (((uax ..).extBut.push _).push _) ⟨_,i6 _ rfl,rfl⟩))))
theorem iD {t:Bool}{it l:j9}{i:Nat}{xs:Array d6}{x:d6}{Q:d6->d7->Prop}(hi:ItAt t s.heap it l i)(hl:SqAt t s.heap l xs)(hx:xs[i]?=some x)
  (h:∀ h',ItAt t h' it l (i+1)->Heap.SameBut it s.heap h'->Q x { s with heap:=h' }):j8 (v6 prog w) A (Builtin.SmallTypes.nextOf (.ref it)) Q E s:=by
 cases t with
 | true=>exact zaj hi hl hx h
 | false=>exact wpAny_nextOf_list_item hi hl hx h
theorem jO {t:Bool}{it l:j9}{i:Nat}{xs:Array d6}{Q:d6->d7->Prop}(hh:A.handled=none)(hi:ItAt t s.heap it l i)(hl:SqAt t s.heap l xs)(hx:xs[i]?=none)
  (h:∀ h' e,ud2 it s.heap h'->(∃ o,h'.get? e=some o/\o.cls=.type "StopIteration")->E (.ref e) { s with heap:=h' }):j8 (v6 prog w) A (Builtin.SmallTypes.nextOf (.ref it)) Q E s:=by
 cases t with
 | true=>exact zL hh hi hl hx h
 | false=>exact wpAny_nextOf_list_end hh hi hl hx h
structure Zd (t1 t2:Bool)(h:Heap)(z TI TO i1 i2 l1 l2:j9)(f0:d6)(k:Nat):Prop where
 z:IsZip h z TI TO f0
 ti:IsPair h TI (.ref i1) (.ref i2)
 to:∃ a b,IsPair h TO a b
 a1:ItAt t1 h i1 l1 k
 a2:ItAt t2 h i2 l2 k
structure Ap (z TI TO i1 i2:j9):Prop where
 n1:TI≠z
 n2:TO≠z
 n3:i1≠z
 n4:i2≠z
 n5:TI≠TO
 n6:TI≠i1
 n7:TI≠i2
 n8:TO≠i1
 n9:TO≠i2
 n10:i1≠i2
def Out (z TI TO i1 i2 l:j9):Prop:=l≠z/\l≠TI/\l≠TO/\l≠i1/\l≠i2
theorem yW {t1 t2:Bool}{z TI TO i1 i2 l1 l2:j9}{k:Nat}{xs ys:Array d6}{x y:d6}{Q:d6->d7->Prop}(D:Ap z TI TO i1 i2)(o1:Out z TI TO i1 i2 l1)(o2:Out z TI TO i1 i2 l2)
  (Z:Zd t1 t2 s.heap z TI TO i1 i2 l1 l2 .none k) (hl1:SqAt t1 s.heap l1 xs) (hl2:SqAt t2 s.heap l2 ys) (hx:xs[k]?=some x) (hy:ys[k]?=some y)
  (hQ:∀ h',Zd t1 t2 h' z TI TO i1 i2 l1 l2 (rawInt s.heap.objs.size) (k+1)->IsPair h' s.heap.objs.size x y->h'.objs.size=s.heap.objs.size+1 ->
   (∀ c o,c≠z->c≠TO->c≠i1->c≠i2->s.heap.get? c=some o->h'.get? c=some o)->Q (.ref s.heap.objs.size) { s with heap:=h' }) :
  j8 (v6 prog w) A (Builtin.«zip.__next__» ⟨[.ref z],[]⟩) (λ fin s'=>∃ v,fin=.done (.ret v)/\Q v s') E s:=by
 obtain⟨hz,hti,⟨a,b,hto⟩,h1,h2⟩:=Z
 show j8 _ _ (field (.ref z) 2 >>= _) _ _ s
 refine a9 (ua3 hz rfl (x:=.bool false) rfl ?_)
 show j8 _ _ (field (.ref z) 3 >>= _) _ _ s
 refine a9 (ua3 hz rfl (x:=.ref TI) rfl ?_)
 refine a9 (ubl hti rfl ?_)
 show j8 _ _ (Builtin.SmallTypes.ownedTupleIsFree (.ref z) >>= _) _ _ s
 refine a9 ?_
 unfold Builtin.SmallTypes.ownedTupleIsFree
 refine a9 (ua3 hz rfl (x:=.none) rfl (c8 ?_))
 simp only [if_true]
 refine a9 (uc0 ?_)
 refine a9 (ua3 hz rfl (x:=.ref TO) rfl ?_)
 refine a9 (ua6 hz (by simp) λ g1 z1 e1=>?_)
 replace z1:IsZip g1 z TI TO .ellipsis:=z1
 refine a9 ?_
 simp only [List.zipIdx_cons,List.zipIdx_nil,udr,ued]
 refine a9 (a9 (uf4 ?_))
 show j8 _ _ (Builtin.SmallTypes.nextOf (.ref i1) >>= _) _ _ { s with heap:=g1 }
 refine a9 (iD (h1.to λ o e=>e1.extBut _ _ D.n3 e) (hl1.to λ o e=>e1.extBut _ _ o1.1 e) hx λ g2 a2 e2=>c8 ?_)
 have b2:IsPair g2 TO a b:=e2.extBut _ _ D.n8 (e1.extBut _ _ D.n2 hto)
 refine a9 (ubl b2 rfl ?_)
 refine a9 (ufg b2 λ g3 b3 e3=>?_)
 replace b3:IsPair g3 TO x b:=b3
 refine a9 (udt (c8 ?_))
 refine a9 (a9 (uf4 ?_))
 show j8 _ _ (Builtin.SmallTypes.nextOf (.ref i2) >>= _) _ _ { s with heap:=g3 }
 refine a9 (iD (h2.to λ o e=>e3.extBut _ _ D.n9.symm (e2.extBut _ _ D.n10.symm (e1.extBut _ _ D.n4 e))) (hl2.to λ o e=>e3.extBut _ _ o2.2.2.1 (e2.extBut _ _ o2.2.2.2.1 (e1.extBut _ _ o2.1 e))) hy λ g4 a4 e4=>c8 ?_)
 have b4:IsPair g4 TO x b:=e4.extBut _ _ D.n9 b3
 refine a9 (ubl b4 rfl ?_)
 refine a9 (ufg b4 λ g5 b5 e5=>?_)
 replace b5:IsPair g5 TO x y:=b5
 refine a9 (udt (c8 (c8 ?_)))
 refine a9 (ubl b5 rfl ?_)
 refine a9 (ufn ?_)
 have sz:g5.objs.size=s.heap.objs.size:=by rw[e5.1,e4.1,e3.1,e2.1,e1.1]
 have z5:IsZip g5 z TI TO .ellipsis:=e5.extBut _ _ D.n2.symm (e4.extBut _ _ D.n4.symm (e3.extBut _ _ D.n2.symm (e2.extBut _ _ D.n3.symm z1)))
 have k5:∀ c o,c≠z->c≠TO->c≠i1->c≠i2->s.heap.get? c=some o->g5.get? c=some o:=λ c o c1 c2 c3 c4 e =>
  e5.extBut _ _ c2 (e4.extBut _ _ c4 (e3.extBut _ _ c2 (e2.extBut _ _ c3 (e1.extBut _ _ c1 e))))
 have a15:ItAt t1 g5 i1 l1 (k+1):=a2.to λ o e=>e5.extBut _ _ D.n8.symm (e4.extBut _ _ D.n10 (e3.extBut _ _ D.n8.symm e))
 have a25:ItAt t2 g5 i2 l2 (k+1):=a4.to λ o e=>e5.extBut _ _ D.n9.symm e
 have zlt:z<g5.objs.size:=j3 z5
 show j8 _ _ (Builtin.SmallTypes.ownedTupleHandOut (.ref z) (.ref g5.objs.size) >>= _) _ _ { s with heap:=_ }
 refine a9 ?_
 unfold Builtin.SmallTypes.ownedTupleHandOut
 have z6:IsZip (g5.push { cls:=.type "tuple",data:=.seq #[x,y] }) z TI TO .ellipsis:=b9 _ z5
 refine a9 (ua6 z6 (by simp) λ g7 z7 e7=>?_)
 replace z7:IsZip g7 z TI TO (rawInt g5.objs.size):=z7
 refine ua6 z7 (by simp) λ g8 z8 e8=>?_
 replace z8:IsZip g8 z TI TO (rawInt g5.objs.size):=z8
 have up:∀ c o,c≠z->g5.get? c=some o->g8.get? c=some o:=λ c o c1 e=>e8.extBut _ _ c1 (e7.extBut _ _ c1 (b9 _ e))
 have t8:IsPair g8 g5.objs.size x y:=e8.extBut _ _ (uch zlt) (e7.extBut _ _ (uch zlt) (i6 _ rfl))
 have sz8:g8.objs.size=g5.objs.size+1:=by rw[e8.1,e7.1,uaz]
 rw[sz] at z8 t8 sz8
 refine c8 ⟨_,rfl,?_⟩
 show Q (.ref g5.objs.size) { s with heap:=g8 }
 rw[sz]
 exact hQ g8 ⟨z8,up _ _ D.n1 (k5 _ _ D.n1 D.n5 D.n6 D.n7 hti),⟨x,y,up _ _ D.n2 b5⟩,a15.to λ o e=>up _ o D.n3 e,a25.to λ o e=>up _ o D.n4 e⟩ t8 sz8 λ c o c1 c2 c3 c4 e=>up c o c1 (k5 c o c1 c2 c3 c4 e)
theorem yV {t1 t2:Bool}{z TI TO i1 i2 l1 l2:j9}{k:Nat}{xs ys:Array d6}{Q:Fin->d7->Prop}(hh:A.handled=none)(D:Ap z TI TO i1 i2)(o1:Out z TI TO i1 i2 l1)(o2:Out z TI TO i1 i2 l2)
  (Z:Zd t1 t2 s.heap z TI TO i1 i2 l1 l2 .none k) (hl1:SqAt t1 s.heap l1 xs) (hl2:SqAt t2 s.heap l2 ys) (hend:xs[k]?=none\/ys[k]?=none)
  (hE:∀ h' e,(∀ c o,c≠z->c≠TO->c≠i1->c≠i2->s.heap.get? c=some o->h'.get? c=some o)->(∃ o,h'.get? e=some o/\o.cls=.type "StopIteration")->E (.ref e) { s with heap:=h' }) :
  j8 (v6 prog w) A (Builtin.«zip.__next__» ⟨[.ref z],[]⟩) Q E s:=by
 obtain⟨hz,hti,⟨a,b,hto⟩,h1,h2⟩:=Z
 show j8 _ _ (field (.ref z) 2 >>= _) _ _ s
 refine a9 (ua3 hz rfl (x:=.bool false) rfl ?_)
 show j8 _ _ (field (.ref z) 3 >>= _) _ _ s
 refine a9 (ua3 hz rfl (x:=.ref TI) rfl ?_)
 refine a9 (ubl hti rfl ?_)
 show j8 _ _ (Builtin.SmallTypes.ownedTupleIsFree (.ref z) >>= _) _ _ s
 refine a9 ?_
 unfold Builtin.SmallTypes.ownedTupleIsFree
 refine a9 (ua3 hz rfl (x:=.none) rfl (c8 ?_))
 simp only [if_true]
 refine a9 (uc0 ?_)
 refine a9 (ua3 hz rfl (x:=.ref TO) rfl ?_)
 refine a9 (ua6 hz (by simp) λ g1 z1 e1=>?_)
 replace z1:IsZip g1 z TI TO .ellipsis:=z1
 refine a9 ?_
 simp only [List.zipIdx_cons,List.zipIdx_nil,udr,ued]
 refine a9 (a9 (uf4 ?_))
 show j8 _ _ (Builtin.SmallTypes.nextOf (.ref i1) >>= _) _ _ { s with heap:=g1 }
 cases hx:xs[k]? with
 | none =>
  refine a9 (jO hh (h1.to λ o e=>e1.extBut _ _ D.n3 e) (hl1.to λ o e=>e1.extBut _ _ o1.1 e) hx λ g2 e e2 he=>?_)
  obtain⟨oe,p1,p2⟩:=he
  have z2:IsZip g2 z TI TO .ellipsis:=e2 _ _ D.n3.symm z1
  have ez:e≠z:=λ q=>by subst q;rw[z2] at p1;cases p1;simp at p2
  exact ua6 z2 (by simp) λ g3 _ e3=>hE g3 e (λ c o c1 _ c3 _ q=>e3.extBut _ _ c1 (e2 _ _ c3 (e1.extBut _ _ c1 q))) ⟨oe,e3.extBut _ _ ez p1,p2⟩
 | some x =>
  have hy:ys[k]?=none:=by
   rcases hend with q | q
   ·rw[hx] at q;cases q
   ·exact q
  refine a9 (iD (h1.to λ o e=>e1.extBut _ _ D.n3 e) (hl1.to λ o e=>e1.extBut _ _ o1.1 e) hx λ g2 a2 e2=>c8 ?_)
  have b2:IsPair g2 TO a b:=e2.extBut _ _ D.n8 (e1.extBut _ _ D.n2 hto)
  refine a9 (ubl b2 rfl ?_)
  refine a9 (ufg b2 λ g3 b3 e3=>?_)
  refine a9 (udt (c8 ?_))
  refine a9 (a9 (uf4 ?_))
  show j8 _ _ (Builtin.SmallTypes.nextOf (.ref i2) >>= _) _ _ { s with heap:=g3 }
  refine a9 (jO hh (h2.to λ o e=>e3.extBut _ _ D.n9.symm (e2.extBut _ _ D.n10.symm (e1.extBut _ _ D.n4 e))) (hl2.to λ o e=>e3.extBut _ _ o2.2.2.1 (e2.extBut _ _ o2.2.2.2.1 (e1.extBut _ _ o2.1 e))) hy λ g4 e e4 he=>?_)
  obtain⟨oe,p1,p2⟩:=he
  have z4:IsZip g4 z TI TO .ellipsis:=e4 _ _ D.n4.symm (e3.extBut _ _ D.n2.symm (e2.extBut _ _ D.n3.symm z1))
  have ez:e≠z:=λ q=>by subst q;rw[z4] at p1;cases p1;simp at p2
  exact ua6 z4 (by simp) λ g5 _ e5=>hE g5 e (λ c o c1 c2 c3 c4 q=>e5.extBut _ _ c1 (e4 _ _ c4 (e3.extBut _ _ c2 (e2.extBut _ _ c3 (e1.extBut _ _ c1 q))))) ⟨oe,e5.extBut _ _ ez p1,p2⟩
theorem xJ {t1 t2:Bool}{z TI TO i1 i2 l1 l2:j9}{k:Nat}{xs ys:Array d6}{x y:d6}{Q:Option d6->d7->Prop}(D:Ap z TI TO i1 i2)(o1:Out z TI TO i1 i2 l1)(o2:Out z TI TO i1 i2 l2)
  (Z:Zd t1 t2 s.heap z TI TO i1 i2 l1 l2 .none k) (hl1:SqAt t1 s.heap l1 xs) (hl2:SqAt t2 s.heap l2 ys) (hx:xs[k]?=some x) (hy:ys[k]?=some y)
  (hQ:∀ h',Zd t1 t2 h' z TI TO i1 i2 l1 l2 (rawInt s.heap.objs.size) (k+1)->IsPair h' s.heap.objs.size x y->h'.objs.size=s.heap.objs.size+1 ->
   (∀ c o,c≠z->c≠TO->c≠i1->c≠i2->s.heap.get? c=some o->h'.get? c=some o)->Q (some (.ref s.heap.objs.size)) { s with heap:=h' }) :
  j8 (v6 prog w) A (pyNext (.ref z)) Q E s:=by
 have hT:s.TypeIs (.ref z) "zip":=⟨_,Z.z,rfl⟩
 unfold pyNext
 exact a9 (uc8 (uan (name := o8 "__next__") hT ue6 (uat ue6 hT F.entry_zip_next
     (yW D o1 o2 Z hl1 hl2 hx hy λ h' b1 b2 b3 b4=>c8 (hQ h' b1 b2 b3 b4)) (F.args_zip_next_1 _))))
theorem xI {t1 t2:Bool}{z TI TO i1 i2 l1 l2:j9}{k:Nat}{xs ys:Array d6}{Q:Option d6->d7->Prop}(hh:A.handled=none)(D:Ap z TI TO i1 i2)(o1:Out z TI TO i1 i2 l1)(o2:Out z TI TO i1 i2 l2)
  (Z:Zd t1 t2 s.heap z TI TO i1 i2 l1 l2 .none k) (hl1:SqAt t1 s.heap l1 xs) (hl2:SqAt t2 s.heap l2 ys) (hend:xs[k]?=none\/ys[k]?=none)
  (hQ:∀ h',(∀ c o,c≠z->c≠TO->c≠i1->c≠i2->s.heap.get? c=some o->h'.get? c=some o)->Q none { s with heap:=h' }):j8 (v6 prog w) A (pyNext (.ref z)) Q E s:=by
 have hT:s.TypeIs (.ref z) "zip":=⟨_,Z.z,rfl⟩
 unfold pyNext
 refine a9 (uc8 (uan (name := o8 "__next__") hT ue6 (uat ue6 hT F.entry_zip_next
     (yV hh D o1 o2 Z hl1 hl2 hend λ h' e hk he=>?_) (F.args_zip_next_1 _))))
 obtain⟨o,p1,p2⟩:=he
 exact a9 (udb (T:="StopIteration") (b:=true) ⟨o,p1,p2⟩ ufp (c8 (hQ _ hk)))
abbrev zh1 (h:Heap)(t1:Bool)(l1:j9):Heap:=h.push (itObj t1 l1)
abbrev zh2 (h:Heap)(t1 t2:Bool)(l1 l2:j9):Heap:=(zh1 h t1 l1).push (itObj t2 l2)
abbrev zh3 (h:Heap)(t1 t2:Bool)(l1 l2:j9):Heap:=(zh2 h t1 t2 l1 l2).push { cls:=.type "tuple",data:=.seq #[.ref h.objs.size,.ref (zh1 h t1 l1).objs.size] }
abbrev zh4 (h:Heap)(t1 t2:Bool)(l1 l2:j9):Heap:=(zh3 h t1 t2 l1 l2).push { cls:=.type "tuple",data:=.seq #[.none,.none] }
abbrev zh5 (h:Heap)(t1 t2:Bool)(l1 l2:j9):Heap:=(zh4 h t1 t2 l1 l2).push { cls:=.type "zip",data:=.fields #[.none,.bool false,.bool false,.ref (zh2 h t1 t2 l1 l2).objs.size,.ref (zh3 h t1 t2 l1 l2).objs.size] }
theorem zau (t1 t2:Bool)(l1 l2:j9)(xs ys:Array d6) :
  Meets (Builtin.«zip.__new__» ⟨[.type "zip",.ref l1,.ref l2],[]⟩) (λ _ R s=>SqAt t1 s.heap l1 xs/\SqAt t2 s.heap l2 ys/\R (.ok (.ret (.ref (zh4 s.heap t1 t2 l1 l2).objs.size))) { s with heap:=zh5 s.heap t1 t2 l1 l2 }) :=
 .of_wp λ prog w A R s h=>by
  obtain⟨hp,g,d,tk,os⟩:=s;obtain⟨hl1,hl2,h⟩:=h
  have hsub:=sub_zip
  have b1:SqAt t1 (Shared.heap ⟨hp,g,d,tk,os⟩) l1 xs:=hl1
  have b2:SqAt t2 (Shared.heap ⟨hp.push (itObj t1 l1),g,d,tk,os⟩) l2 ys:=SqAt.to hl2 λ o e=>b9 _ e
  wp_walk using fY b1,fY b2
  exact⟨_,rfl,h⟩
theorem zan {t1 t2:Bool}{l1 l2:j9}{xs ys:Array d6}{Q:d6->d7->Prop}(hl1:SqAt t1 s.heap l1 xs)(hl2:SqAt t2 s.heap l2 ys)
  (h:∀ h',Zd t1 t2 h' (s.heap.objs.size+4) (s.heap.objs.size+2) (s.heap.objs.size+3) s.heap.objs.size (s.heap.objs.size+1) l1 l2 .none 0->h'.objs.size=s.heap.objs.size+5 ->
   (∀ c o,s.heap.get? c=some o->h'.get? c=some o)->Q (.ref (s.heap.objs.size+4)) { s with heap:=h' }) :
  j8 (v6 prog w) A (call (.type "zip") [.ref l1,.ref l2]) Q E s:=by
 refine callType_new F.called_zip (by decide) (F.typeCall_zip_2 _ _) (F.newCall_zip_2 _ _) (λ obj=>F.args_object_init_3 obj _ _) F.entry_zip_new (zau t1 t2 l1 l2 xs ys) ⟨hl1,hl2,?_⟩
 have z1:(zh1 s.heap t1 l1).objs.size=s.heap.objs.size+1:=uaz ..
 have z2:(zh2 s.heap t1 t2 l1 l2).objs.size=s.heap.objs.size+2:=by rw[uaz,z1]
 have z3:(zh3 s.heap t1 t2 l1 l2).objs.size=s.heap.objs.size+3:=by rw[uaz,z2]
 have z4:(zh4 s.heap t1 t2 l1 l2).objs.size=s.heap.objs.size+4:=by rw[uaz,z3]
 have z5:(zh5 s.heap t1 t2 l1 l2).objs.size=s.heap.objs.size+5:=by rw[uaz,z4]
 have g5:(zh5 s.heap t1 t2 l1 l2).get? (zh4 s.heap t1 t2 l1 l2).objs.size=some _:=i6 _ rfl
 have g4:(zh5 s.heap t1 t2 l1 l2).get? (zh3 s.heap t1 t2 l1 l2).objs.size=some _:=b9 _ (i6 _ rfl)
 have g3:(zh5 s.heap t1 t2 l1 l2).get? (zh2 s.heap t1 t2 l1 l2).objs.size=some _:=b9 _ (b9 _ (i6 _ rfl))
 have g2:ItAt t2 (zh5 s.heap t1 t2 l1 l2) (zh1 s.heap t1 l1).objs.size l2 0:=(ItAt.new (t:=t2) (h:=zh1 s.heap t1 l1) (l:=l2)).to λ o e=>b9 _ (b9 _ (b9 _ e))
 have g1:ItAt t1 (zh5 s.heap t1 t2 l1 l2) s.heap.objs.size l1 0:=(ItAt.new (t:=t1) (h:=s.heap) (l:=l1)).to λ o e=>b9 _ (b9 _ (b9 _ (b9 _ e)))
 show _/\_
 rw[z2,z3,z4] at g5
 rw[z1,z2] at g3
 rw[z3] at g4
 rw[z1] at g2
 rw[z4]
 exact⟨⟨_,g5,rfl⟩,h _ ⟨g5,g3,⟨_,_,g4⟩,g1,g2⟩ z5 λ c o q=>b9 _ (b9 _ (b9 _ (b9 _ (b9 _ q))))⟩
theorem zct (n:Nat):Ap (n+4) (n+2) (n+3) n (n+1):=by
 constructor <;> (show (_:Nat)≠(_:Nat)) <;> left
theorem pS {n l:Nat}(h:l<n):Out (n+4) (n+2) (n+3) n (n+1) l:=by
 refine⟨?_,?_,?_,?_,?_⟩ <;> (show (_:Nat)≠(_:Nat)) <;> left
end
end Z3
namespace U3
open PySem PyProof.Rows
section
variable {prog:m5}{w:ual}{A:uaf}{E:d6->d7->Prop}{s:d7}
theorem oN {it l:j9}{xs:Array d6}(hne:l≠it):∀ (n i:Nat)(s:d7)(Q:List d6->d7->Prop),s.heap.IsListIter it l i->s.heap.IsList l xs->i+n<=xs.size ->
  (∀ h',h'.IsListIter it l (i+n)->Heap.SameBut it s.heap h'->Q ((xs.toList.drop i).take n) { s with heap:=h' })->j8 (v6 prog w) A (draw (.ref it) n) Q E s
 | 0,i,s,Q,hi,_,_,h=>by
  show j8 _ _ (pure []) Q E s
  exact c8 (by simpa using h s.heap hi (ub2 ..))
 | n+1,i,s,Q,hi,hl,hle,h=>by
  have lt:i<xs.size:=by left
  show j8 _ _ (pyNext (.ref it) >>= _) Q E s
  refine a9 (wpAny_pyNext_list_item hi hl (x:=xs[i]) (by simp [lt]) λ g1 i1 e1=>?_)
  refine a9 (uam (oN hne n (i+1) _ _ i1 (hl.extBut e1.extBut hne) (by left) λ g2 i2 e2=>c8 ?_))
  have hd:xs.toList.drop i=xs[i]::xs.toList.drop (i+1):=by simp [uee,lt]
  have q:=h g2 (by rw[show i+(n+1)=i+1+n by left];exact i2) (e1.trans e2)
  rw[hd,List.take_succ_cons] at q
  exact q
theorem vO {l:j9}{xs:Array d6}{targets:List (Bool × (d6->Sem Unit))}{Q:Unit->d7->Prop}(hh:A.handled=none)(hl:s.heap.IsList l xs)
  (hn:targets.length=xs.size) (hs:targets.findIdx? (·.1)=none)
  (h:∀ h',ud2 s.heap.objs.size s.heap h'->j8 (v6 prog w) A (assignInOrder (targets.map (·.2)) xs.toList) Q E { s with heap:=h' }) :
  j8 (v6 prog w) A (unpack (.ref l) targets) Q E s:=by
 have ne:l≠s.heap.objs.size:=by obtain⟨o,ho,_⟩:=hl;exact j7 (j3 ho)
 unfold unpack
 rw[hn,hs]
 refine a9 (uam ?_)
 unfold unpackItems
 refine a9 ?_
 unfold notIterableAtAll
 refine a9 (wpAny_specialOf hl.typeIs slot_list_iter.lookup ?_)
 refine c8 ?_
 simp only [ua0,if_false]
 refine a9 (uam (uc1 hl ?_))
 refine a9 (uam (oN ne xs.size 0 _ _ ⟨_,i6 _ rfl,rfl,rfl⟩ (hl.push _) (by left) λ g1 i1 e1=>?_))
 have all:List.take xs.size (List.drop 0 xs.toList)=xs.toList:=by
  rw[List.drop_zero];exact ub9 (by simp)
 rw[all,uhd (by simp)]
 have l1:g1.IsList l xs:=(hl.push _).extBut e1.extBut ne
 refine a9 (uam (wpAny_pyNext_list_end hh i1 l1 (by simp) λ g2 e2=>?_))
 simp only [Option.isSome_none,ua0,if_false]
 exact c8 (h g2 λ b o hb e=>e2 b o hb (e1.extBut b o hb (b9 _ e)))
theorem assign_tuple_lst {env:Env}{elts:List ucg} {x1} {pos:Pos} {l:j9} {xs:Array d6} {Q:Unit->d7->Prop} (hh:A.handled=none) (hl:s.heap.IsList l xs)
  (hn:(assignEach elts env).length=xs.size) (hs:(assignEach elts env).findIdx? (·.1)=none)
  (h:∀ h',ud2 s.heap.objs.size s.heap h'->j8 (v6 prog w) A (assignInOrder ((assignEach elts env).map (·.2)) xs.toList) Q E { s with heap:=h' }) :
  j8 (v6 prog w) A (assign (.Tuple elts x1 pos) env (.ref l)) Q E s:=by
 rw[assign_Tuple]
 exact a9 (uez (vO hh hl hn hs h))
end
end U3
namespace L3
open PySem PySem.Spec PyProof.Rows L2
abbrev Fls:d6->d7->Prop:=λ _ _=>False
abbrev testsOf (ifs:List ucg)(env:Env):Sem Bool :=
 forIn ifs true λ c r=>if r=true then do let ok ← isTrue c env (eval c env);pure (ForInStep.yield ok) else pure (ForInStep.yield r)
section
variable {prog:m5}{w:ual}{A:uaf}{R:Result->d7->Prop}{s:d7}
theorem wD {elt tg iter:ucg}{ifs:List ucg}{scope:ueh}{pos:Pos}{it acc:d6}{env:Env}(W:Nat->d7->Prop)
  (step:∀ n s,W n s->j8 (v6 prog w) A (pyNext it) (λ r s1=>(r=none/\R (.ok .next) s1)\/∃ v,r=some v /\
   j8 (v6 prog w) A (letOwnedTupleGo tg it v) (λ _ s2=>j8 (v6 prog w) A (assign tg env v) (λ _ s3 =>
    j8 (v6 prog w) A (testsOf ifs env) (λ ok s4=>if ok=true then j8 (v6 prog w) A (eval elt env) (λ x s5 =>
     j8 (v6 prog w) A (call (.builtin "list.append") [acc,x]) (λ _ s6=>∃ m,m<n/\W m s6) Fls s5) Fls s4 else ∃ m,m<n/\W m s4) Fls s3) Fls s2) Fls s1) Fls s)
  (n:Nat) (h:W n s):codeAny (v6 prog w) A (.compLoop (.ListComp elt [⟨tg,iter,ifs,0⟩] scope pos) 0 it acc env) R s:=by
 refine codeAny_loop rfl W (λ k s1 hk=>?_) n h
 show j8 _ A ((compTurn (.ListComp elt [⟨tg,iter,ifs,0⟩] scope pos) 0 it acc env).onRaise (λ x=>do noteFrame x env;theTreesLotGoes x)) _ _ s1
 refine wpAny_noted ?_
 rw[compTurn_list]
 refine a9 (uez (a9 (ub4 (step k s1 hk) (λ r s2 h2=>?_) λ _ _ z=>z.elim)))
 rcases h2 with ⟨rfl,h2⟩ | ⟨v,rfl,h2⟩
 ·exact c8 h2
 ·refine a9 (ub4 h2 (λ _ s3 h3=>?_) λ _ _ z=>z.elim)
  refine a9 (ub4 h3 (λ _ s4 h4=>?_) λ _ _ z=>z.elim)
  refine a9 (ub4 h4 (λ ok s5 h5=>?_) λ _ _ z=>z.elim)
  cases ok with
  | false=>exact c8 ⟨rfl,h5⟩
  | true =>
   refine a9 (a9 (ub4 h5 (λ x s6 h6=>?_) λ _ _ z=>z.elim))
   refine a9 (ub4 h6 (λ _ s7 h7=>?_) λ _ _ z=>z.elim)
   exact c8 (c8 ⟨rfl,h7⟩)
end
def clOf (cells:List (Str × j9)):List (Str × NameKind)->List (Str × j9)->List (Str × j9)
 | [],cs=>cs
 | (n,k)::r,cs=>clOf cells r (if k=.free then (n,(cells.lookup n).getD 0)::cs else cs)
theorem oQ {cells:List (Str × j9)}:∀ {names:List (Str × NameKind)}{cs:List (Str × j9)}{p:Str × j9},p∈clOf cells names cs->p∈cs\/((p.1,NameKind.free)∈names/\p.2=(cells.lookup p.1).getD 0)
 | [],_,_,h=>.inl h
 | (n,k)::r,cs,p,h=>by
  rcases oQ (names:=r) h with q | ⟨q1,q2⟩
  ·by_cases hk:k=.free
   ·rw[uhc hk] at q
    rcases j0.mp q with e | q
    ·subst e;subst hk;exact .inr ⟨i5,rfl⟩
    ·exact .inl q
   ·rw[uhd hk] at q;exact .inl q
  ·exact .inr ⟨i7 _ q1,q2⟩
theorem oR {cells:List (Str × j9)}:∀ {names:List (Str × NameKind)}{cs:List (Str × j9)}{x:Str},((x,NameKind.free)∈names\/∃ c,(x,c)∈cs)->∃ c,(x,c)∈clOf cells names cs
 | [],_,_,h=>h.elim (λ z=>nomatch z) id
 | (n,k)::r,cs,x,h=>by
  refine oR (names:=r) ?_
  rcases h with h | ⟨c,h⟩
  ·rcases j0.mp h with e | h
   ·cases e
    exact .inr ⟨_,by rw[uhc rfl];exact i5⟩
   ·exact .inl h
  ·refine .inr ⟨c,?_⟩
   split
   ·exact i7 _ h
   ·exact h
theorem iU {env:Env}:∀ (names:List (Str × NameKind))(cs:List (Str × j9)),(∀ y∈names,y.2=.free->∃ c,env.cells.lookup y.1=some c) ->
  (forIn names cs λ x r=>(match x with | (n,k)=>if (k==NameKind.free)=true then do let c ← cellOf env n;pure (ForInStep.yield ((n,c)::r)) else pure (ForInStep.yield r):Sem (ForInStep (List (Str × j9)))))=pure (clOf env.cells names cs)
 | [],cs,_=>rfl
 | (n,k)::r,cs,h=>by
  rw[udr]
  by_cases hk:k=.free
  ·subst hk
   obtain⟨c,hc⟩:=h (n,.free) i5 rfl
   have e1:cellOf env n=pure c:=by unfold cellOf;rw[hc]
   have e2:clOf env.cells ((n,NameKind.free)::r) cs=clOf env.cells r ((n,c)::cs):=by
    show clOf env.cells r (if NameKind.free=NameKind.free then (n,(env.cells.lookup n).getD 0)::cs else cs)=_
    rw[uhc rfl,hc]
    rfl
   rw[e2,← iU r ((n,c)::cs) λ y hy=>h y (i7 _ hy)]
   simp only [beq_self_eq_true,if_true,e1,pure_bind]
  ·have e2:clOf env.cells ((n,k)::r) cs=clOf env.cells r cs:=by
    show clOf env.cells r (if k=NameKind.free then _ else cs)=_
    rw[uhd hk]
   have hb:(k==NameKind.free)=false:=by simpa using hk
   rw[e2,← iU r cs λ y hy=>h y (i7 _ hy)]
   simp only [hb,ua0,if_false,pure_bind]
theorem wF {scope:ueh}{env:Env}(h:∀ y∈scope.names,y.2=.free->∃ c,env.cells.lookup y.1=some c):closureFor scope env=pure (clOf env.cells scope.names []):=by
 have q:=iU (env:=env) scope.names [] h
 unfold closureFor
 refine Eq.trans ?_ q
 first | rfl | simp
theorem kR {env:Env}:∀ {names:List (Str × NameKind)}{x:Str},names.lookup x=some .free ->
  (names.map λ (n,k)=>if (k==NameKind.free&&env.scope.kind==.function&&env.kindOf n==some .cell) then (n,NameKind.cell) else (n,k)).lookup x=some .cell \/
  (names.map λ (n,k)=>if (k==NameKind.free&&env.scope.kind==.function&&env.kindOf n==some .cell) then (n,NameKind.cell) else (n,k)).lookup x=some .free
 | [],_,h=>by simp at h
 | (n,k)::r,x,h=>by
  have ih:=@kR env r x
  rw[ucf]
  by_cases hx:(x==n)=true
  ·rw[ubc,hx] at h
   have h':k=.free:=by simpa using h
   subst h'
   dsimp only
   split
   ·apply k8;rw[ubc,hx]
   ·apply ue1;rw[ubc,hx]
  ·have hx':(x==n)=false:=by simpa using hx
   rw[ubc,hx'] at h
   dsimp only
   split
   ·rw[ubc,hx'];exact ih h
   ·rw[ubc,hx'];exact ih h
theorem lS {env:Env}:∀ {names:List (Str × NameKind)}{x:Str},(∀ y∈names,y.2≠.cell) ->
  ((names.map λ (n,k)=>if (k==NameKind.free&&env.scope.kind==.function&&env.kindOf n==some .cell) then (n,NameKind.cell) else (n,k)).lookup x=some .cell \/
  (names.map λ (n,k)=>if (k==NameKind.free&&env.scope.kind==.function&&env.kindOf n==some .cell) then (n,NameKind.cell) else (n,k)).lookup x=some .free)->(x,NameKind.free)∈names
 | [],_,_,h=>by simp at h
 | (n,k)::r,x,hc,h=>by
  rw[ucf] at h
  by_cases hx:(x==n)=true
  ·have e:x=n:=by simpa using hx
   subst e
   dsimp only at h
   by_cases hk:(k==NameKind.free&&env.scope.kind==.function&&env.kindOf x==some .cell)=true
   ·rw[uhc hk] at h
    have:k=.free:=by
     simp only [uaj] at hk
     simpa using hk.1.1
    subst this
    exact i5
   ·rw[uhd hk,ubc,hx] at h
    rcases h with h | h
    ·exact absurd (by simpa using h) (hc (x,k) i5)
    ·have:k=.free:=by simpa using h
     subst this
     exact i5
  ·have hx':(x==n)=false:=by simpa using hx
   refine i7 _ (lS (env:=env) (λ y hy=>hc y (i7 _ hy)) ?_)
   dsimp only at h
   split at h
   ·rw[ubc,hx'] at h;exact h
   ·rw[ubc,hx'] at h;exact h
def compOk (N:List Str)(sc0 scope:ueh)(fr:List Str)(js:List Nat):Bool :=
 decide (scope.kind=.function)&&(scope.names.all λ y=>decide (y.2≠.cell)&&(decide (y.2≠.free)||decide (sc0.names.lookup y.1=some .cell)||decide (sc0.names.lookup y.1=some .free)) &&
  (decide (y.2≠.local)||decide (scope.names.lookup y.1=some .local)))&&decide (fr.length=js.length) &&
 ((fr.zip js).all λ p=>decide (N[p.2]?=some p.1)&&decide (scope.names.lookup p.1=some .free)&&(decide (sc0.names.lookup p.1=some .cell)||decide (sc0.names.lookup p.1=some .free)))
def cxComp (X:Cx)(own fr:List Str)(scope:ueh)(fp:List j9)(pins:List (j9 × Obj))(s3:d7)(H3:Hp):Cx :=
 { X with N:=own++fr,s₀:=s3,H₀:=H3,env:=compEnvC scope (clOf X.env.cells scope.names []) s3.heap.objs.size X.env,outer:=X.stack,stack:=X.stack,ex:=fp,fn:=λ _=>false,pn:=X.pn++pins,xe:=Fls }
def PTs (X:Cx)(ifs:List ucg)(t:TT):Prop :=
 ∀ (pins:List (j9 × Obj))(s:d7)(σ:L2.St)(H:Hp)(Q:Bool->Hp->Prop),Inv X pins σ H s->t σ H Q->j8 (v6 X.prog X.w) X.A (testsOf ifs X.env) (TP X pins σ Q) X.xe s
def tTrue:TT:=λ _ H Q=>Q true H
theorem cG {X:Cx}:PTs X [] tTrue:=λ _ _ _ H _ I h=>wpAny_tests_nil ⟨H,I,h⟩
theorem dM {X:Cx}{c:ucg}{t:TT}(h:PT X c t):PTs X [c] t:=λ pins s σ H Q I q=>wpAny_tests_one (h pins s σ H Q I q)
def start3 (own:List Str)(js:List Nat)(σ:L2.St):L2.St:=o6 own.length none++js.map λ j=>(σ[j]?).join
def CompGo (own:List Str)(js:List Nat)(g:TG)(tt:TT)(te:TE)(σ:L2.St)(Q:VK)(J:It)(H1:Hp):Prop:=∀ D,H1 D=none->∃ W:Nat->Nat->List V->L2.St->Hp->Prop,
 (∃ m,W 0 m [] (start3 own js σ) (upd H1 D (.lst [])))/\∀ i m ys σ' H',W i m ys σ' H'->H' D=some (.lst ys) ->
  (J.stop i H'/\Q (.ref D) H')\/(J.go i H'/\∀ x H2,J.yld i H' x H2->g x σ' H2 λ σ3 H3=>tt σ3 H3 λ b H4 =>
   if b=true then te σ3 H4 λ v H5=>H5 D=some (.lst ys)/\ys.length<v5/\∃ m',m'<m/\W (i+1) m' (ys++[v]) σ3 (upd H5 D (.lst (ys++[v])))
   else H4 D=some (.lst ys)/\∃ m',m'<m/\W (i+1) m' ys σ3 H4)
def tComp (own:List Str)(js:List Nat)(wi:TI)(g:TG)(tt:TT)(te:TE):TE:=λ σ H Q=>wi σ H λ J H1=>CompGo own js g tt te σ Q J H1
section
variable {X:Cx}{elt tg iter:ucg}{ifs:List ucg}{scope sc0:ueh}{pos:Pos}{own fr N:List Str}{js:List Nat}{wi:TI}{g:TG}{tt:TT}{te:TE}
theorem xS {σ:L2.St}{js:List Nat}{k:Nat}{v:V}(e:(js.map λ j=>(σ[j]?).join)[k]?=some (some v)):∃ j,js[k]?=some j/\σ[j]?=some (some v):=by
 rw[k0] at e
 cases hj:js[k]? with
 | none=>rw[hj] at e;cases e
 | some j =>
  rw[hj] at e
  refine⟨j,rfl,?_⟩
  have e':(σ[j]?).join=some v:=by simpa using e
  cases hs:σ[j]? with
  | none=>rw[hs] at e';cases e'
  | some o=>rw[hs] at e';exact congrArg some e'
theorem zab {pins:List (j9 × Obj)}{σ:L2.St}{H3:Hp}{s3:d7}{fp:List j9}{h4:Heap}{t4:Nat}{m4:Str->Option d6}
  (hN:X.N=N) (hsc:X.env.scope=sc0) (hok:compOk N sc0 scope fr js=true) (I:Inv X pins σ H3 s3) (hf:∀ b∈fp,FpOk X pins H3 b) (hlt:∀ b∈fp,b<s3.heap.objs.size)
  (k:∀ b o,s3.heap.get? b=some o->h4.get? b=some o) (hns:h4.Ns s3.heap.objs.size m4):Inv (cxComp X own fr scope fp pins s3 H3) [] (start3 own js σ) H3 { s3 with heap:=h4,toks:=t4 }:=by
 subst hN hsc
 unfold compOk at hok
 simp only [uaj,decide_eq_true_eq,ucd] at hok
 obtain⟨⟨⟨hk,hall⟩,hlen⟩,hfr⟩:=hok
 have hfree:∀ y∈scope.names,y.2=.free->∃ c,X.env.cells.lookup y.1=some c:=λ y hy e=>by
  have q:=(hall y hy).1.2
  simp only [ucp,decide_eq_true_eq] at q
  rcases q with (q | q) | q
  ·exact absurd e q
  ·exact I.ok.has y.1 (.inl q)
  ·exact I.ok.has y.1 (.inr q)
 have hcl:∀ x c,(clOf X.env.cells scope.names []).lookup x=some c->X.env.cells.lookup x=some c:=λ x c e=>by
  rcases oQ (ubk e) with z | ⟨z1,z2⟩
  ·exact absurd z (by simp)
  ·obtain⟨c',hc'⟩:=hfree _ z1 rfl
   have hc'':X.env.cells.lookup x=some c':=hc'
   have z2':c=(X.env.cells.lookup x).getD 0:=z2
   rw[hc''] at z2' ⊢
   simp at z2'
   rw[z2']
 have hasC:∀ x,(x,NameKind.free)∈scope.names->∃ c,(clOf X.env.cells scope.names []).lookup x=some c:=λ x hx=>by
  obtain⟨c,hc⟩:=oR (cells:=X.env.cells) (cs:=[]) (.inl hx)
  cases q:(clOf X.env.cells scope.names []).lookup x with
  | some c'=>exact⟨c',rfl⟩
  | none =>
   have:∀ (l:List (Str × j9)),(x,c)∈l->l.lookup x≠none:=λ l=>by
    induction l with
    | nil=>intro z;cases z
    | cons p r ih =>
     intro z
     obtain⟨p1,p2⟩:=p
     rw[ubc]
     rcases j0.mp z with z | z
     ·cases z
      simp
     ·split
      ·simp
      ·exact ih z
   exact absurd q (this _ hc)
 have hcell:∀ y∈scope.names,y.2≠.cell:=λ y hy=>(hall y hy).1.1
 have sz:X.base.objs.size<=s3.heap.objs.size:=uas I.ok.bsz I.sz
 refine⟨⟨I.ok.mod,hk,I.ok.glob,I.ok.blt,h9 _,λ x y c e1 e2=>I.ok.inj x y c (hcl x c e1) (hcl y c e2),λ x hx=>hasC x (lS hcell hx),λ x c z=>absurd z (by simp [cxComp]),
  I.ok.hd,I.ok.frames,.inl rfl,λ b hb=>⟨j7 (hlt b hb),λ x c e=>(hf b hb).2.2.2.2.1 x c (hcl x c e)⟩,I.bs,sz,λ b o e hb=>?_,λ b hb z=>?_,I.stack,I.stkFree⟩,
  rfl,I.bare,Un.kept k,⟨m4,hns,λ i x v e1 e2 e3=>?_⟩,λ x c e=>?_,I.hok.fresh (h9 _),λ x c e=>I.freeC x c (hcl x c e),λ p hp=>?_,I.hok.kept k,?_⟩
 ·obtain⟨_,_,_,f3,_⟩:=hf b hb
  rcases f3 with f3 | f3
  ·exact I.ok.noex b o e f3
  ·exact absurd (m7 (j3 e) (uas I.ok.bsz f3)) (ub1 _)
 ·obtain⟨_,f1,f2,_⟩:=hf b hb
  rcases j0.mp (I.stkSub b z) with z | z
  ·exact f1 z
  ·exact f2 z
 ·have e2':(o6 own.length (none:Option V)++js.map λ j=>(σ[j]?).join)[i]?=some (some v):=e2
  have e1':(own++fr)[i]?=some x:=e1
  by_cases hi:i<own.length
  ·rw[uck (by simpa using hi),udq,uhc hi] at e2'
   cases e2'
  ·rw[uaq (by simpa using hi),uai] at e2'
   rw[uaq (by left)] at e1'
   obtain⟨j,hj,hv⟩:=xS e2'
   have hz:(fr.zip js)[i-own.length]?=some (x,j):=by
    rw[uec]
    exact⟨e1',hj⟩
   have q:=hfr _ (u6 hz)
   obtain⟨⟨q1,q2⟩,q3⟩:=q
   have q3'':X.env.scope.names.lookup x=some .cell\/X.env.scope.names.lookup x=some .free:=by simpa using q3
   have q3':X.env.kindOf x=some .cell\/X.env.kindOf x=some .free:=q3''
   obtain⟨m,hn,hl⟩:=I.loc
   obtain⟨u,r,l⟩:=hl j x v q1 hv (q3'.elim (λ z=>.inr (.inl z)) λ z=>.inr (.inr z))
   refine⟨u,r,.inr ⟨kR q2,?_⟩⟩
   rcases l with ⟨z,_⟩ | ⟨_,c,hc,hcellv⟩
   ·rcases q3' with w | w <;> (rw[z] at w;cases w)
   ·obtain⟨c',hc'⟩:=hasC x (ubk q2)
    have e:=hcl x c' hc'
    rw[hc] at e
    cases e
    obtain⟨o,ho,hd⟩:=hcellv
    exact⟨c,hc',o,k c o ho,hd⟩
 ·obtain⟨v,o,ho,hd⟩:=I.cell x c (hcl x c e)
  exact⟨v,o,k c o ho,hd⟩
 ·have hp':p∈X.pn++pins:=by
   have:p∈(X.pn++pins)++([]:List (j9 × Obj)):=hp
   simpa using this
  obtain⟨a,b,c,d,f⟩:=I.pin p hp'
  refine⟨k _ _ a,b,j7 (j3 a),λ z=>?_,f⟩
  rcases j0.mp (I.stkSub p.1 z) with z | z
  ·exact c z
  ·exact d z
 ·show (o6 own.length (none:Option V)++js.map λ j=>(σ[j]?).join).length=(own++fr).length
  simp [hlen]
theorem mZ {pins:List (j9 × Obj)}{s:d7}{σ:L2.St}{H:Hp}{Q:VK}{use:Option (d6->Sem Unit)}{Qo:d6->d7->Prop}{cpos:Pos}
  (hc:X.calm=true) (hi:PI X tg iter wi) (hg:∀ fp pins s3 H3,PG (cxComp X own fr scope fp pins s3 H3) tg g) (ht:∀ fp pins s3 H3,PTs (cxComp X own fr scope fp pins s3 H3) ifs tt)
  (he:∀ fp pins s3 H3,PE (cxComp X own fr scope fp pins s3 H3) elt te) (hok:compOk N sc0 scope fr js=true) (hN:X.N=N) (hsc:X.env.scope=sc0)
  (hs:∀ x,foldedSetIterable iter X.env x=pure x) (I:Inv X pins σ H s) (h:tComp own js wi g tt te σ H Q)
  (fin:∀ (C D:j9)(s6:d7)(H6:Hp)(m6:Str->Option d6),Inv X pins σ H6 s6->FpOk X pins H6 C->s6.heap.Ns C m6->Q (.ref D) H6->compPost (v6 X.prog X.w) X.A X.xe use Qo (.ref D) C (.ok .next) s6) :
  j8 (v6 X.prog X.w) X.A (comprehension (.ListComp elt [⟨tg,iter,ifs,0⟩] scope pos) scope X.env cpos (newList []) false (eval iter X.env) use) Qo X.xe s:=by
 have hok':=hok
 unfold compOk at hok'
 simp only [uaj,decide_eq_true_eq,ucd] at hok'
 obtain⟨⟨⟨hk,hall⟩,hlen⟩,hfr⟩:=hok'
 have hcell:∀ y∈scope.names,y.2≠.cell:=λ y hy=>(hall y hy).1.1
 have hloc:∀ y∈scope.names,y.2=.local->scope.names.lookup y.1=some .local:=λ y hy e=>by
  have q:=(hall y hy).2
  simp only [ucp,decide_eq_true_eq] at q
  rcases q with q | q
  ·exact absurd e q
  ·exact q
 have hfree:∀ y∈scope.names,y.2=.free->∃ c,X.env.cells.lookup y.1=some c:=λ y hy e=>by
  have q:=(hall y hy).1.2
  simp only [ucp,decide_eq_true_eq] at q
  rw[← hsc] at q
  rcases q with (q | q) | q
  ·exact absurd e q
  ·exact I.ok.has y.1 (.inl q)
  ·exact I.ok.has y.1 (.inr q)
 refine wpAny_comprehension_free (use:=use) rfl hs (wF hfree) hk hloc (thn (hi pins s σ H _ I h) λ v s1 h1=>thn h1 λ itv s2 h2=>?_)
 obtain⟨it,fp,tn,J,H2,e,I2,T,st2,f2,rd⟩:=h2
 subst e
 have hD2:H2 s2.heap.objs.size=none:=I2.fresh
 obtain⟨W,⟨m0,w0⟩,turn⟩:=rd s2.heap.objs.size hD2
  -- the new list
 refine udw ?_ (w8 _)
 have I3:Inv X pins σ (upd H2 s2.heap.objs.size (.lst [])) { s2 with heap:=s2.heap.push { cls:=.type "list",data:=.seq ([]:List d6).toArray } }:=I2.lnew (t':=s2.toks) .nil (w8 _)
 generalize hs3:({ s2 with heap:=s2.heap.push { cls:=.type "list",data:=.seq ([]:List d6).toArray } }:d7)=s3 at I3
 generalize hD:s2.heap.objs.size=D at *
 have fpl:∀ b∈fp,b<D:=λ b hb=>by
  obtain⟨o,ho,_⟩:=T.obj _ _ st2 b hb
  rw[← hD];exact j3 ho
 have k23:∀ b o,s2.heap.get? b=some o->s3.heap.get? b=some o:=λ b o e=>by rw[← hs3];exact b9 _ e
 have hD3:s3.heap.objs.size=D+1:=by rw[← hs3,← hD];exact uaz ..
 have f3:∀ b∈fp,FpOk X pins (upd H2 D (.lst [])) b:=λ b hb=>by
  obtain⟨f0,f⟩:=f2 b hb
  exact⟨by rw[aM (j7 (fpl b hb))];exact f0,f⟩
 refine wpAny_newFunctionEnv hcell (by intro y hy;simp at hy) (λ h4 hns4 hsb4=>?_) hk
 have k34:∀ b o,s3.heap.get? b=some o->h4.get? b=some o:=λ b o e=>hsb4.extBut b o (j7 (j3 e)) (b9 _ e)
 have I4:=zab (own:=own) (t4:=s3.toks+([]:List (Str × d6)).length) hN hsc hok I3 f3 (λ b hb=>m7 (fpl b hb) (by rw[hD3];exact ub8 _)) k34 hns4
 have tn4:tn 0 h4:=T.keep 0 s2.heap h4 st2 λ b hb o e=>k34 b o (k23 b o e)
 have I4o:=I4.ok
 have fpS:∀ {H'':Hp},(∀ b∈fp,H'' b=none)->∀ b∈fp,FpOk (cxComp X own fr scope fp pins s3 (upd H2 D (.lst []))) [] H'' b:=λ hn b hb =>
  ⟨hn b hb,(I4o.exf b hb).1,I4o.exfs b hb,.inl hb,(I4o.exf b hb).2,λ p hp=>(f2 b hb).2.2.2.2.2 p (by
   have:p∈(X.pn++pins)++([]:List (j9 × Obj)):=hp
   simpa using this)⟩
 have loop : codeAny (v6 X.prog X.w) X.A (.compLoop (.ListComp elt [⟨tg, iter, ifs, 0⟩] scope pos) 0 (.ref it) (.ref D) (compEnvC scope (clOf X.env.cells scope.names []) s3.heap.objs.size X.env))
     (compPost (v6 X.prog X.w) X.A X.xe use Qo (.ref D) s3.heap.objs.size) { s3 with heap:=h4,toks:=s3.toks+([]:List (Str × d6)).length }:=by
  refine wD (λ n s'=>∃ i ys σ' H',Inv (cxComp X own fr scope fp pins s3 (upd H2 D (.lst []))) [] σ' H' s'/\tn i s'.heap/\(∀ b∈fp,H' b=none)/\H' D=some (.lst ys)/\W i n ys σ' H')
   ?step m0 ⟨0,[],_,_,I4,tn4,λ b hb=>(f3 b hb).1,aH,w0⟩
  rintro n s5 ⟨i,ys,σ5,H5,I5,tn5,fr5,d5,w5⟩
  rcases turn i n ys σ5 H5 w5 d5 with ⟨stop,q⟩ | ⟨go,stp⟩
  ·refine thn (T.done (cxComp X own fr scope fp pins s3 (upd H2 D (.lst []))) rfl rfl rfl hc i [] s5 σ5 H5 Fls I5 (fpS fr5) tn5 stop) λ r s6 ⟨hr,I6⟩=>.inl ⟨hr,?_⟩
   obtain⟨m6,hn6,_⟩:=id I6.loc
   have u1:Un (frs X.stack) fp H2 H5 s2.heap s6.heap:=(Un.laid k23 (ueb hD) hD2).trans I6.base
   have fC:H5 s3.heap.objs.size=none:=I6.free
   have IX:Inv X pins σ H5 s6:=I2.call' (s':=s6) (ch:=fp) (by
    have:=I6.os
    rw[← hs3] at this
    exact this) u1 I6.hok I6.bare λ b hb=>by
     obtain⟨_,g1,_,g3,g4,g5⟩:=f2 b hb
     exact⟨g3,g1,g4,g5⟩
   exact fin s3.heap.objs.size D s6 H5 m6 IX (I2.fpOk (by rw[hD3,hD];exact ub8 _) fC) hn6 q
  ·refine thn (T.item (cxComp X own fr scope fp pins s3 (upd H2 D (.lst []))) rfl rfl rfl hc i [] s5 σ5 H5 Fls I5 (fpS fr5) tn5 go) λ r s6 ⟨u,hr,h6⟩=>.inr ⟨u,hr,thn h6 λ _ s7 ⟨x,H7,I7,r7,y7,tn7,fr7⟩=>?_⟩
   have I7':=I7.pinned (fpS fr7) (T.obj _ _ tn7)
   refine thn (hg fp pins s3 (upd H2 D (.lst [])) _ s7 σ5 H7 x u _ I7' r7 (stp x H7 y7)) λ _ s8 ⟨σ8,H8,I8,q8⟩=>?_
   refine thn (ht fp pins s3 (upd H2 D (.lst [])) _ s8 σ8 H8 _ I8 q8) λ ok s9 ⟨H9,I9,q9⟩=>?_
   have back:∀ {σ':L2.St}{H':Hp}{s':d7},Inv (cxComp X own fr scope fp pins s3 (upd H2 D (.lst []))) ([]++pinsAt fp s7.heap) σ' H' s'->tn (i+1) s'.heap/\∀ b∈fp,H' b=none:=λ {σ' H' s'} J=>by
    refine⟨T.keep _ _ _ tn7 λ b hb o e=>(J.pin (b,o) (r8 _ (r8 _ (gJ hb e)))).1,λ b hb=>?_⟩
    obtain⟨o,e,_⟩:=T.obj _ _ tn7 b hb
    exact (J.pin (b,o) (r8 _ (r8 _ (gJ hb e)))).2.1
   cases ok with
   | false =>
    rw[uhd j6] at q9
    obtain⟨d9,m',hm,w9⟩:=q9
    rw[uhd j6]
    exact⟨m',hm,i+1,ys,σ8,H9,I9.unpinned,(back I9).1,(back I9).2,d9,w9⟩
   | true =>
    rw[uhc rfl] at q9 ⊢
    refine thn (he fp pins s3 (upd H2 D (.lst [])) _ s9 σ8 H9 _ I9 q9) λ xv s10 ⟨v,H10,I10,r10,d10,len,m',hm,w10⟩=>?_
    refine thn (gN (X:=cxComp X own fr scope fp pins s3 (upd H2 D (.lst []))) _ s10 σ8 H10 (.ref D) [v] (.ref D) [xv] (λ _ H'=>H'=upd H10 D (.lst (ys++[v]))) I10 rfl (.cons r10 .nil) ⟨D,ys,v,rfl,rfl,d10,len,rfl⟩) λ _ s11 ⟨_,H11,I11,_,e11⟩=>?_
    subst e11
    exact⟨m',hm,i+1,ys++[v],σ8,_,I11.unpinned,(back I11).1,(back I11).2,aH,w10⟩
 exact codeAny_compStart_list loop (T.self X.A 0 _ _ _ tn4 loop)
theorem cF (hc:X.calm=true)(hi:PI X tg iter wi)(hg:∀ fp pins s3 H3,PG (cxComp X own fr scope fp pins s3 H3) tg g)(ht:∀ fp pins s3 H3,PTs (cxComp X own fr scope fp pins s3 H3) ifs tt)
  (he:∀ fp pins s3 H3,PE (cxComp X own fr scope fp pins s3 H3) elt te) (hok:compOk N sc0 scope fr js=true:=by symm) (hN:X.N=N:=by rfl) (hsc:X.env.scope=sc0:=by rfl)
  (hs:∀ x,foldedSetIterable iter X.env x=pure x:=by intro _;rfl):PE X (.ListComp elt [⟨tg,iter,ifs,0⟩] scope pos) (tComp own js wi g tt te):=by
 intro pins s σ H Q I h
 rw[eval_ListComp]
 refine mZ hc hi hg ht he hok hN hsc hs I h λ C D s6 H6 m6 I6 f6 n6 q6=>⟨m6,n6,λ h7 sb=>⟨.ref D,H6,?_,rfl,q6⟩⟩
 obtain⟨f0,f1,_,f3,f4,f5⟩:=f6
 exact I6.turned (it:=C) (t':=s6.toks) (λ b o hb e=>sb.extBut b o hb e) f0 f1 f3 f4 f5
theorem dZ {i:Nat}{y:Str}{py spos:Pos}(hc:X.calm=true)(hi:PI X tg iter wi)(hg:∀ fp pins s3 H3,PG (cxComp X own fr scope fp pins s3 H3) tg g)(ht:∀ fp pins s3 H3,PTs (cxComp X own fr scope fp pins s3 H3) ifs tt)
  (he:∀ fp pins s3 H3,PE (cxComp X own fr scope fp pins s3 H3) elt te) (hNd:X.N.Nodup) (hy:X.N[i]?=some y) (hx:Loc X.env.scope y) (hok:compOk N sc0 scope fr js=true:=by symm) (hN:X.N=N:=by rfl) (hsc:X.env.scope=sc0:=by rfl)
  (hsw:swapsWith (.ListComp elt [⟨tg,iter,ifs,0⟩] scope pos) (some (.Name y py)) spos.line X.env=pure true:=by rfl) (hf:X.fn y=true\/X.env.scope.names.lookup y=some .local:=by first | exact .inl rfl | exact .inr rfl | assumption)
  (hs:∀ x,foldedSetIterable iter X.env x=pure x:=by intro _;rfl):PS X (.Assign [.Name y py] (.ListComp elt [⟨tg,iter,ifs,0⟩] scope pos) spos) (tAsg (tComp own js wi g tt te) (gName i)):=by
 intro pins s σ H D I h
 rw[exec_Assign_Name_used _ _ _ _ hsw]
 refine a9 (uez (a9 ?_))
 show j8 _ _ (do let _ ← comprehension (.ListComp elt [⟨tg,iter,ifs,0⟩] scope pos) scope X.env _ (newList []) false (eval iter X.env) (some (assign (.Name y py) X.env))) _ _ s
 refine a9 (ub4 (mZ (use:=some (assign (.Name y py) X.env)) (Qo:=λ _ s'=>SP X pins D .next s') hc hi hg ht he hok hN hsc hs I h λ C L s6 H6 m6 I6 f6 n6 q6=>?_) (λ _ s' q=>c8 (c8 q)) λ _ _ z=>z)
 obtain⟨f0,f1,f2,f3,f4,f5⟩:=f6
 show j8 _ _ (assign (.Name y py) X.env (.ref L)) _ _ s6
 refine wpAny_assign_Name (mC I6 hNd hy hx (v:=.ref L) rfl (λ s7 I7 ⟨a,sb,ha⟩=>?_) hf)
 have ne:C≠a:=by
  rcases ha with e | e
  ·rw[e];exact f1
  ·exact λ z=>f4 y a e z.symm
 refine⟨m6,n6.sameBut sb ne,λ h8 sb8=>⟨σ.set i (some (.ref L)),H6,?_,q6⟩⟩
 exact I7.turned (it:=C) (t':=s7.toks) (λ b o hb e=>sb8.extBut b o hb e) f0 f1 f3 f4 f5
end
section
variable {X:Cx}{pins:List (j9 × Obj)}{σ:L2.St}{H H':Hp}{s:d7}{h':Heap}{ch:List j9}{t':Nat}
theorem turnsTo (I:Inv X pins σ H s)(hf:∀ b∈ch,FpOk X pins H b)(k:∀ b o,b∉ch->s.heap.get? b=some o->h'.get? b=some o)(hH:∀ b u,H b=some u->H' b=some u)
  (hfree:∀ b o,s.heap.get? b=some o->H b=none->H' b=none) (hok:HOk X.prog X.w H' h'):Inv X pins σ H' { s with heap:=h',toks:=t' }:=by
 refine I.step (g':=s.gens) (d':=s.drawn) (ch:=ch) (λ b hb=>?_) (λ b o _ _ hc e _=>k b o hc e) (λ b o _ _ hc e _=>⟨o.slots,k b o hc e⟩) (λ b o _ e n=>hfree b o e n) (λ b o hc e=>⟨o,k b o hc e⟩)
  (λ b xs e=>hH _ _ e) (λ b o u e=>hH _ _ e) (λ b ps e=>⟨#[],by rw[hH _ _ e];simp⟩) (λ m hm=>?_) hok I.bare
 ·obtain⟨_,f1,_,f3,f4,f5⟩:=hf b hb
  exact⟨f3,f1,f4,f5⟩
 ·obtain⟨o,es,ep,ho,r⟩:=hm
  exact⟨o,es,ep,k _ o (λ z=>(hf _ z).2.1 rfl) ho,r⟩
theorem turns (I:Inv X pins σ H s)(hf:∀ b∈ch,FpOk X pins H b)(k:∀ b o,b∉ch->s.heap.get? b=some o->h'.get? b=some o):Inv X pins σ H { s with heap:=h',toks:=t' }:=by
 refine turnsTo I hf k (λ _ _ e=>e) (λ _ _ _ n=>n) λ b u e=>?_
 refine (I.hok b u e).stay (λ c v hc q=>k c v (λ z=>?_) q) (λ _ q=>q) λ _ _ q=>q
 have n:=(hf c z).1
 rcases hc with rfl | hc
 ·rw[n] at e;cases e
 ·rw[n] at hc;cases hc
theorem turnsTup {xs:List V}{its:List d6}{T:j9}(I:Inv X pins σ H s)(hf:∀ b∈ch,FpOk X pins H b)(k:∀ b o,b∉ch->s.heap.get? b=some o->h'.get? b=some o)(hT:s.heap.objs.size<=T)
  (hz:xs.length<=v5) (hv:Vals xs its) (ht:TupN h' T its.toArray):Inv X pins σ (upd H T (.tup xs)) { s with heap:=h',toks:=t' }:=by
 have fr:H T=none:=I.hok.fresh hT
 have ne:∀ b u,H b=some u->b≠T:=λ b u e=>aP e fr
 refine turnsTo I hf k (λ b u e=>by rw[aM (ne b u e)];exact e) (λ b o e n=>by rw[aM (j7 (m7 (j3 e) hT))];exact n) λ b u e=>?_
 by_cases hb:b=T
 ·subst hb
  rw[aH] at e
  cases e
  exact⟨hz,its,hv,ht⟩
 ·rw[aM hb] at e
  refine (I.hok b u e).stay (λ c v hc q=>k c v (λ z=>?_) q) (λ c q=>by rw[aM (ne c _ q)];exact q) λ c ys q=>by rw[aM (ne c _ q)];exact q
  have n:=(hf c z).1
  rcases hc with rfl | hc
  ·rw[n] at e;cases e
  ·rw[n] at hc;cases hc
end
def SqX (t:Bool)(K:c6)(H:Hp)(a:j9)(xs:List V):Prop:=if t=true then SqT K H a xs else SqL K H a xs
section
variable {X:Cx}{pins:List (j9 × Obj)}{σ:L2.St}{H:Hp}{s:d7}{a:j9}{xs ys:List V}{t:Bool}
theorem seqX (I:Inv X pins σ H s)(h:SqX t X.K H a xs):∃ its:List d6,Vals xs its/\Z3.SqAt t s.heap a its.toArray/\xs.length<=v5:=by
 cases t with
 | true=>obtain⟨its,r,p,z⟩:=I.tuple (show SqT X.K H a xs from h);exact⟨its,r,p,z⟩
 | false=>obtain⟨its,r,p,z⟩:=I.list (show SqL X.K H a xs from h);exact⟨its,r,p.isList,z⟩
theorem jD (I:Inv X pins σ H s)(h:SqX t X.K H a xs)(h':SqX t X.K H a ys):xs=ys:=by
 cases t with
 | true=>exact I.tuple_inj h h'
 | false=>exact I.list_inj h h'
end
def Itz (t1 t2:Bool)(K:c6)(l1 l2:j9):It :=
 ⟨λ i H=>∃ xs ys x y,SqX t1 K H l1 xs/\SqX t2 K H l2 ys/\xs[i]?=some x/\ys[i]?=some y,
  λ i H v H'=>∃ T x y,H T=none/\v=.ref T/\H'=upd H T (.tup [x,y])/\(∀ xs,SqX t1 K H l1 xs->xs[i]?=some x)/\(∀ ys,SqX t2 K H l2 ys->ys[i]?=some y),
  λ i H=>∃ xs ys,SqX t1 K H l1 xs/\SqX t2 K H l2 ys/\(xs.length<=i\/ys.length<=i)⟩
theorem zB {P:m5}{w:ual}{K:c6}{elts:List ucg}{kk:Nat}{pos:Pos}{t1 t2:Bool}{z TI TO i1 i2 l1 l2:j9}(D:Z3.Ap z TI TO i1 i2)(o1:Z3.Out z TI TO i1 i2 l1)(o2:Z3.Out z TI TO i1 i2 l2) :
  Turn P w K (.Tuple elts kk pos) (Itz t1 t2 K l1 l2) [z,TI,TO,i1,i2] z (λ i h=>Z3.Zd t1 t2 h z TI TO i1 i2 l1 l2 .none i) where
 mem:=by simp
 obj:=λ i h st b hb=>by
  obtain⟨q1,q2,⟨_,_,q3⟩,q4,q5⟩:=st
  obtain⟨o4,n4,e4,_,d4⟩:=q4.obj
  obtain⟨o5,n5,e5,_,d5⟩:=q5.obj
  simp only [j0,w6,or_false] at hb
  rcases hb with rfl | rfl | rfl | rfl | rfl
  ·exact⟨_,q1,λ v q=>by cases q⟩
  ·exact⟨_,q2,λ v q=>by cases q⟩
  ·exact⟨_,q3,λ v q=>by cases q⟩
  ·exact⟨_,e4,λ v q=>by rw[d4] at q;cases q⟩
  ·exact⟨_,e5,λ v q=>by rw[d5] at q;cases q⟩
 keep:=λ i h h' st k=>by
  obtain⟨q1,q2,⟨a,b,q3⟩,q4,q5⟩:=st
  exact⟨k z (by simp) _ q1,k TI (by simp) _ q2,⟨a,b,k TO (by simp) _ q3⟩,q4.to λ o e=>k i1 (by simp) o e,q5.to λ o e=>k i2 (by simp) o e⟩
 item:=by
  intro X hP hw hK hc i pins s σ H E I hf st hg
  subst hP hw hK
  obtain⟨xs,ys,x,y,q1,q2,hx,hy⟩:=hg
  obtain⟨its1,r1,p1,z1⟩:=seqX I q1
  obtain⟨its2,r2,p2,z2⟩:=seqX I q2
  obtain⟨u1,hu1,ru1⟩:=r1.get hx
  obtain⟨u2,hu2,ru2⟩:=r2.get hy
  have hf4:∀ b∈[z,TO,i1,i2],FpOk X pins H b:=λ b hb=>hf b (by
   simp only [j0,w6,or_false] at hb ⊢
   rcases hb with rfl | rfl | rfl | rfl <;> simp)
  refine Z3.xJ D o1 o2 st p1 p2 (x:=u1) (y:=u2) (by simpa using hu1) (by simpa using hu2) λ h' zd tp sz kp=>?_
  have I1 : Inv X pins σ (upd H s.heap.objs.size (.tup [x, y])) { s with heap := h', toks := s.toks } := turnsTup (ch := [z, TO, i1, i2]) (its := [u1, u2]) I hf4 (λ b o hb e => by
      simp only [j0,w6,or_false,not_or] at hb
      exact kp b o hb.1 hb.2.1 hb.2.2.1 hb.2.2.2 e) (h9 _) (by show 2<=v5;rw[ubj];decide) (.cons ru1 (.cons ru2 .nil)) ⟨_,tp,rfl,⟨_,rfl⟩,rfl⟩
  have fr:H s.heap.objs.size=none:=I.fresh
  have zne:∀ b∈[z,TI,TO,i1,i2],b≠s.heap.objs.size:=λ b hb e=>by
   have key:∃ o,s.heap.get? b=some o:=by
    obtain⟨q1,q2,⟨_,_,q3⟩,q4,q5⟩:=st
    obtain⟨o4,n4,e4,_,d4⟩:=q4.obj
    obtain⟨o5,n5,e5,_,d5⟩:=q5.obj
    simp only [j0,w6,or_false] at hb
    rcases hb with rfl | rfl | rfl | rfl | rfl
    ·exact⟨_,q1⟩
    ·exact⟨_,q2⟩
    ·exact⟨_,q3⟩
    ·exact⟨_,e4⟩
    ·exact⟨_,e5⟩
   obtain⟨o,ho⟩:=key
   exact absurd (j3 ho) (by rw[e];exact ub1 _)
  refine⟨_,rfl,wpAny_letOwnedTupleGo_zip zd.z λ h2 zd2 sb=>?_⟩
  obtain⟨f0,f1,f2,f3,f4,f5⟩:=hf z (by simp)
  have I2:Inv X pins σ (upd H s.heap.objs.size (.tup [x,y])) { s with heap:=h2,toks:=s.toks }:=Inv.turned (s:={ s with heap:=h',toks:=s.toks }) (it:=z) (t':=s.toks) I1 (λ b o hb e=>sb.extBut b o hb e) (by rw[aM (zne z (by simp))];exact f0) f1 f3 f4 f5
  refine⟨.ref s.heap.objs.size,_,I2,rfl,⟨_,x,y,fr,rfl,rfl,λ zs hz=>by rw[jD I hz q1];exact hx,λ zs hz=>by rw[jD I hz q2];exact hy⟩,?_,λ b hb=>by rw[aM (zne b hb)];exact (hf b hb).1⟩
  obtain⟨_,w2,⟨a3,b3,w3⟩,w4,w5⟩:=zd
  exact⟨zd2,sb.extBut _ _ D.n1 w2,⟨a3,b3,sb.extBut _ _ D.n2 w3⟩,w4.to λ o e=>sb.extBut _ _ D.n3 e,w5.to λ o e=>sb.extBut _ _ D.n4 e⟩
 done:=by
  intro X hP hw hK hc i pins s σ H E I hf st hg
  subst hP hw hK
  obtain⟨xs,ys,q1,q2,hx⟩:=hg
  obtain⟨its1,r1,p1,z1⟩:=seqX I q1
  obtain⟨its2,r2,p2,z2⟩:=seqX I q2
  have l1:=r1.length
  have l2:=r2.length
  have hf4:∀ b∈[z,TO,i1,i2],FpOk X pins H b:=λ b hb=>hf b (by
   simp only [j0,w6,or_false] at hb ⊢
   rcases hb with rfl | rfl | rfl | rfl <;> simp)
  refine Z3.xI (I.ok.hd hc) D o1 o2 st p1 p2 (hx.elim (λ q=>.inl (by simp;left)) λ q=>.inr (by simp;left)) λ h' kp=>⟨rfl,?_⟩
  exact turns (ch:=[z,TO,i1,i2]) (t':=s.toks) I hf4 λ b o hb e=>by
   simp only [j0,w6,or_false,not_or] at hb
   exact kp b o hb.1 hb.2.1 hb.2.2.1 hb.2.2.2 e
 self:=λ _ _ _ _ _ st h=>wpAny_pyIter_zip st.z h
def iZip (t1 t2:Bool)(K:c6)(ta:TA):TI:=λ σ H R=>ta σ H λ vs H1=>∃ l1 l2,vs=[.ref l1,.ref l2]/\(∃ xs,SqX t1 K H1 l1 xs)/\(∃ ys,SqX t2 K H1 l2 ys)/\R (Itz t1 t2 K l1 l2) H1
theorem kC {X:Cx}{elts:List ucg}{kk:Nat}{pos':Pos}(t1 t2:Bool){a b:ucg}{ta:TA}{p pos:Pos}(hg:Gl X "zip")(hm:X.mg "zip"=none)(ha:PA X [a,b] ta)
  (hs:ubd [a,b] X.env=[(false,eval a X.env),(false,eval b X.env)]:=by rfl) (hs2:ubd [b] X.env=[(false,eval b X.env)]:=by rfl) :
  PI X (.Tuple elts kk pos') (.Call (.Name "zip" p) [a,b] [] pos) (iZip t1 t2 X.K ta):=by
 intro pins s σ H R I h
 refine Call_ (dE I hg hm boot_zip (ucv (thn (ha pos pins s σ H _ I h) λ us s1 ⟨vs,H1,I1,r1,q1⟩=>?_) (by rw[hs,hs2]) (by rw[hs2];rfl)))
 obtain⟨l1,l2,e,⟨xs,qx⟩,⟨ys,qy⟩,q⟩:=q1
 subst e
 cases r1 with
 | cons r rr =>
  cases rr with
  | cons r' rr =>
   cases rr
   cases r
   cases r'
   obtain⟨its1,r1,p1,z1⟩:=seqX I1 qx
   obtain⟨its2,r2,p2,z2⟩:=seqX I1 qy
   have lt:∀ {t:Bool}{l:j9}{xs:Array d6},Z3.SqAt t s1.heap l xs->l<s1.heap.objs.size:=λ {t l xs} q=>by
    cases t with
    | true=>obtain⟨o,e,_⟩:=(show s1.heap.IsTuple l xs from q);exact j3 e
    | false=>obtain⟨o,e,_⟩:=(show s1.heap.IsList l xs from q);exact j3 e
   refine Z3.zan p1 p2 λ h' zd sz kp=>wpAny_pyIter_zip zd.z ?_
   have I2:Inv X pins σ H1 { s1 with heap:=h',toks:=s1.toks }:=I1.kept (t':=s1.toks) kp
   refine⟨s1.heap.objs.size+4,[s1.heap.objs.size+4,s1.heap.objs.size+2,s1.heap.objs.size+3,s1.heap.objs.size,s1.heap.objs.size+1],_,_,H1,rfl,I2,zB (Z3.zct _) (Z3.pS (lt p1)) (Z3.pS (lt p2)),zd,λ b hb=>?_,q⟩
   have hb':s1.heap.objs.size<=b:=by
    simp only [j0,w6,or_false] at hb
    rcases hb with rfl | rfl | rfl | rfl | rfl
    ·exact udz _ _
    ·exact udz _ _
    ·exact udz _ _
    ·exact h9 _
    ·exact udz _ _
   exact I1.fpOk hb' (I1.hok.fresh hb')
section
variable {X:Cx}{pos:Pos}
inductive gLst_i (K:c6)(n:Nat)(t:TGs)(v:V)(σ:L2.St)(H:Hp)(Q:L2.St->Hp->Prop):Prop
 | mk:∀ a xs,(v=.ref a)->(SqL K H a xs)->(xs.length=n)->(t xs σ H Q)->gLst_i K n t v σ H Q
def gLst (K:c6)(n:Nat)(t:TGs):TG:=λ v σ H Q=>gLst_i K n t v σ H Q
theorem zb7 {es:List ucg}{k:Nat}{t:TGs}{n:Nat}(hc:X.calm=true)(h:PGs X es t)(hn:(assignEach es X.env).length=n:=by rfl)(hst:(assignEach es X.env).findIdx? (·.1)=none:=by rfl):PG X (.Tuple es k pos) (gLst X.K n t):=by
 intro pins s σ H v u Q I r hw
 obtain⟨a,xs,e1,hq,hl,hw⟩:=hw
 subst e1
 cases r
 obtain⟨its,rv,ht,hz⟩:=I.list hq
 refine U3.assign_tuple_lst (I.ok.hd hc) ht.isList (by simp [hn,← hl,rv.length]) hst λ h' hx=>?_
 have I1:Inv X pins σ H { s with heap:=h' }:=I.kept (t':=s.toks) λ b o e=>hx b o (j7 (j3 e)) e
 exact h pins _ σ H xs _ Q I1 (by simpa using rv) hw
theorem zD {prog:m5}{w:ual}{A:uaf}{bs:List Bool}{its:List d6}(r:Vals (bs.map V.bl) its):TruthOf prog w A (λ i v=>its.toArray[i]?=some v) (λ i=>bs.getD i true):=by
 intro i v s Q E hP hq
 have hP':its[i]?=some v:=by simpa using hP
 have hl:=r.length
 have hi:i<its.length:=(m9.mp hP').1
 have hb:i<bs.length:=by rw[c9] at hl;left
 obtain⟨u,hu,ru⟩:=r.get (i:=i) (x:=V.bl bs[i]) (by rw[k0,d8 hb];rfl)
 rw[hP'] at hu
 cases hu
 have e:v=Value.bool bs[i]:=ru
 subst e
 have e2:bs.getD i true=bs[i]:=by simp [uc4,hb]
 have hq':Q (bs.getD i true) s:=hq
 rw[e2] at hq'
 exact ucy hq'
theorem yU (bs:List Bool):((c7 bs.length).all λ i=>bs.getD i true)=bs.all id:=by
 rw[ubb,ucd,ucd]
 constructor
 ·intro h b hb
  obtain⟨i,hi,e⟩:=ud5 hb
  have:=h i (j4.mpr hi)
  rw[← e]
  simpa [uc4,hi] using this
 ·intro h i hi
  have hi':=j4.mp hi
  have:=h bs[i] (udl hi')
  simpa [uc4,hi'] using this
inductive call_all_i (K:c6)(xs:List V)(H:Hp)(Q:VK):Prop
 | mk:∀ (p:j9)(bs:List Bool),(xs=[.ref p])->(SqL K H p (bs.map V.bl))->(Q (.bl (bs.all id)) H)->call_all_i K xs H Q
theorem zao (hh:X.calm=true):CallR X (.builtin "all") (call_all_i X.K):=by
 intro pins s σ H xs us Q I r h
 obtain⟨p,bs,rfl,hq,q⟩:=h
 obtain⟨u,rfl,rx⟩:=vals1 r
 cases rx
 obtain⟨its,rv,pl,hz⟩:=I.list hq
 have hl:=rv.length
 have lt:p≠s.heap.objs.size:=by obtain⟨o,e,_⟩:=pl.isList;exact j7 (j3 e)
 refine call_all_walk (uc1 pl.isList ?_)
 have W:=Walks.list (prog:=X.prog) (w:=X.w) (A:=X.A.in1) (show X.A.in1.handled=none from I.ok.hd hh) s.heap.objs.size p lt its.toArray
 refine⟨s.heap.objs.size,_,_,_,_,_,_,rfl,W,⟨⟨_,i6 _ rfl,rfl,rfl⟩,pl.isList.push _⟩,zD rv,λ h' tk hk=>?_⟩
 refine⟨.bl (bs.all id),H,I.kept (t':=tk) λ b o e=>hk b o (λ z=>?_) (b9 _ e),?_,q⟩
 ·have:b=s.heap.objs.size:=by simpa using z
  exact absurd (j3 e) (by rw[this];exact ub1 _)
 ·show Value.bool _=Value.bool _
  have e1:its.toArray.size=bs.length:=by rw[i8,← hl,c9]
  rw[e1,yU]
inductive call_isi_i (K:c6)(n:String)(xs:List V)(H:Hp)(Q:VK):Prop
 | mk:∀ x t b,(xs=[x,.ty n])->(TyOf K H x t)->(PySem.W.kitOne K t (.type n)=some b)->(Q (.bl b) H)->call_isi_i K n xs H Q
theorem oT {n:String}:CallR X (.builtin "isinstance") (call_isi_i X.K n):=by
 intro pins s σ H xs us Q I r h
 obtain⟨x,t,b,rfl,ty,e,q⟩:=h
 obtain⟨u,c,rfl,ru,rc⟩:=r.two
 cases rc
 exact xU I ru ty e λ tk=>⟨.bl b,H,I.tok tk,rfl,q⟩
variable {a b c d:ucg}{ta tb tc td:TE}
end
mutual
def Is (K:c6)(H:Hp):ubr->V->Prop
 | .none,v=>v=.non
 | .bool b,v=>v=.bl b
 | .int i,v=>v=.int i
 | .str x,v=>v=.str x
 | .tuple ds,v=>∃ p vs,v=.ref p/\H p=some (.tup vs)/\IsAll K H ds vs
 | .list ds,v=>∃ p vs,v=.ref p/\H p=some (.lst vs)/\IsAll K H ds vs
 | .dict kvs,v=>kvs=[]/\∃ p,v=.ref p/\H p=some (.dK [])
def IsAll (K:c6)(H:Hp):List ubr->List V->Prop
 | [],vs=>vs=[]
 | d::ds,vs=>∃ v r,vs=v::r/\Is K H d v/\IsAll K H ds r
end
section
variable {K:c6}{H H':Hp}
mutual
theorem Is.same (e:Same H H'):∀ (d:ubr){v:V},Is K H d v->Is K H' d v
 | .none,_,h=>h
 | .bool _,_,h=>h
 | .int _,_,h=>h
 | .str _,_,h=>h
 | .tuple ds,_,h=>let ⟨p,vs,q1,q2,q3⟩:=h;⟨p,vs,q1,e _ _ q2,IsAll.same e ds q3⟩
 | .list ds,_,h=>let ⟨p,vs,q1,q2,q3⟩:=h;⟨p,vs,q1,e _ _ q2,IsAll.same e ds q3⟩
 | .dict kvs,_,h=>let ⟨q0,p,q1,q2⟩:=h;⟨q0,p,q1,e _ _ q2⟩
theorem IsAll.same (e:Same H H'):∀ (ds:List ubr){vs:List V},IsAll K H ds vs->IsAll K H' ds vs
 | [],_,h=>h
 | d::ds,_,h=>let ⟨v,r,q1,q2,q3⟩:=h;⟨v,r,q1,Is.same e d q2,IsAll.same e ds q3⟩
end
theorem IsAll.length:∀ {ds:List ubr}{vs:List V},IsAll K H ds vs->vs.length=ds.length
 | [],_,h=>by rw[show _=[] from h];rfl
 | d::ds,_,⟨v,r,q1,q2,q3⟩=>by rw[q1,z0,z0,IsAll.length q3]
theorem IsAll.get:∀ {ds:List ubr}{vs:List V}{i:Nat}{d:ubr},IsAll K H ds vs->ds[i]?=some d->∃ v,vs[i]?=some v/\Is K H d v
 | [],_,_,_,_,e=>by simp at e
 | d::ds,_,0,d',⟨v,r,q1,q2,q3⟩,e=>by
  have e':d=d':=by simpa using e
  subst e';subst q1;exact⟨v,rfl,q2⟩
 | d::ds,_,i+1,_,⟨v,r,q1,q2,q3⟩,e=>by
  subst q1
  obtain⟨u,h1,h2⟩:=IsAll.get (i:=i) q3 (by simpa using e)
  exact⟨u,by simpa using h1,h2⟩
theorem IsAll.of:∀ {ds:List ubr}{vs:List V},vs.length=ds.length->(∀ (i:Nat)(d:ubr)(v:V),ds[i]?=some d->vs[i]?=some v->Is K H d v)->IsAll K H ds vs
 | [],[],_,_=>rfl
 | [],_::_,h,_=>by simp at h
 | _::_,[],h,_=>by simp at h
 | d::ds,v::vs,h,q=>⟨v,vs,rfl,q 0 d v rfl rfl,IsAll.of (by simpa using h) λ i d' v' h1 h2=>q (i+1) d' v' (by simpa using h1) (by simpa using h2)⟩
theorem IsAll.append:∀ {ds es:List ubr}{vs us:List V},IsAll K H ds vs->IsAll K H es us->IsAll K H (ds++es) (vs++us)
 | [],_,_,_,h,q=>by rw[show _=[] from h];exact q
 | d::ds,_,_,_,⟨v,r,q1,q2,q3⟩,q=>⟨v,r++_,by rw[q1];rfl,q2,IsAll.append q3 q⟩
theorem IsAll.ints (ns:List Int):IsAll K H (ns.map .int) (ns.map V.int):=by
 refine IsAll.of (by simp) λ i d v h1 h2=>?_
 rw[k0] at h1 h2
 cases e:ns[i]? with
 | none=>rw[e] at h1;cases h1
 | some n=>rw[e] at h1 h2;cases h1;cases h2;exact rfl
theorem IsAll.of_ints:∀ {ns:List Int}{vs:List V},IsAll K H (ns.map .int) vs->vs=ns.map V.int
 | [],_,h=>h
 | n::ns,_,⟨v,r,q1,q2,q3⟩=>by
  have e:v=.int n:=q2
  rw[q1,e,IsAll.of_ints q3];rfl
end
section
variable {X:Cx}{pins:List (j9 × Obj)}{σ:L2.St}{H:Hp}{s:d7}
mutual
theorem fS (I:Inv X pins σ H s):∀ (d:ubr){v:V}{u:d6},Is X.K H d v->RelV v u->∃ as,Reads s.heap u d as
 | .none,_,_,h,r=>by
  have e:_=V.non:=h
  subst e;cases r;exact⟨_,.none⟩
 | .bool b,_,_,h,r=>by
  have e:_=V.bl b:=h
  subst e;cases r;exact⟨_,.bool b⟩
 | .int i,_,_,h,r=>by
  have e:_=V.int i:=h
  subst e;obtain⟨t,rfl⟩:=r;exact⟨_,.int i t⟩
 | .str x,_,_,h,r=>by
  have e:_=V.str x:=h
  subst e;obtain⟨t,rfl⟩:=r;exact⟨_,.str x t⟩
 | .tuple ds,_,_,h,r=>by
  obtain⟨p,vs,rfl,q2,q3⟩:=(show ∃ p vs,_=V.ref p/\H p=some (.tup vs)/\IsAll X.K H ds vs from h)
  cases r
  obtain⟨its,rv,⟨o,e1,e2,n,e3⟩,_⟩:=I.tuple (SqT.of q2)
  obtain⟨as,ra⟩:=iN I ds q3 rv
  exact⟨_,.tuple e1 e2 e3 (by simpa using ra)⟩
 | .list ds,_,_,h,r=>by
  obtain⟨p,vs,rfl,q2,q3⟩:=(show ∃ p vs,_=V.ref p/\H p=some (.lst vs)/\IsAll X.K H ds vs from h)
  cases r
  obtain⟨its,rv,⟨o,n,e1,e2,_,e3⟩,_⟩:=I.list (SqL.of q2)
  obtain⟨as,ra⟩:=iN I ds q3 rv
  exact⟨_,.list e1 e2 e3 (by simpa using ra)⟩
 | .dict kvs,_,_,h,r=>by
  obtain⟨e0,p,rfl,q2⟩:=(show kvs=[]/\∃ p,_=V.ref p/\H p=some (.dK []) from h)
  subst e0
  cases r
  obtain⟨_,_,vs,kv,o,es,ep,g1,g2,g3,_,g4,_⟩:=(show ObjOk X.prog X.w H s.heap p (.dK []) from I.hok p _ q2)
  cases kv
  have e1:es.toList=[]:=by cases h:es.toList with
   | nil=>rfl
   | cons x r=>rw[h] at g4;cases g4
  exact⟨_,.dict g1 g2.1 g3 (by rw[e1];exact .nil) (by rw[e1];exact .nil)⟩
theorem iN (I:Inv X pins σ H s):∀ (ds:List ubr){vs:List V}{us:List d6},IsAll X.K H ds vs->Vals vs us->∃ as,ReadsAll s.heap us ds as
 | [],_,_,h,r=>by
  have e:_=[]:=h
  subst e;cases r;exact⟨_,.nil⟩
 | d::ds,_,_,h,r=>by
  obtain⟨v,vr,rfl,q2,q3⟩:=(show ∃ v r,_=v::r/\Is X.K H d v/\IsAll X.K H ds r from h)
  cases r with
  | cons r1 r2 =>
   obtain⟨as,a1⟩:=fS I d q2 r1
   obtain⟨bs,a2⟩:=iN I ds q3 r2
   exact⟨_,.cons a1 a2⟩
end
inductive op_eqD_i (K:c6)(uu:Nat)(x:V)(y:V)(H:Hp)(Q:VK):Prop
 | mk:∀ da db,(Is K H da x)->(Is K H db y)->(da.canLay0=true)->(db.canLay0=true)->(uu+min da.depth db.depth<cLine)->(Q (.bl (ufc da db)) H)->op_eqD_i K uu x y H Q
theorem kD:OpR X (compareOp .Eq) (op_eqD_i X.K X.A.units):=by
 intro pins s σ H x y v u Q I rx ry h
 obtain⟨da,db,h1,h2,c1,c2,hu,q⟩:=h
 obtain⟨as,ra⟩:=fS I da h1 rx
 obtain⟨bs,rb⟩:=fS I db h2 ry
 exact SeqAt.compareEq_reads ra rb c1 c2 hu (aW I q rfl)
inductive op_neD_i (K:c6)(uu:Nat)(x:V)(y:V)(H:Hp)(Q:VK):Prop
 | mk:∀ da db,(Is K H da x)->(Is K H db y)->(da.canLay0=true)->(db.canLay0=true)->(uu+min da.depth db.depth<cLine)->(Q (.bl (!PyData.eqv da db)) H)->op_neD_i K uu x y H Q
theorem qR:OpR X (compareOp .NotEq) (op_neD_i X.K X.A.units):=by
 intro pins s σ H x y v u Q I rx ry h
 obtain⟨da,db,h1,h2,c1,c2,hu,q⟩:=h
 obtain⟨as,ra⟩:=fS I da h1 rx
 obtain⟨bs,rb⟩:=fS I db h2 ry
 exact SeqAt.compareNe_reads ra rb c1 c2 hu (aW I q rfl)
theorem zad {ys:List V}{its:List d6}(r:Vals ys its){i:Nat}(hi:i<ys.length):RelV (ys.getD i .non) (its.getD i .none):=by
 have hl:=r.length
 obtain⟨u,hu,ru⟩:=r.get (i:=i) (x:=ys[i]) (d8 hi)
 have e1:ys.getD i .non=ys[i]:=by simp [uc4,hi]
 have e2:its.getD i .none=u:=by simp [uc4,hu]
 rw[e1,e2];exact ru
theorem fQ {ys:List V}{its:List d6}(r:Vals ys its):∀ (l:List Nat),(∀ i∈l,i<ys.length)->Vals (l.map λ i=>ys.getD i .non) (l.map λ i=>its.getD i Value.none)
 | [],_=>.nil
 | i::l,h=>.cons (zad r (h i i5)) (fQ r l λ j hj=>h j (i7 _ hj))
theorem dU {n:Nat}{p:Array Nat}(g:Srt.Gd n p):∀ i∈p.toList,i<n:=λ i hi=>by
 have:=g.mem_iff.mp (Array.mem_toList_iff.mp hi)
 simpa using this
theorem iA {α:Type}{n:Nat}{p:Array Nat}(g:Srt.Gd n p)(f:Nat->α):(p.toList.map f).Perm ((c7 n).map f):=by
 have h:=Array.perm_iff_toList_perm.mp g
 exact (by simpa using h:p.toList.Perm (c7 n)).map f
theorem hG {n:Nat}{p:Array Nat}{r:Nat->Int}{R:Nat->Nat->Prop}(g:Srt.Gd n p)(u:Srt.Up r p n)(h:∀ i j,i<n->j<n->r i<=r j->R i j):p.toList.Pairwise R:=by
 rw[ucj]
 intro i j hi hj hij
 have sz:=g.sz
 have hi':i<p.size:=by simpa using hi
 have hj':j<p.size:=by simpa using hj
 have q:=u i j (uea hij) (by left)
 have e:∀ k (hk:k<p.size),p.getD k 0=p[k]:=λ k hk=>by simp [uej,hk]
 unfold Srt.ky at q
 rw[e i hi',e j hj'] at q
 have m:∀ k (hk:k<p.size),p[k]<n:=λ k hk=>dU g _ (by simp)
 have:=h p[i] p[j] (m i hi') (m j hj') q
 simpa using this
theorem cS {α:Type}(l:List α)(d:α):(c7 l.length).map (λ i=>l.getD i d)=l:=by
 refine uc5 (by simp) λ i h1 h2=>?_
 simp [uc4,h2]
inductive call_sortedI_i (K:c6)(xs:List V)(H:Hp)(Q:VK):Prop
 | mk:∀ p ns,(xs=[.ref p])->(SqL K H p (ns.map V.int))->(ns.length<64)->(∀ ms:List Int,ms.Perm ns->ms.Pairwise (·<=·)->∀ l,H l=none->Q (.ref l) (upd H l (.lst (ms.map V.int))))->call_sortedI_i K xs H Q
theorem iM:CallR X (.builtin "sorted") (call_sortedI_i X.K):=by
 intro pins s σ H xs us Q I r h
 obtain⟨p,ns,rfl,hq,h64,q⟩:=h
 obtain⟨u,rfl,rx⟩:=vals1 r
 cases rx
 obtain⟨its,rv,pl,hz⟩:=I.list hq
 have hl:=rv.length
 rw[c9] at hl
 have hI:IntsAre its ns:=cO rv
 have line:(64:Nat)<=v5:=by rw[ubj];decide
 refine Srt.mD (r:=λ i=>ns.getD i 0) (κ:=oneType') pl.isList (by left) (λ h2 A' s' Q' _ q'=>Srt.oF hI h2 q') (λ A' s' i j C _ hi hj q'=>Srt.pY hI hi hj q') λ pp h' c g u kp e=>?_
 have g':Srt.Gd ns.length pp:=by rw[hl];exact g
 have u':Srt.Up (λ i=>ns.getD i 0) pp ns.length:=by rw[hl];exact u
 have pm:(pp.toList.map λ i=>ns.getD i 0).Perm ns:=by
  have:=iA g' λ i=>ns.getD i 0
  rw[cS] at this
  exact this
 have pw:(pp.toList.map λ i=>ns.getD i 0).Pairwise (·<=·):=by
  rw[uao]
  exact hG g' u' λ i j _ _ z=>z
 have fr:H (s.heap.objs.size+1)=none:=I.hok.fresh (ub8 _)
 have ev:((pp.toList.map λ i=>ns.getD i 0).map V.int)=pp.toList.map λ i=>(ns.map V.int).getD i .non:=by
  rw[ubo]
  refine udm λ i hi=>?_
  have:=dU g' i hi
  simp [uc4,this]
 refine⟨.ref (s.heap.objs.size+1),_,I.laid (a:=s.heap.objs.size+1) (o:=.lst ((pp.toList.map λ i=>ns.getD i 0).map V.int)) (t':=s.toks) kp (ub8 _) ⟨?_,Srt.outOf its pp,c,?_,e⟩,rfl,q _ pm pw _ fr⟩
 ·have:=pm.length_eq
  rw[c9,this];left
 ·rw[ev]
  exact fQ rv pp.toList λ i hi=>by rw[c9];exact dU g' i hi
inductive call_sortedT_i (K:c6)(xs:List V)(H:Hp)(Q:VK):Prop
 | mk:∀ p ys ks,(xs=[.ref p])->(SqL K H p ys)->(ys.length<64)->(Paired (λ (y:V) (k:List Int)=>∃ a,y=.ref a/\SqT K H a (k.map V.int)) ys ks)->((∀ k∈ks,k≠[]))->(∀ qs:List (V × List Int),qs.Perm (ys.zip ks)->qs.Pairwise (λ a b=>Srt.lexI b.2 a.2=false)->∀ l,H l=none->Q (.ref l) (upd H l (.lst (qs.map (·.1)))))->call_sortedT_i K xs H Q
theorem kZ:CallR X (.builtin "sorted") (call_sortedT_i X.K):=by
 intro pins s σ H xs us Q I r h
 obtain⟨p,ys,ks,rfl,hq,h64,hp,hne,q⟩:=h
 obtain⟨u,rfl,rx⟩:=vals1 r
 cases rx
 obtain⟨its,rv,pl,hz⟩:=I.list hq
 have hl:=rv.length
 have hlk:ys.length=ks.length:=Paired.length hp
 have line:(64:Nat)<=v5:=by rw[ubj];decide
 have hT:∀ {ys:List V}{ks:List (List Int)}{its:List d6},Paired (λ (y:V) (k:List Int)=>∃ a,y=.ref a/\SqT X.K H a (k.map V.int)) ys ks->Vals ys its->Paired (Srt.TupI s.heap) its ks:=by
  intro ys ks its hp
  induction hp generalizing its with
  | nil=>intro rv;cases rv;exact .nil
  | cons r t ih =>
   intro rv
   cases rv with
   | cons r1 r2 =>
    refine .cons ?_ (ih r2)
    obtain⟨a,rfl,qa⟩:=r
    cases r1
    obtain⟨its',rv',⟨o,e1,e2,n,e3⟩,_⟩:=I.tuple qa
    exact⟨a,o,its'.toArray,n,rfl,e1,e2,e3,by simpa using cO rv'⟩
 have tp:=hT hp rv
 have mono:∀ {h':Heap},(∀ b o,s.heap.get? b=some o->h'.get? b=some o)->Paired (Srt.TupI h') its ks:=λ k=>Paired.mapP tp λ v k' z=>z.to k
 refine Srt.mD (r:=Srt.rank its.length λ i j=>Srt.lexI (ks.getD i []) (ks.getD j [])) (κ:=tuples' true) pl.isList (by left) (λ h2 A' s' Q' k q'=>Srt.nP (mono k) hne h2 q')
  (λ A' s' i j C k hi hj q'=>Srt.pG (mono k) hi hj (by rw[Srt.hO (lt:=λ i j=>Srt.lexI (ks.getD i []) (ks.getD j [])) (λ i=>Srt.eR _) (λ _ _ _ _ _ _=>Srt.fL _ _ _) (λ _ _ _ _ _ _=>Srt.fU _ _ _) hi hj] at q';exact q')) λ pp h' c g u kp e=>?_
 have fr:H (s.heap.objs.size+1)=none:=I.hok.fresh (ub8 _)
 have pm:(pp.toList.map λ i=>(ys.getD i .non,ks.getD i [])).Perm (ys.zip ks):=by
  have h1:=iA g λ i=>(ys.getD i V.non,ks.getD i [])
  have e1:(c7 its.length).map (λ i=>(ys.getD i V.non,ks.getD i []))=ys.zip ks:=by
   refine uc5 (by simp;left) λ i h1 h2=>?_
   have hi:i<its.length:=by simpa using h1
   have a1:i<ys.length:=by left
   have a2:i<ks.length:=by left
   simp [uc4,a1,a2]
  rw[e1] at h1
  exact h1
 have pw:(pp.toList.map λ i=>(ys.getD i V.non,ks.getD i [])).Pairwise (λ a b=>Srt.lexI b.2 a.2=false):=by
  rw[uao]
  refine hG g u λ i j hi hj z=>?_
  have w:=Srt.hO (n:=its.length) (lt:=λ i j=>Srt.lexI (ks.getD i []) (ks.getD j [])) (λ i=>Srt.eR _) (λ _ _ _ _ _ _=>Srt.fL _ _ _) (λ _ _ _ _ _ _=>Srt.fU _ _ _) hj hi
  rw[uha (by left)] at w
  exact w.symm
 have ev:(pp.toList.map λ i=>(ys.getD i V.non,ks.getD i [])).map (·.1)=pp.toList.map λ i=>ys.getD i V.non:=by
  rw[ubo];rfl
 refine⟨.ref (s.heap.objs.size+1),_,I.laid (a:=s.heap.objs.size+1) (o:=.lst ((pp.toList.map λ i=>(ys.getD i V.non,ks.getD i [])).map (·.1))) (t':=s.toks) kp (ub8 _) ⟨?_,Srt.outOf its pp,c,?_,e⟩,rfl,q _ pm pw _ fr⟩
 ·have:=pm.length_eq
  rw[c9,this,uex];left
 ·rw[ev]
  exact fQ rv pp.toList λ i hi=>by have:=dU g i hi;left
end
def Ok (P:m5)(w:ual)(K:c6)(mg:Str->Option d6)(base:Heap)(k:Nat)(x:Str)(ps:List Str)(sp:Sp):Prop :=
 ∃ (f:j9)(fd:ub7),FnOk P w K mg base CX0 k f fd ps sp/\Binds K fd ps []/\ub3 K (.ref f)=true/\mg x=some (.ref f)
def DefOk (K:c6)(mg:Str->Option d6)(x:Str)(st:ude)(ps:List Str):Prop :=
 ∃ (f:j9)(fd:ub7),Fun K x x st f fd/\Binds K fd ps []/\mg x=some (.ref f)
section
variable {P:m5}{w:ual}{K:c6}{mg:Str->Option d6}{base:Heap}{x:Str}{ps N:List Str}{sp sp':Sp}{k:Nat}{st:ude}
theorem Ok.mono {j:Nat}(O:Ok P w K mg base j x ps sp)(h:j<=k):Ok P w K mg base k x ps sp:=let ⟨f,fd,F,r⟩:=O;⟨f,fd,F.mono h,r⟩
theorem Ok.imp (O:Ok P w K mg base k x ps sp)(h:∀ vs H Q E,sp' vs H Q E->sp vs H Q E):Ok P w K mg base k x ps sp':=let ⟨f,fd,F,r⟩:=O;⟨f,fd,F.imp h,r⟩
theorem kN (D:DefOk K mg x st ps)(S:FnScope N ps (defScope st))(len:∀ vs H Q E,sp vs H Q E->vs.length=ps.length)
  (hbody:∀ (f:j9)(cdv:d6)(A:uaf)(outer:List Env)(s:d7)(H:Hp)(vs:List V)(Q:VK)(E:XK),Room k (A.deeper (envOfC x (defScope st) s.heap.objs.size f cdv))->sp vs H Q E ->
   ∃ t,PSs (cxOf CX0 P w K mg base N x (defScope st) f cdv A outer s H E).nox (defBody st) t/\t { nx:=λ _ H'=>Q .non H',rt:=Q } (start N vs) H):Ok P w K mg base (k+1) x ps sp:=by
 obtain⟨f,fd,F,b,m⟩:=D
 exact⟨f,fd,F.ok S len (λ cdv A outer s H vs Q E hr h=>hbody f cdv A outer s H vs Q E hr h),b,F.kp,m⟩
theorem aO {X:Cx}{p pos:Pos}{e:ucg}{es:List ucg}{t:TA}(O:Ok X.prog X.w X.K X.mg X.base k x ps sp)(hr:Room k X.A)(hg:Gl X x)(ha:PA X (e::es) t)
  (hdb:(x==("__debug__":Str))=false:=by decide) (he:ubd (e::es) X.env=(false,eval e X.env)::ubd es X.env:=by rfl) (hpl:(backTo pos (ubd es X.env)).any (·.1)=false:=by rfl) :
  PE X (.Call (.Name x p) (e::es) [] pos) (tCall sp [] E0 t):=by
 obtain⟨f,fd,F,b,kp,m⟩:=O
 exact zbc F hr hg m kp b .nil pass0 ha hdb he hpl
end
structure Bi (mg:Str->Option d6):Prop where
 z_len:mg "len"=none
 z_range:mg "range"=none
 z_zip:mg "zip"=none
 z_all:mg "all"=none
 z_sorted:mg "sorted"=none
 z_isinstance:mg "isinstance"=none
 z_min:mg "min"=none
 z_max:mg "max"=none
 z_tuple:mg "tuple"=none
 z_list:mg "list"=none
 z_int:mg "int"=none
 z_bool:mg "bool"=none
 z_str:mg "str"=none
 z_enumerate:mg "enumerate"=none
 z_sum:mg "sum"=none
 z_abs:mg "abs"=none
 z_set:mg "set"=none
 z_reversed:mg "reversed"=none
 z_any:mg "any"=none
 z_repr:mg "repr"=none
 z_dict:mg "dict"=none
def But (p:j9)(H H':Hp):Prop:=∀ b o,b≠p->H b=some o->H' b=some o
section
variable {K:c6}{H H1 H2:Hp}{p a:j9}{o:HO}{xs ys:List V}
theorem But.refl:But p H H:=λ _ _ _ h=>h
theorem But.trans (a:But p H H1)(b:But p H1 H2):But p H H2:=λ c o n h=>b c o n (a c o n h)
theorem But.upd:But p H (upd H p o):=λ b u n h=>by rw[aM n];exact h
theorem Same.but (h:Same H H1):But p H H1:=λ b o _ q=>h b o q
theorem But.new (h:H a=none):But p H (L2.upd H a o):=λ b u _ q=>by rw[aM (aP q h)];exact q
theorem aQ (h:H a=none):Same H (upd H a o):=λ b u q=>by rw[aM (aP q h)];exact q
end
mutual
def tupD:ubr->Bool
 | .none | .bool _ | .int _ | .str _=>true
 | .tuple ds=>tupAll ds
 | .list _ | .dict _=>false
def tupAll:List ubr->Bool
 | []=>true
 | d::ds=>tupD d&&tupAll ds
end
def Pot (H:Hp)(p:j9):Prop:=∃ a b:Int,H p=some (.lst [.int a,.int b])/\0<=a/\0<=b/\b<2147483647
theorem Pot.lst {H:Hp}{p:j9}(h:Pot H p):∃ xs,H p=some (.lst xs):=let ⟨a,b,e,_⟩:=h;⟨_,e⟩
def spPot (K:c6):Sp:=λ vs H Q _=>∃ a k,∃ ns:List Int,vs=[.ref a,.int k]/\SqL K H a (ns.map V.int)/\0<=k/\k<=100/\∀ l H',Same H H'->H l=none->Pot H' l->Q (.ref l) H'
def spTake:Sp:=λ vs H Q _=>∃ p m,vs=[.ref p,.int m]/\Pot H p/\0<m/\m<1073741824/\∀ r H',0<=r->r<m->But p H H'->Pot H' p->Q (.int r) H'
def spLength:Sp:=λ vs H Q _=>∃ p y,vs=[.ref p,.int y]/\Pot H p/\0<=y/\y<5/\∀ r H',1<=r->r<=10^18->But p H H'->Pot H' p->Q (.int r) H'
def spTied:Sp:=λ vs H Q _=>∃ p n y a b,vs=[.ref p,.int n,.int y,.int a,.int b]/\Pot H p/\∀ k H',But p H H'->Pot H' p->Q (.bl k) H'
def spOrder:Sp:=λ vs H Q _=>∃ p m,vs=[.ref p,.int m]/\Pot H p/\0<=m/\m<=1000/\∀ l H' (ms:List Int),But p H H'->Pot H' p->H l=none->l≠p->H' l=some (.lst (ms.map V.int))->ms.Perm ((c7 m.toNat).map λ i:Nat=>(i:Int))->Q (.ref l) H'
abbrev Tie:=Int × Int × Int
def tieI (t:Tie):List Int:=[t.1,t.2.1,t.2.2]
def tieD (t:Tie):ubr:=.tuple ((tieI t).map .int)
def webD (n:Int)(ties:List Tie):ubr:=.tuple [.int n,.tuple (ties.map tieD)]
def endLt (s t:Tie):Prop:=s.1<t.1\/(s.1=t.1/\s.2.1<t.2.1)
structure WebOk (n:Int)(ties:List Tie):Prop where
 n1:1<=n
 n24:n<=24
 rise:ties.Pairwise endLt
 few:ties.length<=60
 tie:∀ t∈ties,0<=t.1/\t.1<t.2.1/\t.2.1<n/\1<=t.2.2/\t.2.2<=10^18
def spWeb (K:c6):Sp:=λ vs H Q _=>∃ p m,vs=[.ref p,.int m]/\Pot H p/\1<=m/\m<=24/\∀ v H' n ties,But p H H'->Pot H' p->WebOk n ties->n<=m->Is K H' (webD n ties) v->Q v H'
end L3
namespace L3
structure Grown (n:Nat)(ms:List Int)(b a:Nat)(ties:List Tie):Prop where
 few:ties.length<=60
 ok:∀ t∈ties,0<=t.1/\t.1<t.2.1/\t.2.1<(n:Int)/\1<=t.2.2/\t.2.2<=10^18
 of:∀ t∈ties,∃ a' b':Nat,a'<b'/\b'<n/\(b'<b\/(b'=b/\a'<a))/\((t.1=ms.getD a' 0/\t.2.1=ms.getD b' 0)\/(t.1=ms.getD b' 0/\t.2.1=ms.getD a' 0))
 nd:ties.Pairwise λ s t=>¬ (s.1=t.1/\s.2.1=t.2.1)
theorem Grown.start {n:Nat}{ms:List Int}:Grown n ms 0 0 []:=⟨w8 _,(λ t h=>by cases h),(λ t h=>by cases h),ugp⟩
theorem Grown.down {n:Nat}{ms:List Int}{b:Nat}{ties:List Tie}(g:Grown n ms b b ties):Grown n ms (b+1) 0 ties :=
 ⟨g.few,g.ok,λ t h=>by
  obtain⟨a',b',h1,h2,h3,h4⟩:=g.of t h
  exact⟨a',b',h1,h2,.inl (by left),h4⟩,g.nd⟩
theorem Grown.skip {n:Nat}{ms:List Int}{b a:Nat}{ties:List Tie}(g:Grown n ms b a ties):Grown n ms b (a+1) ties :=
 ⟨g.few,g.ok,λ t h=>by
  obtain⟨a',b',h1,h2,h3,h4⟩:=g.of t h
  exact⟨a',b',h1,h2,by left,h4⟩,g.nd⟩
structure Perm0 (n:Nat)(ms:List Int):Prop where
 len:ms.length=n
 lo:∀ i,i<n->0<=ms.getD i 0/\ms.getD i 0<(n:Int)
 inj:∀ i j,i<n->j<n->ms.getD i 0=ms.getD j 0->i=j
theorem Perm0.of {n:Nat}{ms:List Int}(h:ms.Perm ((c7 n).map λ i:Nat=>(i:Int))):Perm0 n ms:=by
 have hl:ms.length=n:=by simpa using h.length_eq
 have nd:ms.Nodup:=(h.nodup_iff).mpr (by
  rw[uap,uao]
  exact (udk (n:=n)).imp λ h z=>h (by left))
 refine⟨hl,λ i hi=>?_,λ i j hi hj e=>?_⟩
 ·have e:ms.getD i 0=ms[i]:=by simp [uc4,show i<ms.length by left]
  have m:ms[i]'(by left)∈(c7 n).map λ i:Nat=>(i:Int):=h.mem_iff.mp (udl _)
  rw[e]
  obtain⟨k,hk,ek⟩:=y2.mp m
  have:=j4.mp hk
  left
 ·have e1:ms.getD i 0=ms[i]:=by simp [uc4,show i<ms.length by left]
  have e2:ms.getD j 0=ms[j]:=by simp [uc4,show j<ms.length by left]
  rw[e1,e2] at e
  exact (List.getElem_inj nd).mp e
theorem Grown.add {n:Nat}{ms:List Int}{b a:Nat}{ties:List Tie}{x y l:Int}(g:Grown n ms b a ties)(pm:Perm0 n ms)(ha:a<b)(hb:b<n)(hf:ties.length<60)(hl:1<=l)(hl2:l<=10^18)
  (hxy:(x=ms.getD a 0/\y=ms.getD b 0)\/(x=ms.getD b 0/\y=ms.getD a 0)) (hle:x<=y):Grown n ms b (a+1) (ties++[(x,y,l)]):=by
 have han:=Nat.lt_trans ha hb
 have la:=pm.lo a han
 have lb:=pm.lo b hb
 have ne:ms.getD a 0≠ms.getD b 0:=λ e=>j7 ha (pm.inj a b han hb e)
 refine⟨by rw[i9,u5];exact hf,λ t ht=>?_,λ t ht=>?_,?_⟩
 ·rcases o9.mp ht with h | h
  ·exact g.ok t h
  ·have e:t=(x,y,l):=j5.mp h
   subst e
   refine⟨?_,?_,?_,hl,hl2⟩
   ·show 0<=x
    rcases hxy with ⟨q1,q2⟩ | ⟨q1,q2⟩
    ·rw[q1];exact la.1
    ·rw[q1];exact lb.1
   ·show x<y
    refine Int.lt_iff_le_and_ne.mpr ⟨hle,λ z=>?_⟩
    rcases hxy with ⟨q1,q2⟩ | ⟨q1,q2⟩
    ·exact ne (q1.symm.trans (z.trans q2))
    ·exact ne (q2.symm.trans (z.symm.trans q1))
   ·show y<(n:Int)
    rcases hxy with ⟨q1,q2⟩ | ⟨q1,q2⟩
    ·rw[q2];exact lb.2
    ·rw[q2];exact la.2
 ·rcases o9.mp ht with h | h
  ·obtain⟨a',b',h1,h2,h3,h4⟩:=g.of t h
   exact⟨a',b',h1,h2,h3.imp id λ z=>⟨z.1,ube z.2⟩,h4⟩
  ·have e:t=(x,y,l):=j5.mp h
   subst e
   exact⟨a,b,ha,hb,.inr ⟨rfl,ua4 _⟩,hxy⟩
 ·rw[ud0]
  refine⟨g.nd,List.pairwise_singleton _ _,λ t ht u hu=>?_⟩
  have e:u=(x,y,l):=j5.mp hu
  subst e
  rintro ⟨e1,e2⟩
  obtain⟨a',b',h1,h2,h3,h4⟩:=g.of t ht
  have e1':t.1=x:=e1
  have e2':t.2.1=y:=e2
  have h1n:=Nat.lt_trans h1 h2
  have fin:a'=a->b'=b->False:=λ ea eb=>h3.elim (λ z=>j7 z eb) λ z=>j7 z.2 ea
  have fin2:a'=b->b'=a->False:=λ ea eb=>Nat.lt_asymm ha (by rw[← ea,← eb];exact h1)
  rcases h4 with ⟨p1,p2⟩ | ⟨p1,p2⟩ <;> rcases hxy with ⟨q1,q2⟩ | ⟨q1,q2⟩
  ·exact fin (pm.inj a' a h1n han (p1.symm.trans (e1'.trans q1))) (pm.inj b' b h2 hb (p2.symm.trans (e2'.trans q2)))
  ·exact fin2 (pm.inj a' b h1n hb (p1.symm.trans (e1'.trans q1))) (pm.inj b' a h2 han (p2.symm.trans (e2'.trans q2)))
  ·exact fin2 (pm.inj a' b h1n hb (p2.symm.trans (e2'.trans q2))) (pm.inj b' a h2 han (p1.symm.trans (e1'.trans q1)))
  ·exact fin (pm.inj a' a h1n han (p2.symm.trans (e2'.trans q2))) (pm.inj b' b h2 hb (p1.symm.trans (e1'.trans q1)))
theorem za5 {ts:List Tie}(h:ts.Pairwise λ a b=>Srt.lexI (tieI b) (tieI a)=false)(nd:ts.Pairwise λ s t=>¬ (s.1=t.1/\s.2.1=t.2.1)):ts.Pairwise endLt:=by
 refine (h.and nd).imp λ {a b} hab=>?_
 obtain⟨h1,h2⟩:=hab
 obtain⟨a1,a2,a3⟩:=a
 obtain⟨b1,b2,b3⟩:=b
 simp only [tieI,Srt.lexI] at h1
 show a1<b1\/(a1=b1/\a2<b2)
 have h2':¬ (a1=b1/\a2=b2):=h2
 by_cases e1:b1=a1
 ·rw[uhc e1] at h1
  by_cases e2:b2=a2
  ·exact absurd ⟨e1.symm,e2.symm⟩ h2'
  ·rw[uhd e2] at h1
   have:=uhb h1
   exact .inr ⟨e1.symm,by left⟩
 ·rw[uhd e1] at h1
  have:=uhb h1
  exact .inl (by left)
end L3
namespace L3
open PySem PySem.Spec PyProof.Rows L2
section
variable {X:Cx}{pos:Pos}
theorem pV:OpR X (binaryOp .Mult) (rI (λ i j=>IntMulOk i j) λ i j=>.int (i*j)):=opI λ _ _ _ _ _ _ _ hc q=>mul_int q hc
theorem mulB:IntMulOk ((10:Int)^(60:Int).toNat) ((10:Int)^(60:Int).toNat):=IntMulOk.of_bits (by symm) (by symm)
theorem mulB2:IntMulOk ((10:Int)^(60:Int).toNat*(10:Int)^(60:Int).toNat) ((10:Int)^(60:Int).toNat):=IntMulOk.of_bits (by symm) (by symm)
theorem posB:(0:Int)<(10:Int)^(60:Int).toNat*(10:Int)^(60:Int).toNat*(10:Int)^(60:Int).toNat:=by symm
inductive call_range_i  (xs:List V) (H:Hp) (Q:VK):Prop
 | mk:∀ (j:Int),(xs=[.int j])->(∀ p,H p=none->Q (.ref p) (upd H p (.rng 0 j)))->call_range_i xs H Q
theorem fM:CallR X (.type "range") (call_range_i):=by
 intro pins s σ H xs us Q I r h
 obtain⟨j,rfl,q⟩:=h
 obtain⟨u,rfl,t,rfl⟩:=vals1 r
 refine call_range_1 ⟨.ref s.heap.objs.size,_,I.laid (a:=s.heap.objs.size) (o:=.rng 0 j) (λ b o e=>b9 _ e) (h9 _) ⟨_,_,_,i6 _ rfl⟩,rfl,q _ I.fresh⟩
inductive call_list_rng_i  (xs:List V) (H:Hp) (Q:VK):Prop
 | mk:∀ (p:j9)(j:Int),(xs=[.ref p])->(H p=some (.rng 0 j))->(0<=j)->(j<=1000)->(∀ l,H l=none->Q (.ref l) (upd H l (.lst ((c7 j.toNat).map λ i:Nat=>V.int (i:Int)))))->call_list_rng_i xs H Q
theorem gH (hh:X.calm=true):CallR X (.type "list") (call_list_rng_i):=by
 intro pins s σ H xs us Q I r h
 obtain⟨p,j,rfl,hp,hj0,hj,q⟩:=h
 obtain⟨u,rfl,rx⟩:=vals1 r
 cases rx
 obtain⟨t,u,v,e⟩:=(show ObjOk X.prog X.w H s.heap p (.rng 0 j) from I.hok p _ hp)
 refine call_list_range (n:=j.toNat) (I.ok.hd hh) (show IsRange s.heap p 0 j 1 t u v from e) (small_one (by left) (by left) (by left) (by left)) (by rw[rangeSize_one];split <;> left) (by left) λ h' tk acc c hk hS hacc=>?_
 refine⟨.ref s.heap.objs.size,_,I.laid (a:=s.heap.objs.size) (o:=.lst ((c7 j.toNat).map λ i:Nat=>V.int (i:Int))) (t':=tk) hk (h9 _) ⟨?_,acc.toList,c,?_,by simpa using hS⟩,rfl,q _ I.fresh⟩
 ·rw[c9,l7,ubj];left
 ·have go:∀ (n:Nat)(l:List d6),l.length=n->(∀ (k:Nat)(v:d6),l[k]?=some v->∃ t,v=Value.int (0+(k:Int)*1) t)->Vals ((c7 n).map λ i:Nat=>V.int (i:Int)) l:=by
   intro n l hl hv
   have gen:∀ (l:List d6)(o:Nat),(∀ (k:Nat)(v:d6),l[k]?=some v->∃ t,v=Value.int ((o+k:Nat):Int) t)->Vals ((List.range' o l.length).map λ i:Nat=>V.int (i:Int)) l:=by
    intro l
    induction l with
    | nil=>intro o _;exact .nil
    | cons x r ih =>
     intro o h
     rw[z0,List.range'_succ,ucf]
     obtain⟨t,ht⟩:=h 0 x rfl
     refine .cons ⟨t,by simpa using ht⟩ (ih (o+1) λ k v hk=>?_)
     obtain⟨t,ht⟩:=h (k+1) v (by simpa using hk)
     exact⟨t,by rw[ht];congr 1;left⟩
   have:=gen l 0 λ k v hk=>by
    obtain⟨t,ht⟩:=hv k v hk
    exact⟨t,by rw[ht];congr 1;left⟩
   rw[hl] at this
   rw[List.range_eq_range']
   exact this
  refine go _ _ (by simpa using hacc.1) λ k v hk=>hacc.2 k v (by simpa using hk)
end
theorem lW {α:Type}:∀ (l:List α)(k:Nat)(h:k<l.length),(l[k]::l.eraseIdx k).Perm l
 | [],k,h=>absurd h (ucs _)
 | a::l,0,_=>ud1 _
 | a::l,k+1,h=>by
  have h':k<l.length:=by simpa using h
  show (l[k]::a::l.eraseIdx k).Perm (a::l)
  exact (List.Perm.swap a l[k] _).trans ((lW l k h').cons a)
theorem mS {α β:Type}(f:α->β):∀ (l:List α)(k:Nat),(l.eraseIdx k).map f=(l.map f).eraseIdx k
 | [],_=>rfl
 | _::_,0=>rfl
 | a::l,k+1=>by
  show f a::(l.eraseIdx k).map f=f a::(l.map f).eraseIdx k
  rw[mS f l k]
def TieL (H:Hp)(ys:List V)(ts:List Tie):Prop:=Paired (λ (y:V) (t:Tie)=>∃ a,y=.ref a/\H a=some (.tup ((tieI t).map V.int))) ys ts
theorem TieL.keep {H H':Hp}{ys:List V}{ts:List Tie}(h:TieL H ys ts)(k:∀ a xs,H a=some (.tup xs)->H' a=some (.tup xs)):TieL H' ys ts :=
 Paired.mapP h λ y t ⟨a,e1,e2⟩=>⟨a,e1,k _ _ e2⟩
theorem TieL.snoc {H:Hp}{ys:List V}{ts:List Tie}{a:j9}{t:Tie}(h:TieL H ys ts)(e:H a=some (.tup ((tieI t).map V.int))):TieL H (ys++[.ref a]) (ts++[t]):=Paired.snoc h ⟨a,rfl,e⟩
theorem lO {α β γ:Type}{F:β->γ->Prop}(f:α->β)(g:α->γ):∀ {l:List α},(∀ x∈l,F (f x) (g x))->Paired F (l.map f) (l.map g)
 | [],_=>.nil
 | x::l,h=>.cons (h x i5) (lO f g λ y hy=>h y (i7 _ hy))
theorem lL {α β γ:Type}{F:α->β->Prop}{f:β->γ}:∀ {l:List α}{r:List β},Paired F l r->∀ q∈l.zip (r.map f),∃ b,q.2=f b/\F q.1 b
 | _,_,.nil,q,h=>by cases h
 | _,_,.cons (a:=a) (b:=b) x t,q,h=>by
  rw[ucf,ud8] at h
  rcases j0.mp h with e | h
  ·subst e;exact⟨b,rfl,x⟩
  ·exact lL t q h
theorem lE {F:V->Tie->Prop}{G:V->List Int->Prop}(h:∀ y t,F y t->G y (tieI t)):∀ {ys:List V}{ts:List Tie},Paired F ys ts->Paired G ys (ts.map tieI)
 | _,_,.nil=>.nil
 | _,_,.cons x t=>.cons (h _ _ x) (lE h t)
def tieOf:List Int->Tie
 | [a,b,c]=>(a,b,c)
 | _=>(0,0,0)
theorem zaz (t:Tie):tieOf (tieI t)=t:=rfl
theorem zax {H:Hp}{ys:List V}{ts:List Tie}(h:TieL H ys ts){qs:List (V × List Int)}(p:qs.Perm (ys.zip (ts.map tieI)))(w:qs.Pairwise λ a b=>Srt.lexI b.2 a.2=false) :
  ∃ ts':List Tie,ts'.Perm ts/\TieL H (qs.map (·.1)) ts'/\ts'.Pairwise λ a b=>Srt.lexI (tieI b) (tieI a)=false:=by
 have mem:∀ q∈qs,∃ t,q.2=tieI t/\∃ a,q.1=.ref a/\H a=some (.tup ((tieI t).map V.int)):=λ q hq=>lL h q (p.mem_iff.mp hq)
 have back:∀ q∈qs,tieI (tieOf q.2)=q.2:=λ q hq=>by
  obtain⟨t,e,_⟩:=mem q hq
  rw[e];rfl
 refine⟨qs.map λ q=>tieOf q.2,?_,lO _ _ λ q hq=>?_,?_⟩
 ·have e1:(qs.map λ q=>tieOf q.2).Perm ((ys.zip (ts.map tieI)).map λ q=>tieOf q.2):=p.map _
  have e2:(ys.zip (ts.map tieI)).map (λ q=>tieOf q.2)=ts:=by
   have l:ys.length=(ts.map tieI).length:=by rw[c9];exact Paired.length h
   have:(ys.zip (ts.map tieI)).map (λ q=>tieOf q.2)=((ys.zip (ts.map tieI)).map (·.2)).map tieOf:=by rw[ubo];rfl
   rw[this,ufz (ueb l.symm),ubo]
   exact (udm λ t _=>zaz t).trans (List.map_id _)
  rw[e2] at e1
  exact e1
 ·obtain⟨t,e,a,ea,eh⟩:=mem q hq
  refine⟨a,ea,?_⟩
  rw[back q hq,e];exact eh
 ·rw[uao]
  refine w.imp_of_mem λ {a b} ha hb z=>?_
  rw[back a ha,back b hb];exact z
theorem TieL.is {K:c6}{H:Hp}:∀ {ys:List V}{ts:List Tie},TieL H ys ts->IsAll K H (ts.map tieD) ys
 | _,_,.nil=>rfl
 | _,_,.cons (a:=y) (b:=t) ⟨a,e1,e2⟩ r=>⟨_,_,rfl,⟨a,_,e1,e2,IsAll.ints _⟩,TieL.is r⟩
theorem vP {x y:Int}{ms:List Int}(p:ms.Perm [x,y])(w:ms.Pairwise (·<=·)):∃ a b,ms=[a,b]/\a<=b/\((a=x/\b=y)\/(a=y/\b=x)):=by
 have hl:=p.length_eq
 match ms,hl,p,w with
 | [a,b],_,p,w =>
  refine⟨a,b,rfl,by simpa using w,?_⟩
  have ha:a∈[x,y]:=p.mem_iff.mp (by simp)
  rcases j0.mp ha with e | e
  ·subst e
   have:=(List.perm_cons a).mp p
   have e2:b=y:=by simpa using List.perm_singleton.mp this
   exact .inl ⟨rfl,e2⟩
  ·have e':a=y:=by simpa using e
   subst e'
   have p2:[a,b].Perm [a,x]:=p.trans (List.Perm.swap a x [])
   have:=(List.perm_cons a).mp p2
   have e2:b=x:=by simpa using List.perm_singleton.mp this
   exact .inr ⟨rfl,e2⟩
def TupKeep (H H':Hp):Prop:=∀ a xs,H a=some (.tup xs)->H' a=some (.tup xs)
section
variable {J:It}{g:TG}{te:TE}{own:List Str}{js:List Nat}{σ:L2.St}{H1:Hp}{Q:VK}
theorem gX (n:Nat)(Sg:L2.St->Prop)(R:Nat->V->Hp->Prop)(hn:n<=1000)(h0:Sg (start3 own js σ))(mono:∀ i v H H',TupKeep H H'->R i v H->R i v H')
  (go:∀ i H',i<n->Same H1 H'->J.go i H') (stop:∀ H',Same H1 H'->J.stop n H')
  (step:∀ i x σ' H' H2,i<n->Same H1 H'->J.yld i H' x H2->Sg σ'->∀ C:L2.St->V->Hp->Prop,(∀ σ3 v H5,Sg σ3->Same H' H5->R i v H5->C σ3 v H5)->g x σ' H2 λ σ3 H3=>te σ3 H3 λ v H5=>C σ3 v H5)
  (fin:∀ D ys H',H1 D=none->Same H1 H'->H' D=some (.lst ys)->ys.length=n->(∀ i v,ys[i]?=some v->R i v H')->Q (.ref D) H'):CompGo own js g tTrue te σ Q J H1:=by
 intro D hD
 refine⟨λ i m ys σ' H'=>m=n-i/\i<=n/\Sg σ'/\Same H1 H'/\ys.length=i/\∀ j v,ys[j]?=some v->R j v H',⟨n,rfl,w8 _,h0,aQ hD,rfl,λ j v e=>by simp at e⟩,?_⟩
 rintro i m ys σ' H' ⟨rfl,hi,sg,sm,hl,hr⟩ hd
 by_cases hlt:i<n
 ·refine .inr ⟨go i H' hlt sm,λ x H2 hy=>?_⟩
  refine step i x σ' H' H2 hlt sm hy sg (λ σ3 v H5=>H5 D=some (.lst ys)/\ys.length<v5/\∃ m',m'<n-i/\(m'=n-(i+1)/\i+1<=n/\Sg σ3/\Same H1 (upd H5 D (.lst (ys++[v])))/\(ys++[v]).length=i+1/\∀ j u,(ys++[v])[j]?=some u->R j u (upd H5 D (.lst (ys++[v]))))) λ σ3 v H5 sg3 s5 r5=>?_
  have hd5:=s5 _ _ hd
  refine⟨hd5,ubv (by left:ys.length<=1000) (by decide),n-(i+1),by left,rfl,hlt,sg3,λ b o e=>?_,by rw[i9,u5,hl],λ j u e=>?_⟩
  ·rw[aM (aP e hD)];exact s5 _ _ (sm _ _ e)
  ·have tk5:TupKeep H5 (upd H5 D (.lst (ys++[v]))):=λ a xs e=>by rw[aM (λ z=>by rw[z,hd5] at e;cases e)];exact e
   by_cases hj:j<ys.length
   ·rw[uck hj] at e
    exact mono _ _ _ _ tk5 (mono _ _ _ _ (λ a xs z=>s5 _ _ z) (hr j u e))
   ·rw[uaq (by left)] at e
    have ej:j=ys.length:=by
     have:=(m9.mp e).1
     simp at this;left
    subst ej
    have eu:v=u:=by simpa using e
    subst eu
    rw[hl]
    exact mono _ _ _ _ tk5 r5
 ·have e:i=n:=by left
  subst e
  exact .inl ⟨stop H' sm,fin D ys H' hD sm hd hl hr⟩
theorem jN {K:c6}{a:j9}{xs:List V}(hx:H1 a=some (.tup xs))(Sg:L2.St->Prop)(R:Nat->V->Hp->Prop)(hn:xs.length<=1000)(h0:Sg (start3 own js σ))(mono:∀ i v H H',TupKeep H H'->R i v H->R i v H')
  (step:∀ i x σ' H',xs[i]?=some x->Same H1 H'->Sg σ'->∀ C:L2.St->V->Hp->Prop,(∀ σ3 v H5,Sg σ3->Same H' H5->R i v H5->C σ3 v H5)->g x σ' H' λ σ3 H3=>te σ3 H3 λ v H5=>C σ3 v H5)
  (fin:∀ D ys H',H1 D=none->Same H1 H'->H' D=some (.lst ys)->ys.length=xs.length->(∀ i v,ys[i]?=some v->R i v H')->Q (.ref D) H'):CompGo own js g tTrue te σ Q (Itt K a) H1:=by
 refine gX xs.length Sg R hn h0 mono (λ i H' hi s=>⟨xs,xs[i],SqT.of (s _ _ hx),by simp [hi]⟩) (λ H' s=>⟨xs,SqT.of (s _ _ hx),h9 _⟩) (λ i x σ' H' H2 hi s hy sg C hC=>?_) fin
 obtain⟨rfl,hy⟩:=hy
 exact step i x σ' _ (hy xs (SqT.of (s _ _ hx))) s sg C hC
theorem eS {K:c6}{a:j9}{xs:List V}(hx:H1 a=some (.lst xs))(Sg:L2.St->Prop)(R:Nat->V->Hp->Prop)(hn:xs.length<=1000)(h0:Sg (start3 own js σ))(mono:∀ i v H H',TupKeep H H'->R i v H->R i v H')
  (step:∀ i x σ' H',xs[i]?=some x->Same H1 H'->Sg σ'->∀ C:L2.St->V->Hp->Prop,(∀ σ3 v H5,Sg σ3->Same H' H5->R i v H5->C σ3 v H5)->g x σ' H' λ σ3 H3=>te σ3 H3 λ v H5=>C σ3 v H5)
  (fin:∀ D ys H',H1 D=none->Same H1 H'->H' D=some (.lst ys)->ys.length=xs.length->(∀ i v,ys[i]?=some v->R i v H')->Q (.ref D) H'):CompGo own js g tTrue te σ Q (Itl K a) H1:=by
 refine gX xs.length Sg R hn h0 mono (λ i H' hi s=>⟨xs,xs[i],SqL.of (s _ _ hx),by simp [hi]⟩) (λ H' s=>⟨xs,SqL.of (s _ _ hx),h9 _⟩) (λ i x σ' H' H2 hi s hy sg C hC=>?_) fin
 obtain⟨rfl,hy⟩:=hy
 exact step i x σ' _ (hy xs (SqL.of (s _ _ hx))) s sg C hC
theorem SqX.of {t:Bool}{K:c6}{H:Hp}{a:j9}{xs:List V}(h:H a=some (if t=true then .tup xs else .lst xs)):SqX t K H a xs:=by
 cases t with
 | true=>exact SqT.of h
 | false=>exact SqL.of h
theorem oP {t1 t2:Bool}{K:c6}{a b:j9}{xs zs:List V}(hx:H1 a=some (if t1=true then .tup xs else .lst xs))(hz:H1 b=some (if t2=true then .tup zs else .lst zs))(Sg:L2.St->Prop)(R:Nat->V->Hp->Prop)(hn:xs.length<=1000)
  (h0:Sg (start3 own js σ)) (mono:∀ i v H H',TupKeep H H'->R i v H->R i v H')
  (step:∀ i x z T σ' H',xs[i]?=some x->zs[i]?=some z->Same H1 H'->H' T=none->Sg σ'->∀ C:L2.St->V->Hp->Prop,(∀ σ3 v H5,Sg σ3->Same H' H5->R i v H5->C σ3 v H5)->g (.ref T) σ' (upd H' T (.tup [x,z])) λ σ3 H3=>te σ3 H3 λ v H5=>C σ3 v H5)
  (fin:∀ D ys H',H1 D=none->Same H1 H'->H' D=some (.lst ys)->ys.length=min xs.length zs.length->(∀ i v,ys[i]?=some v->R i v H')->Q (.ref D) H'):CompGo own js g tTrue te σ Q (Itz t1 t2 K a b) H1:=by
 have s1:∀ H',Same H1 H'->SqX t1 K H' a xs:=λ H' s=>SqX.of (s _ _ hx)
 have s2:∀ H',Same H1 H'->SqX t2 K H' b zs:=λ H' s=>SqX.of (s _ _ hz)
 refine gX (min xs.length zs.length) Sg R (by left) h0 mono (λ i H' hi s=>⟨xs,zs,xs[i]'(by left),zs[i]'(by left),s1 H' s,s2 H' s,by simp [show i<xs.length by left],by simp [show i<zs.length by left]⟩)
  (λ H' s=>⟨xs,zs,s1 H' s,s2 H' s,by left⟩) (λ i x σ' H' H2 hi s hy sg C hC=>?_) fin
 obtain⟨T,x1,z1,hT,rfl,rfl,e1,e2⟩:=hy
 exact step i x1 z1 T σ' H' (e1 _ (s1 H' s)) (e2 _ (s2 H' s)) s hT sg C hC
end
theorem zap {f:Nat->Bool}{n:Nat}{ys:List V}(hl:ys.length=n)(h:∀ (i:Nat) (v:V),ys[i]?=some v->v=V.bl (f i)):ys=((c7 n).map f).map V.bl:=by
 refine ub5 λ i=>?_
 by_cases hi:i<n
 ·obtain⟨v,hv⟩:∃ v,ys[i]?=some v:=⟨ys[i],d8 (by left)⟩
  rw[hv,h i v hv]
  simp [hi]
 ·rw[v7 (by left),v7 (by simp;left)]
def tyD:ubr->String
 | .none=>"NoneType"
 | .bool _=>"bool"
 | .int _=>"int"
 | .str _=>"str"
 | .tuple _=>"tuple"
 | .list _=>"list"
 | .dict _=>"dict"
theorem zcw {K:c6}{H:Hp}:∀ {d:ubr}{v:V},Is K H d v->TyOf K H v (.type (tyD d))
 | .none,_,h=>by rw[show _=V.non from h];exact .non
 | .bool b,_,h=>by rw[show _=V.bl b from h];exact .bl b
 | .int i,_,h=>by rw[show _=V.int i from h];exact .int i
 | .str x,_,h=>by rw[show _=V.str x from h];exact .str x
 | .tuple _,_,⟨p,vs,e,h,_⟩=>by rw[e];exact .tup h
 | .list _,_,⟨p,vs,e,h,_⟩=>by rw[e];exact .lst h
 | .dict _,_,⟨_,p,e,h⟩=>by rw[e];exact .dK h
def wholeB:ubr->Bool
 | .int _=>true
 | _=>false
def tieB (n:Int):ubr->Bool
 | .tuple [.int a,.int b,.int l]=>decide (0<=a)&&decide (a<b)&&decide (b<n)&&decide (1<=l)&&decide (l<=10^18)
 | _=>false
def few:ubr->Prop
 | .tuple ds=>ds.length<=1000
 | .list ds=>ds.length<=1000
 | _=>True
section
variable {g:TG}{te:TE}{own:List Str}{js:List Nat}{σ:L2.St}{H1:Hp}{Q:VK}
end
def e2 (e:Int × Int):List Int:=[e.1,e.2]
def risingB (es:List (Int × Int)):Bool:=((c7 (min es.length (es.drop 1).length)).map λ i=>HT.lexLt (e2 (es.getD i (0,0))) (e2 ((es.drop 1).getD i (0,0)))).all id
def TwoL (H:Hp)(ys:List V)(es:List (Int × Int)):Prop:=Paired (λ (y:V) (e:Int × Int)=>∃ a,y=.ref a/\H a=some (.tup [.int e.1,.int e.2])) ys es
theorem TwoL.get {H:Hp}:∀ {ys:List V}{es:List (Int × Int)}{i:Nat}{y:V},TwoL H ys es->ys[i]?=some y->∃ a,y=.ref a/\H a=some (.tup ((e2 (es.getD i (0,0))).map V.int))
 | _,_,_,_,.nil,h=>by simp at h
 | _,_,0,y,.cons (a:=y0) r t,h=>by
  have e:y0=y:=by simpa using h
  subst e
  exact r
 | _,_,i+1,_,.cons r t,h=>TwoL.get (i:=i) t (by simpa using h)
section
variable {g:TG}{te:TE}{own:List Str}{js:List Nat}{σ:L2.St}{H1:Hp}{Q:VK}
end
theorem TieL.get {H:Hp}{ys:List V}{us:List Tie}{i:Nat}{x:V}(h:TieL H ys us)(e:ys[i]?=some x):∃ a,x=.ref a/\H a=some (.tup ((tieI (us.getD i (0,0,0))).map V.int)):=by
 induction h generalizing i with
 | nil=>simp at e
 | @cons y0 _ _ _ r t ih =>
  cases i with
  | zero =>
   have e':y0=x:=by simpa using e
   rw[← e'];exact r
  | succ i=>exact ih (i:=i) (by simpa using e)
section
variable {X:Cx}{own fr:List Str}{scope:ueh}{fp:List j9}{pins:List (j9 × Obj)}{s3:d7}{H3:Hp}{pos:Pos}
theorem eZ {es:List ucg}{k:Nat}{t:TGs}{n:Nat}(hc:X.calm=true)(h:PGs (cxComp X own fr scope fp pins s3 H3) es t)
  (hn:(assignEach es (cxComp X own fr scope fp pins s3 H3).env).length=n:=by rfl) (hst:(assignEach es (cxComp X own fr scope fp pins s3 H3).env).findIdx? (·.1)=none:=by rfl):PG (cxComp X own fr scope fp pins s3 H3) (.Tuple es k pos) (gTup X.K n t) :=
 cC (X:=cxComp X own fr scope fp pins s3 H3) hc h hn hst
theorem zX:IxR (cxComp X own fr scope fp pins s3 H3) (rIxL X.K):=aV (X:=cxComp X own fr scope fp pins s3 H3)
theorem bO:IxR (cxComp X own fr scope fp pins s3 H3) (rIxT X.K):=aU (X:=cxComp X own fr scope fp pins s3 H3)
theorem vV:OpR (cxComp X own fr scope fp pins s3 H3) (compareOp .In) (rIn X.K false):=mM (X:=cxComp X own fr scope fp pins s3 H3)
theorem tF:OpR (cxComp X own fr scope fp pins s3 H3) (compareOp .NotIn) (rIn X.K true):=kY (X:=cxComp X own fr scope fp pins s3 H3)
end
def KeepOk (m:Nat)(ks:List Nat):Prop:=ks.Pairwise (·<·)/\∀ k∈ks,k<m
def keepI (ks:List Nat):List Int:=ks.map λ k:Nat=>(k:Int)
def keepD (ks:List Nat):ubr:=.tuple ((keepI ks).map .int)
theorem KeepOk.len {m:Nat}{ks:List Nat}(h:KeepOk m ks):ks.length<=m:=by
 have go:∀ (ks:List Nat)(lo m:Nat),ks.Pairwise (·<·)->(∀ k∈ks,lo<=k/\k<m)->ks.length+lo<=max m lo:=by
  intro ks
  induction ks with
  | nil=>intro lo m _ _;simp;left
  | cons k r ih =>
   intro lo m hp hb
   have h1:=hb k i5
   have:=ih (k+1) m (uce.mp hp).2 λ j hj=>⟨(uce.mp hp).1 j hj,(hb j (i7 _ hj)).2⟩
   rw[z0]
   left
 have:=go ks 0 m h.1 λ k hk=>⟨w8 _,h.2 k hk⟩
 left
theorem bU {K:c6}{H:Hp}{n:Int}{ts:List Tie}{v:V}(h:Is K H (webD n ts) v):∃ (p g:j9)(ws:List V),v=.ref p/\H p=some (.tup [.int n,.ref g])/\H g=some (.tup ws)/\IsAll K H (ts.map tieD) ws/\ws.length=ts.length:=by
 obtain⟨p,vs,rfl,hp,v1,r1,rfl,e1,v2,r2,rfl,⟨g,ws,rfl,hg,hall⟩,e3⟩:=h
 have e1':v1=.int n:=e1
 have e3':r2=[]:=e3
 subst e1' e3'
 exact⟨p,g,ws,rfl,hp,hg,hall,by have:=hall.length;rw[c9] at this;exact this⟩
end L3
namespace Z3
open PySem
section
variable {prog:m5}{w:ual}{A:uaf}{E:d6->d7->Prop}{s:d7}
theorem zah (t:Bool)(l:j9)(xs:Array d6) :
  Meets (Builtin.«enumerate.__new__» ⟨[.type "enumerate",.ref l],[]⟩) (λ _ R s=>SqAt t s.heap l xs /\
   R (.ok (.ret (.ref (s.heap.push (itObj t l)).objs.size))) { s with heap:=(s.heap.push (itObj t l)).push { cls:=.type "enumerate",data:=.fields #[.none,.bool false,.ref s.heap.objs.size,rawInt 0,.none,.none] } }) :=
 .of_wp λ prog w A R s h=>by
  obtain⟨hp,g,d,tk,os⟩:=s;obtain⟨hl,h⟩:=h
  have hsub:=sub_enumerate
  have b1:SqAt t (Shared.heap ⟨hp,g,d,tk,os⟩) l xs:=hl
  obtain⟨o,ho⟩:∃ o,hp.get? l=some o:=by
   cases t with
   | true=>obtain⟨o,q,_⟩:=(show hp.IsTuple l xs from hl);exact⟨o,q⟩
   | false=>obtain⟨o,q,_⟩:=(show hp.IsList l xs from hl);exact⟨o,q⟩
  wp_walk using AutoSeq1.wpAny_loadPart' ho
  refine wpAny_stack_any λ st=>?_
  refine c8 ?_
  split
  ·rename_i c _ _ _ _ _
   rcases (c==Value.type "enumerate") with _ | _
   ·wp_walk using AutoSeq1.wpAny_loadPart' ho,fY b1
    exact⟨_,rfl,h⟩
   ·wp_walk using AutoSeq1.wpAny_loadPart' ho,fY b1
    exact⟨_,rfl,h⟩
  ·wp_walk using AutoSeq1.wpAny_loadPart' ho,fY b1
   exact⟨_,rfl,h⟩
theorem yO {t:Bool}{l:j9}{xs:Array d6}{Q:d6->d7->Prop}(hl:SqAt t s.heap l xs)
  (h:∀ h',IsEnum h' (s.heap.objs.size+1) s.heap.objs.size ((0:Nat):Int) .none->ItAt t h' s.heap.objs.size l 0->h'.objs.size=s.heap.objs.size+2->(∀ b o,s.heap.get? b=some o->h'.get? b=some o)->Q (.ref (s.heap.objs.size+1)) { s with heap:=h' }) :
  j8 (v6 prog w) A (call (.type "enumerate") [.ref l]) Q E s:=by
 refine callType_new F.called_enumerate (by decide) (F.typeCall_enumerate_1 _) (F.newCall_enumerate_1 _) (λ obj=>F.args_object_init_2 obj _) F.entry_enumerate_new (zah t l xs) ⟨hl,?_⟩
 have z1:(s.heap.push (itObj t l)).objs.size=s.heap.objs.size+1:=uaz ..
 have g1:ItAt t ((s.heap.push (itObj t l)).push { cls:=.type "enumerate",data:=.fields #[.none,.bool false,.ref s.heap.objs.size,rawInt 0,.none,.none] }) s.heap.objs.size l 0:=(ItAt.new (t:=t) (h:=s.heap) (l:=l)).to λ o e=>b9 _ e
 have g2:((s.heap.push (itObj t l)).push { cls:=.type "enumerate",data:=.fields #[.none,.bool false,.ref s.heap.objs.size,rawInt 0,.none,.none] }).get? (s.heap.push (itObj t l)).objs.size=some _:=i6 _ rfl
 show _/\_
 rw[z1] at g2 ⊢
 exact⟨⟨_,g2,rfl⟩,h _ g2 g1 (by rw[uaz,z1]) λ b o q=>b9 _ (b9 _ q)⟩
theorem yG {t:Bool}{e it l:j9}{i:Nat}{xs:Array d6}{x old:d6}{Q:d6->d7->Prop}(he:IsEnum s.heap e it i old)(hi:ItAt t s.heap it l i)(hl:SqAt t s.heap l xs)(hx:xs[i]?=some x)(ne:e≠it)
  (hQ:∀ h',IsEnumOut h' e it ((i:Int)+1) x s.heap.objs.size->ItAt t h' it l (i+1)->h'.get? s.heap.objs.size=some { cls:=.type "tuple",data:=.seq #[.int i s.toks,x] }->h'.objs.size=s.heap.objs.size+1 ->
   (∀ b o,b≠e->b≠it->s.heap.get? b=some o->h'.get? b=some o)->Q (.ref s.heap.objs.size) { s with heap:=h',toks:=s.toks+1 }) :
  j8 (v6 prog w) A (Builtin.«enumerate.__next__» ⟨[.ref e],[]⟩) (λ fin s'=>∃ v,fin=.done (.ret v)/\Q v s') E s:=by
 obtain⟨hp,g,d,tk,os⟩:=s
 show j8 _ _ (field (.ref e) 2 >>= _) _ _ _
 refine a9 (ua3 he rfl (x:=.ref it) rfl (a9 (iD hi hl hx λ k1 i1 s1=>?_)))
 replace s1:Heap.SameBut it hp k1:=s1
 have q1:IsEnum k1 e it i old:=(s1.2 e ne).trans he
 show j8 _ _ (field (.ref e) 3 >>= _) _ _ ⟨k1,g,d,tk,os⟩
 refine a9 (ua3 q1 rfl (x:=rawInt i) rfl ?_)
 show j8 _ _ (field (.ref e) 4 >>= _) _ _ ⟨k1,g,d,tk,os⟩
 refine a9 (ua3 q1 rfl (x:=.none) rfl ?_)
 show j8 _ _ (mkInt i >>= _) _ _ ⟨k1,g,d,tk,os⟩
 refine a9 (wpAny_mkInt ?_)
 show j8 _ _ (setField (.ref e) 3 (rawInt ((i:Int)+1)) >>= _) _ _ ⟨k1,g,d,tk+1,os⟩
 refine a9 (ua6 q1 (by simp) λ k2 q2 s2=>?_)
 replace s2:Heap.SameBut e k1 k2:=s2
 replace q2:IsEnum k2 e it ((i:Int)+1) old:=q2
 show j8 _ _ (setField (.ref e) 4 .none >>= _) _ _ ⟨k2,g,d,tk+1,os⟩
 refine a9 (ua6 q2 (by simp) λ k3 q3 s3=>?_)
 replace s3:Heap.SameBut e k2 k3:=s3
 replace q3:IsEnum k3 e it ((i:Int)+1) old:=q3
 show j8 _ _ (newTuple [.int i tk,x] >>= _) _ _ ⟨k3,g,d,tk+1,os⟩
 refine a9 (ufn ?_)
 have q4:IsEnum (k3.push { cls:=.type "tuple",data:=.seq #[.int i tk,x] }) e it ((i:Int)+1) old:=b9 _ q3
 generalize hk4:k3.push { cls:=.type "tuple",data:=.seq #[.int i tk,x] }=k4 at q4
 have sz:k3.objs.size=hp.objs.size:=by rw[s3.1,s2.1,s1.1]
 have lt:e<hp.objs.size:=j3 he
 have t4:k4.get? hp.objs.size=some { cls:=.type "tuple",data:=.seq #[.int i tk,x] }:=by rw[← hk4,← sz];exact i6 _ rfl
 have z4:k4.objs.size=hp.objs.size+1:=by rw[← hk4,uaz,sz]
 have up4:∀ b o,b≠e->b≠it->hp.get? b=some o->k4.get? b=some o:=λ b o n1 n2 q=>by
  rw[← hk4];exact b9 _ (s3.extBut b o n1 (s2.extBut b o n1 (s1.extBut b o n2 q)))
 have i4:ItAt t k4 it l (i+1):=i1.to λ o q=>by
  rw[← hk4];exact b9 _ (s3.extBut _ _ ne.symm (s2.extBut _ _ ne.symm q))
 show j8 _ _ (Builtin.SmallTypes.ownedTupleIsFree (.ref e) >>= _) _ _ ⟨k4,g,d,tk+1,os⟩
 rw[sz]
 clear hk4 q3 s3 q2 s2 q1 s1 i1 sz k3 k2 k1
 refine a9 ?_
 unfold Builtin.SmallTypes.ownedTupleIsFree
 refine a9 (ua3 q4 rfl (x:=.none) rfl (c8 ?_))
 simp only [if_true]
 refine a9 (uc0 (a9 (ua3 q4 rfl (x:=old) rfl (a9 (ua6 q4 (by simp) λ k5 q5 s5=>?_)))))
 replace s5:Heap.SameBut e k4 k5:=s5
 replace q5:IsEnum k5 e it ((i:Int)+1) x:=q5
 show j8 _ _ (Builtin.SmallTypes.ownedTupleHandOut (.ref e) (.ref hp.objs.size) >>= _) _ _ ⟨k5,g,d,tk+1,os⟩
 refine a9 ?_
 unfold Builtin.SmallTypes.ownedTupleHandOut
 refine a9 (ua6 q5 (by simp) λ k6 q6 s6=>?_)
 replace s6:Heap.SameBut e k5 k6:=s6
 replace q6:IsEnumOut k6 e it ((i:Int)+1) x hp.objs.size:=q6
 refine ua6 q6 (by simp) λ k7 q7 s7=>?_
 replace s7:Heap.SameBut e k6 k7:=s7
 replace q7:IsEnumOut k7 e it ((i:Int)+1) x hp.objs.size:=q7
 have up:∀ b o,b≠e->k4.get? b=some o->k7.get? b=some o:=λ b o n q=>s7.extBut b o n (s6.extBut b o n (s5.extBut b o n q))
 exact a9 (udt (c8 ⟨_,rfl,hQ k7 q7 (i4.to λ o q=>up _ o ne.symm q) (up _ _ (uch lt) t4) (by rw[s7.1,s6.1,s5.1,z4]) λ b o n1 n2 q=>up b o n1 (up4 b o n1 n2 q)⟩))
theorem sU {t:Bool}{e it l:j9}{i:Nat}{xs:Array d6}{x old:d6}{Q:Option d6->d7->Prop}(he:IsEnum s.heap e it i old)(hi:ItAt t s.heap it l i)(hl:SqAt t s.heap l xs)(hx:xs[i]?=some x)(ne:e≠it)
  (hQ:∀ h',IsEnumOut h' e it ((i:Int)+1) x s.heap.objs.size->ItAt t h' it l (i+1)->h'.get? s.heap.objs.size=some { cls:=.type "tuple",data:=.seq #[.int i s.toks,x] }->h'.objs.size=s.heap.objs.size+1 ->
   (∀ b o,b≠e->b≠it->s.heap.get? b=some o->h'.get? b=some o)->Q (some (.ref s.heap.objs.size)) { s with heap:=h',toks:=s.toks+1 }) :
  j8 (v6 prog w) A (pyNext (.ref e)) Q E s:=by
 have ty:s.TypeIs (.ref e) "enumerate":=⟨_,he,rfl⟩
 unfold pyNext
 exact a9 (uc8 (uan (name := o8 "__next__") ty udy (uat udy ty F.entry_enumerate_next
     (yG he hi hl hx ne λ h' a b c d k=>c8 (hQ h' a b c d k)) (F.args_enumerate_next_1 _))))
theorem sS {t:Bool}{e it l:j9}{i:Nat}{xs:Array d6}{old:d6}{Q:Option d6->d7->Prop}(hh:A.handled=none)(he:IsEnum s.heap e it i old)(hi:ItAt t s.heap it l i)(hl:SqAt t s.heap l xs)(hx:xs[i]?=none)
  (hQ:∀ h',ud2 it s.heap h'->Q none { s with heap:=h' }):j8 (v6 prog w) A (pyNext (.ref e)) Q E s:=by
 have ty:s.TypeIs (.ref e) "enumerate":=⟨_,he,rfl⟩
 unfold pyNext
 refine a9 (uc8 (uan (name:=o8 "__next__") ty udy (uat udy ty F.entry_enumerate_next ?_ (F.args_enumerate_next_1 _))))
 show j8 _ _ (field (.ref e) 2 >>= _) _ _ _
 refine a9 (ua3 he rfl (x:=.ref it) rfl (a9 (jO hh hi hl hx λ h' x k ⟨o,p1,p2⟩=>?_)))
 exact a9 (udb (T:="StopIteration") (b:=true) ⟨o,p1,p2⟩ ufp (c8 (hQ _ k)))
end
end Z3
namespace L3
open PySem PySem.Spec PyProof.Rows L2
def Itn (t:Bool)(K:c6)(l:j9):It :=
 ⟨λ i H=>∃ xs x,SqX t K H l xs/\xs[i]?=some x,
  λ i H v H'=>∃ T x,H T=none/\v=.ref T/\H'=upd H T (.tup [.int (i:Nat),x])/\(∀ xs,SqX t K H l xs->xs[i]?=some x),
  λ i H=>∃ xs,SqX t K H l xs/\xs.length<=i⟩
theorem wU {P:m5}{w:ual}{K:c6}{elts:List ucg}{kk:Nat}{pos:Pos}{t:Bool}{e it l:j9}(n1:e≠it)(n2:l≠e)(n3:l≠it) :
  Turn P w K (.Tuple elts kk pos) (Itn t K l) [e,it] e (λ i h=>(∃ old,IsEnum h e it (i:Int) old)/\Z3.ItAt t h it l i) where
 mem:=by simp
 obj:=λ i h st b hb=>by
  obtain⟨⟨old,q1⟩,q2⟩:=st
  obtain⟨o2,m2,e2,_,d2⟩:=q2.obj
  simp only [j0,w6,or_false] at hb
  rcases hb with rfl | rfl
  ·exact⟨_,q1,λ v q=>by cases q⟩
  ·exact⟨_,e2,λ v q=>by rw[d2] at q;cases q⟩
 keep:=λ i h h' st k=>by
  obtain⟨⟨old,q1⟩,q2⟩:=st
  exact⟨⟨old,k e (by simp) _ q1⟩,q2.to λ o z=>k it (by simp) o z⟩
 item:=by
  intro X hP hw hK hc i pins s σ H E I hf st hg
  subst hP hw hK
  obtain⟨xs,x,q1,hx⟩:=hg
  obtain⟨⟨old,en⟩,ia⟩:=st
  obtain⟨its1,r1,p1,z1⟩:=seqX I q1
  obtain⟨u1,hu1,ru1⟩:=r1.get hx
  refine Z3.sU en ia p1 (x:=u1) (by simpa using hu1) n1 λ h' eo ia' tp sz kp=>?_
  have I1 : Inv X pins σ (upd H s.heap.objs.size (.tup [.int (i : Nat), x])) { s with heap := h', toks := s.toks+1 } := turnsTup (ch := [e, it]) (its := [.int i s.toks, u1]) I hf (λ b o hb z => by
      simp only [j0,w6,or_false,not_or] at hb
      exact kp b o hb.1 hb.2 z) (h9 _) (by show 2<=v5;rw[ubj];decide) (.cons ⟨_,rfl⟩ (.cons ru1 .nil)) ⟨_,tp,rfl,⟨_,rfl⟩,rfl⟩
  have fr:H s.heap.objs.size=none:=I.fresh
  have elt:e<s.heap.objs.size:=j3 en
  have ilt:it<s.heap.objs.size:=by obtain⟨o2,m2,e2,_⟩:=ia.obj;exact j3 e2
  have zne:∀ b∈[e,it],b≠s.heap.objs.size:=λ b hb=>by
   simp only [j0,w6,or_false] at hb
   rcases hb with rfl | rfl
   ·exact j7 elt
   ·exact j7 ilt
  refine⟨_,rfl,wpAny_letOwnedTupleGo_enum eo λ h2 en2 sb=>?_⟩
  obtain⟨f0,f1,f2,f3,f4,f5⟩:=hf e (by simp)
  have I2:Inv X pins σ (upd H s.heap.objs.size (.tup [.int (i:Nat),x])) { s with heap:=h2,toks:=s.toks+1 }:=Inv.turned (s:={ s with heap:=h',toks:=s.toks+1 }) (it:=e) (t':=s.toks+1) I1 (λ b o hb z=>sb.extBut b o hb z) (by rw[aM (zne e (by simp))];exact f0) f1 f3 f4 f5
  refine⟨.ref s.heap.objs.size,_,I2,rfl,⟨_,x,fr,rfl,rfl,λ zs hz=>by rw[jD I hz q1];exact hx⟩,?_,λ b hb=>by rw[aM (zne b hb)];exact (hf b hb).1⟩
  exact⟨⟨_,by simpa using en2⟩,ia'.to λ o z=>sb.extBut _ _ n1.symm z⟩
 done:=by
  intro X hP hw hK hc i pins s σ H E I hf st hg
  subst hP hw hK
  obtain⟨xs,q1,hx⟩:=hg
  obtain⟨⟨old,en⟩,ia⟩:=st
  obtain⟨its1,r1,p1,z1⟩:=seqX I q1
  have l1:=r1.length
  refine Z3.sS (I.ok.hd hc) en ia p1 (by simp;left) λ h' kp=>⟨rfl,?_⟩
  exact turns (ch:=[e,it]) (t':=s.toks) I hf λ b o hb z=>by
   simp only [j0,w6,or_false,not_or] at hb
   exact kp b o hb.2 z
 self:=λ _ _ _ _ _ st h=>by
  obtain⟨⟨old,en⟩,_⟩:=st
  exact wpAny_pyIter_enum en h
def iEnum (t:Bool)(K:c6)(ta:TA):TI:=λ σ H R=>ta σ H λ vs H1=>∃ l,vs=[.ref l]/\(∃ xs,SqX t K H1 l xs)/\R (Itn t K l) H1
theorem pQ {X:Cx}{elts:List ucg}{kk:Nat}{pos':Pos}(t:Bool){a:ucg}{ta:TA}{p pos:Pos}(hg:Gl X "enumerate")(hm:X.mg "enumerate"=none)(ha:PA X [a] ta)
  (hs:ubd [a] X.env=[(false,eval a X.env)]:=by rfl) (hs2:ubd [] X.env=[]:=by rfl) :
  PI X (.Tuple elts kk pos') (.Call (.Name "enumerate" p) [a] [] pos) (iEnum t X.K ta):=by
 intro pins s σ H R I h
 refine Call_ (dE I hg hm boot_enumerate (ucv (thn (ha pos pins s σ H _ I h) λ us s1 ⟨vs,H1,I1,r1,q1⟩=>?_) (by rw[hs,hs2]) (by rw[hs2];rfl)))
 obtain⟨l,e,⟨xs,qx⟩,q⟩:=q1
 subst e
 obtain⟨u,rfl,rx⟩:=vals1 r1
 cases rx
 obtain⟨its1,r1,p1,z1⟩:=seqX I1 qx
 have lt:l<s1.heap.objs.size:=by
  cases t with
  | true=>obtain⟨o,e,_⟩:=(show s1.heap.IsTuple l _ from p1);exact j3 e
  | false=>obtain⟨o,e,_⟩:=(show s1.heap.IsList l _ from p1);exact j3 e
 refine Z3.yO p1 λ h' en ia sz kp=>wpAny_pyIter_enum en ?_
 have I2:Inv X pins σ H1 { s1 with heap:=h',toks:=s1.toks }:=I1.kept (t':=s1.toks) kp
 refine⟨s1.heap.objs.size+1,[s1.heap.objs.size+1,s1.heap.objs.size],_,_,H1,rfl,I2,wU (Nat.succ_ne_self _) (j7 (ube lt)) (j7 lt),⟨⟨_,en⟩,ia⟩,λ b hb=>?_,q⟩
 have hb':s1.heap.objs.size<=b:=by
  simp only [j0,w6,or_false] at hb
  rcases hb with rfl | rfl
  ·exact ub8 _
  ·exact h9 _
 exact I1.fpOk hb' (I1.hok.fresh hb')
end L3
namespace HT
open PySem PyProof.Rows
section
variable {prog:m5}{w:ual}{A:uaf}{E:d6->d7->Prop}{s:d7}
theorem uT {t:j9}{items:Array d6}{Q:Bool->d7->Prop}(ht:IsTup s.heap t items)(h:Q true s):j8 (v6 prog w) A (Builtin.Tuple.tupleIsExact (.ref t)) Q E s:=by
 unfold Builtin.Tuple.tupleIsExact
 exact a9 (uen ht.typeIs (c8 h))
theorem rQ {t sl:j9}{items:Array d6}{vl vu:d6}{lo hi:Option Int}{Q:d6->d7->Prop}(ht:IsTup s.heap t items)(hs:s.heap.IsSliceOf sl vl vu .none)(pl:IsPart vl lo)(pu:IsPart vu hi)
  (hw:sIx items.size 0 lo=0/\sIx items.size items.size hi=items.size) (h:Q (.ref t) s):j8 (v6 prog w) A (getItem (.ref t) (.ref sl)) Q E s:=by
 obtain⟨os,hos,hcs,hds⟩:=id hs
 have ty:s.TypeIs (.ref sl) "slice":=⟨os,hos,hcs⟩
 unfold getItem
 try with_reducible refine uam ?_
 first | refine a9 (c8 ?_) | skip
 refine a9 (wpAny_sequenceKey ht.typeIs (by decide) (a9 (uan (name:=o8 "__getitem__") ht.typeIs ua5
  (uat ua5 ht.typeIs entry_tuple_getitem ?_ (args_tuple_getitem _ _)))))
 show j8 _ _ (Builtin.Tuple.tupleItemsOf (.ref t) >>= _) _ _ s
 refine a9 (tupleItemsOf_ ht (a9 (uen ty ?_)))
 rw[uhc (by decide)]
 refine a9 (kT hs pl pu ?_)
 have yes:(((sIx items.size 0 lo:Nat):Int)==0&&(1:Int)==1&&(sIx items.size items.size hi-sIx items.size 0 lo)==items.size)=true:=by
  rw[hw.1,hw.2];simp
 show j8 _ _ (if (((sIx items.size 0 lo:Nat):Int)==0&&(1:Int)==1&&(sIx items.size items.size hi-sIx items.size 0 lo)==items.size)=true then _ else _) _ _ s
 rw[uhc yes]
 refine a9 (uT ht ?_)
 rw[uhc rfl]
 exact a9 (uc0 (a9 (c8 (c8 ⟨_,rfl,c8 h⟩))))
end
end HT
namespace L3
open PySem PySem.Spec PyProof.Rows L2
section
variable {X:Cx}{pins:List (j9 × Obj)}{σ:L2.St}{H:Hp}{s:d7}{e:ucg}{te:TE}{pos p2:Pos}
theorem zak {xs:List V}{lo hi:Option Int}(h:HT.sIx xs.length 0 lo=0/\HT.sIx xs.length xs.length hi=xs.length):cutV xs lo hi=xs:=by
 unfold cutV
 rw[h.1,h.2]
 simp
inductive rSlA_i  (x:V) (lo:Option Int) (hi:Option Int) (H:Hp) (Q:VK):Prop
 | mk:∀ a xs,(x=.ref a)->(H a=some (.tup xs))->(∀ p H',Same H H'->H' p=some (.tup (cutV xs lo hi))->Q (.ref p) H')->rSlA_i x lo hi H Q
def rSlA :V->Option Int->Option Int->Hp->VK->Prop:=λ x lo hi H Q=>rSlA_i x lo hi H Q
theorem fX:SlR X rSlA:=by
 intro pins s σ H x v vl vu lo hi sl Q I rx hs pl pu h
 obtain⟨a,xs,rfl,hx,q⟩:=h
 by_cases c:HT.sIx xs.length 0 lo=0/\HT.sIx xs.length xs.length hi=xs.length
 ·cases rx
  obtain⟨its,r,ht,hz⟩:=I.tuple (SqT.of hx)
  have hlen:its.toArray.size=xs.length:=by rw[i8];exact r.length.symm
  refine⟨"tuple",_,ua5.lookup,ht.typeIs,HT.rQ ht hs pl pu (by rw[hlen];exact c) ⟨.ref a,H,I,rfl,q _ _ (Same.refl H) (by rw[zak c];exact hx)⟩⟩
 ·exact zbz (X:=X) pins s σ H (.ref a) v vl vu lo hi sl Q I rx hs pl pu ⟨a,xs,rfl,SqT.of hx,c,λ p hp=>q p _ (aQ hp) aH⟩
end
theorem iteNB {b:Bool}{A B:Prop}(hb:b=true)(h:B):if (!b)=true then A else B:=by
 subst hb;exact h
theorem iteB2 {b:Bool}{A B:Prop}(h1:b=true->B)(h2:b=false->A):if (!b)=true then A else B:=by
 cases b with
 | true=>exact h1 rfl
 | false=>exact h2 rfl
def numB (m:Nat):ubr->Bool
 | .int i=>decide (0<=i)&&decide (i<(m:Int))
 | _=>false
def intOf:ubr->Int
 | .int i=>i
 | _=>0
def risI (ns:List Int):Bool:=((c7 (min ns.length (ns.drop 1).length)).map λ i=>decide (ns.getD i 0<(ns.drop 1).getD i 0)).all id
def keepB (m:Nat):ubr->Bool
 | .tuple ds=>ds.all (numB m)&&risI (ds.map intOf)
 | _=>false
theorem jV {ds:List ubr}(h:∀ d∈ds,∃ i,d=.int i):ds=(ds.map intOf).map .int:=by
 rw[ubo]
 conv=>lhs;rw[← List.map_id ds]
 refine udm λ d hd=>?_
 obtain⟨i,rfl⟩:=h d hd
 rfl
structure Pre (m:Nat)(ds:List ubr)(i:Nat)(a:Int):Prop where
 num:∀ d∈ds.take i,numB m d=true
 up:((ds.take i).map intOf).Pairwise (·<·)
 top:∀ x∈(ds.take i).map intOf,x<=a
 at_:a=-1\/a∈(ds.take i).map intOf
theorem eI {α:Type}{ds:List α}{i:Nat}{d:α}(e:ds[i]?=some d):ds.take (i+1)=ds.take i++[d]:=by
 rw[ucl,e];rfl
def flatD:V->Bool
 | .non | .bl _ | .int _ | .str _=>true
 | _=>false
theorem Pot.same {H H':Hp}{p:j9}(h:Pot H p)(s:Same H H'):Pot H' p:=let ⟨a,b,e,z⟩:=h;⟨a,b,s _ _ e,z⟩
theorem nO:∀ ts:List Tie,tupAll (ts.map tieD)=true
 | []=>rfl
 | t::r=>by show (tupD (tieD t)&&tupAll (r.map tieD))=true;rw[nO r];rfl
theorem eV (n:Int)(ts:List Tie):tupD (webD n ts)=true:=by
 show (true&&(tupAll (ts.map tieD)&&true))=true
 rw[nO ts];rfl
end L3
namespace L3
end L3
namespace L3
open PySem PySem.Spec PyProof.Rows L2
theorem lI {c:TT}{a b:TS}{D:Ends}{σ:L2.St}{H:Hp}(h:let A:=a;let B:=b;let E:=D;let S:=σ;tIfS c A B E S H):tIfS c a b D σ H:=h
end L3
namespace Dfs
inductive Ev
 | go (here there:Nat)
 | back (here:Nat) (to:Option Nat)
def First (tied:Nat->Nat->Bool)(n here:Nat)(seen:List Nat)(p:Nat):Prop:=p<n/\tied here p=true/\p∉seen/\∀ j,j<p->tied here j=true->j∈seen
def NoneNew (tied:Nat->Nat->Bool)(n here:Nat)(seen:List Nat):Prop:=∀ j,j<n->tied here j=true->j∈seen
inductive Run (tied:Nat->Nat->Bool)(n:Nat):List Nat->List Nat->List Ev->List Nat->Prop
 | nil (seen):Run tied n [] seen [] seen
 | pop {here rest seen es out}:NoneNew tied n here seen->Run tied n rest seen es out->Run tied n (here::rest) seen (.back here rest.head?::es) out
 | push {here rest seen p es out}:First tied n here seen p->Run tied n (p::here::rest) (seen++[p]) es out->Run tied n (here::rest) seen (.go here p::es) out
def goneL (tied:Nat->Nat->Bool)(g:Nat->List Nat->List Ev × List Nat)(here:Nat):List Nat->List Nat->List Ev × List Nat
 | [],known=>([],known)
 | t :: r, known => if tied here t = true /\ t∉known then
     (.go here t::((g t (known++[t])).1++.back t (some here)::(goneL tied g here r (g t (known++[t])).2).1),(goneL tied g here r (g t (known++[t])).2).2)
  else goneL tied g here r known
def gone (tied:Nat->Nat->Bool)(n:Nat):Nat->Nat->List Nat->List Ev × List Nat
 | 0,_,known=>([],known)
 | f+1,here,known=>goneL tied (gone tied n f) here (c7 n) known
variable {tied:Nat->Nat->Bool}{n:Nat}
theorem goneL_mono {g:Nat->List Nat->List Ev × List Nat}(hg:∀ t ks j,j∈ks->j∈(g t ks).2)(here:Nat):∀ (l known:List Nat)(j:Nat),j∈known->j∈(goneL tied g here l known).2
 | [],_,_,h=>h
 | t::r,known,j,h=>by
  unfold goneL
  split
  ·exact goneL_mono hg here r _ j (hg t _ j (uag _ h))
  ·exact goneL_mono hg here r _ j h
theorem gone_mono:∀ (f here:Nat)(known:List Nat)(j:Nat),j∈known->j∈(gone tied n f here known).2
 | 0,_,_,_,h=>h
 | f+1,here,known,j,h=>goneL_mono (λ t ks j h=>gone_mono f t ks j h) here _ _ j h
def left (n:Nat)(ks:List Nat):Nat:=((c7 n).filter λ j=>decide (j∉ks)).length
theorem left_le {a b:List Nat}(h:∀ j,j∈a->j∈b):left n b<=left n a:=by
 unfold left
 have:((c7 n).filter λ j=>decide (j∉b)).Sublist ((c7 n).filter λ j=>decide (j∉a)):=by
  generalize c7 n=l
  induction l with
  | nil=>exact List.Sublist.refl _
  | cons x r ih =>
   by_cases hb:x∈b
   ·by_cases ha:x∈a
    ·rw[ubu (by simpa using hb),ubu (by simpa using ha)];exact ih
    ·rw[ubu (by simpa using hb),ubt (by simpa using ha)];exact ih.cons _
   ·have ha:x∉a:=λ z=>hb (h x z)
    rw[ubt (by simpa using hb),ubt (by simpa using ha)];exact ih.cons_cons _
 exact this.length_le
theorem left_lt {ks:List Nat}{t:Nat}(ht:t<n)(hk:t∉ks):left n (ks++[t])<left n ks:=by
 unfold left
 have key:∀ l:List Nat,l.Nodup->t∈l->(l.filter λ j=>decide (j∉ks++[t])).length<(l.filter λ j=>decide (j∉ks)).length:=λ l=>by
  induction l with
  | nil=>intro _ h;cases h
  | cons x r ih =>
   intro nd h
   obtain⟨nx,nr⟩:=ua2.mp nd
   by_cases e:x=t
   ·subst e
    rw[ubu (by simp),ubt (by simpa using hk)]
    have:(r.filter λ j=>decide (j∉ks++[x]))=r.filter λ j=>decide (j∉ks):=List.filter_congr λ j hj=>by
     have:j≠x:=λ z=>nx (z ▸ hj)
     simp [this]
    rw[this]
    exact ua4 _
   ·have hr:t∈r:=(j0.mp h).resolve_left λ z=>e z.symm
    have:=ih nr hr
    by_cases hx:x∈ks
    ·rw[ubu (by simp [hx]),ubu (by simp [hx])];exact this
    ·rw[ubt (by simp [hx,e]),ubt (by simp [hx])]
     exact Nat.succ_lt_succ this
 exact key _ udk (j4.mpr ht)
theorem iY {g:Nat->List Nat->List Ev × List Nat}{m:Nat}(hm:∀ t ks j,j∈ks->j∈(g t ks).2)
  (hg:∀ t ks rest es out,left n ks<m->Run tied n rest (g t ks).2 es out->Run tied n (t::rest) ks ((g t ks).1++.back t rest.head?::es) out)
  {here:Nat} {rest:List Nat} {es:List Ev} {out:List Nat}:∀ (l pre known:List Nat),c7 n=pre++l->(∀ j∈pre,tied here j=true->j∈known)->left n known<m+1->Run tied n rest (goneL tied g here l known).2 es out->Run tied n (here::rest) known ((goneL tied g here l known).1++.back here rest.head?::es) out
 | [],pre,known,e,hp,_,h=>by
  refine .pop (λ j hj tj=>hp j ?_ tj) h
  rw[ubi] at e
  rw[← e];exact j4.mpr hj
 | t::r,pre,known,e,hp,hl,h=>by
  have tn:t<n:=j4.mp (by rw[e];exact r8 _ i5)
  have e':c7 n=(pre++[t])++r:=by rw[e,ubp];rfl
  unfold goneL at h ⊢
  by_cases c:tied here t=true/\t∉known
  ·rw[uhc c] at h ⊢
   have low:∀ j,j<t->j∈pre:=λ j hj=>by
    have pw:(pre++t::r).Pairwise (·<·):=e ▸ uaw
    have jm:j∈pre++t::r:=by rw[← e];exact j4.mpr (by left)
    rcases o9.mp jm with z | z
    ·exact z
    ·rcases j0.mp z with z | z
     ·left
     ·have:=(uce.mp (ud0.mp pw).2.1).1 j z;left
   have lt1:=left_lt tn c.2
   refine .push ⟨tn,c.1,c.2,λ j hj tj=>hp j (low j hj) tj⟩ ?_
   show Run tied n (t::here::rest) (known++[t]) (((g t (known++[t])).1++.back t (some here)::_)++_) out
   rw[ubp]
   refine hg t (known++[t]) (here::rest) _ out (by left) ?_
   refine iY hm hg r (pre++[t]) _ e' (λ j hj tj=>hm t _ j ?_) (ubv (left_le λ j hj=>hm t _ j (uag _ hj)) hl) h
   rcases o9.mp hj with z | z
   ·exact uag _ (hp j z tj)
   ·exact r8 _ z
  ·rw[uhd c] at h ⊢
   refine iY hm hg r (pre++[t]) known e' (λ j hj tj=>?_) hl h
   rcases o9.mp hj with z | z
   ·exact hp j z tj
   ·rw[j5.mp z] at tj ⊢
    by_cases k:t∈known
    ·exact k
    ·exact absurd ⟨tj,k⟩ c
theorem oI:∀ (f here:Nat)(known rest:List Nat)(es:List Ev)(out:List Nat),left n known<f->Run tied n rest (gone tied n f here known).2 es out->Run tied n (here::rest) known ((gone tied n f here known).1++.back here rest.head?::es) out
 | 0,_,_,_,_,_,h,_=>absurd h (ucs _)
 | f+1,here,known,rest,es,out,h,r=>iY (m:=f) (λ t ks j h=>gone_mono f t ks j h) (λ t ks rest es out h r=>oI f t ks rest es out h r) (c7 n) [] known rfl (λ j hj=>by cases hj) h r
theorem gone_root {f root:Nat}(h:left n [root]<f):Run tied n [root] [root] ((gone tied n f root [root]).1++[.back root none]) (gone tied n f root [root]).2:=oI f root [root] [] [] _ h (.nil _)
end Dfs
namespace Far
inductive Walk (A:List (Nat × Nat × Int))(s:Nat):Nat->Int->Prop
 | nil:Walk A s s 0
 | snoc {u v:Nat} {l x:Int}:Walk A s u x->(u,v,l)∈A->Walk A s v (x+l)
variable {A:List (Nat × Nat × Int)}{s:Nat}
def Pos (A:List (Nat × Nat × Int)):Prop:=∀ u v l,(u,v,l)∈A->1<=l
theorem Walk.nonneg (P:Pos A){v:Nat}{x:Int}(h:Walk A s v x):0<=x:=by
 induction h with
 | nil=>exact uav 0
 | snoc _ m ih=>have:=P _ _ _ m;left
def Dst (A:List (Nat × Nat × Int))(s v:Nat)(o:Option Int):Prop:=(∀ y,o=some y->Walk A s v y)/\∀ L,Walk A s v L->∃ y,o=some y/\y<=L
theorem Dst.unique {v:Nat}{o p:Option Int}(h:Dst A s v o)(k:Dst A s v p):o=p:=by
 cases o with
 | none =>
  cases p with
  | none=>rfl
  | some y=>obtain⟨_,e,_⟩:=h.2 y (k.1 y rfl);cases e
 | some x =>
  obtain⟨y,rfl,hy⟩:=k.2 x (h.1 x rfl)
  obtain⟨z,e,hz⟩:=h.2 y (k.1 y rfl)
  cases e
  rw[show x=y by left]
theorem least {P:Nat->Prop}:∀ n,P n->∃ m,P m/\∀ k,P k->m<=k:=by
 intro n
 induction n using ugk with
 | ind n ih =>
  intro h
  by_cases c:∃ k,k<n/\P k
  ·obtain⟨k,hk,pk⟩:=c;exact ih k hk pk
  ·exact⟨n,h,λ k pk=>by
    by_cases z:k<n
    ·exact absurd ⟨k,z,pk⟩ c
    ·left⟩
theorem lX (P:Pos A)(s v:Nat):∃ o,Dst A s v o:=by
 by_cases c:∃ x,Walk A s v x
 ·obtain⟨x,hx⟩:=c
  have nn:=hx.nonneg P
  obtain⟨m,hm,mn⟩:=least (P:=λ k=>Walk A s v (k:Int)) x.toNat (by rw[uar nn];exact hx)
  refine⟨some m,λ y e=>by cases e;exact hm,λ L hL=>⟨m,rfl,?_⟩⟩
  have n2:=hL.nonneg P
  have:=mn L.toNat (by rw[uar n2];exact hL)
  left
 ·exact⟨none,⟨λ y e=>(by cases e),λ L hL=>absurd ⟨L,hL⟩ c⟩⟩
theorem Walk.cons {u v:Nat}{l:Int}(m:(u,v,l)∈A){w:Nat}{x:Int}(h:Walk A v w x):Walk A u w (x+l):=by
 induction h with
 | nil=>exact .snoc .nil m
 | snoc _ m' ih=>rw[ufl];exact .snoc ih m'
def Sym (A:List (Nat × Nat × Int)):Prop:=∀ u v l,(u,v,l)∈A->(v,u,l)∈A
theorem Walk.back (S:Sym A){v:Nat}{x:Int}(h:Walk A s v x):Walk A v s x:=by
 induction h with
 | nil=>exact .nil
 | snoc _ m ih=>exact ih.cons (S _ _ _ m)
theorem Dst.back (S:Sym A){v:Nat}{o:Option Int}(h:Dst A s v o):Dst A v s o:=⟨λ y e=>(h.1 y e).back S,λ L hL=>h.2 L (hL.back S)⟩
def lt2 (e f:Int × Int):Prop:=e.1<f.1\/(e.1=f.1/\e.2<f.2)
def get {α:Type}(cs:List (Option α))(v:Nat):Option α:=cs.getD v none
theorem bF {α:Type}{cs:List (Option α)}{v i:Nat}{x:Option α}(h:v<cs.length):get (cs.set v x) i=if i=v then x else get cs i:=by
 unfold get
 rw[g9,List.getElem?_set,g9]
 by_cases c:v=i
 ·subst c;simp [h]
 ·simp [c,Ne.symm c]
def ct {α:Type}:List (Option α)->Nat
 | []=>0
 | none::r=>ct r
 | some _::r=>ct r+1
theorem iJ {α:Type}:∀ cs:List (Option α),ct cs<=cs.length
 | []=>h9 0
 | none::r=>Nat.le_succ_of_le (iJ r)
 | some _::r=>uf8 (iJ r)
theorem iI {α:Type}{c:α}:∀ {cs:List (Option α)}{v:Nat},v<cs.length->ct (cs.set v (some c))=ct cs+(if (get cs v).isSome then 0 else 1)
 | none::r,0,_=>rfl
 | some _::r,0,_=>rfl
 | none::r,v+1,h=>iI (cs:=r) (v:=v) (by simpa using h)
 | some _::r,v+1,h=>by
  have:=iI (c:=c) (cs:=r) (v:=v) (by simpa using h)
  show ct (r.set v (some c))+1=ct r+1+_
  rw[this]
  show _=ct r+1+(if (get r v).isSome then 0 else 1)
  left
theorem rA {α:Type}:∀ {cs:List (Option α)}{v:Nat}{c:α},get cs v=some c->1<=ct cs
 | [],v,c,h=>by cases h
 | some _::r,_,_,_=>uf8 (w8 _)
 | none::r,0,c,h=>by cases h
 | none::r,v+1,c,h=>rA (cs:=r) (v:=v) (c:=c) h
def WM:Int:=2^130
def mW:Option (Int × Int)->Nat
 | none=>(2^250)
 | some c=>(c.1*WM+c.2).toNat
def mu:List (Option (Int × Int))->Nat
 | []=>0
 | c::r=>mW c+mu r
theorem qT {x:Option (Int × Int)}:∀ {cs:List (Option (Int × Int))}{v:Nat},v<cs.length->mW x<mW (get cs v)->mu (cs.set v x)<mu cs
 | c::r,0,_,h=>Nat.add_lt_add_right (k:=mu r) h
 | c::r,v+1,hl,h=>Nat.add_lt_add_left (k:=mW c) (qT (cs:=r) (v:=v) (by simpa using hl) h)
structure Good (A:List (Nat × Nat × Int))(n s:Nat)(cs:List (Option (Int × Int))):Prop where
 len:cs.length=n
 walk:∀ v c,get cs v=some c->Walk A s v c.1
 w0:∀ v c,get cs v=some c->0<=c.2/\c.2<=c.1*2^60
 top:∀ v c,get cs v=some c->c.1<=((ct cs:Nat)-1:Int)*10^18
 start:∃ c,get cs s=some c/\c.1<=0
theorem Good.step {n u v:Nat}{l w:Int}{cs:List (Option (Int × Int))}{c:Int × Int}(P:Pos A)(n24:n<=24)(g:Good A n s cs)(arc:(u,v,l)∈A)(l1:l<=10^18)(w0:0<=w)(w1:w<=2^60)(hv:v<n)(hu:get cs u=some c)
  (h:get cs v=none\/∃ c',get cs v=some c'/\lt2 (c.1+l,c.2+w) c'):Good A n s (cs.set v (some (c.1+l,c.2+w)))/\mu (cs.set v (some (c.1+l,c.2+w)))<mu cs:=by
 have hv':v<cs.length:=by rw[g.len];exact hv
 have l0:=P _ _ _ arc
 have wk:=Walk.snoc (g.walk _ _ hu) arc
 have c0:=(g.walk _ _ hu).nonneg P
 obtain⟨cw0,cw1⟩:=g.w0 _ _ hu
 have ct24:ct cs<=24:=by have:=iJ cs;rw[g.len] at this;left
 have ctp:=rA hu
 have es:=iI (c:=(c.1+l,c.2+w)) hv'
 have topc:=g.top _ _ hu
 have wbound:c.2+w<=(c.1+l)*2^60:=by rw[Int.add_mul];left
 have big:c.1+l<=((ct (cs.set v (some (c.1+l,c.2+w))):Nat)-1:Int)*10^18:=by
  rw[es]
  rcases h with h | ⟨c',h,hlt⟩
  ·rw[h]
   show _<=(((ct cs+1:Nat):Int)-1)*10^18
   left
  ·rw[h]
   show _<=(((ct cs+0:Nat):Int)-1)*10^18
   have:=g.top _ _ h
   unfold lt2 at hlt
   simp only at hlt
   left
 have ctm:ct cs<=ct (cs.set v (some (c.1+l,c.2+w))):=by rw[es];exact udz _ _
 refine⟨⟨by rw[ubs];exact g.len,λ v' d e=>?_,λ v' d e=>?_,λ v' d e=>?_,?_⟩,?_⟩
 ·rw[bF hv'] at e
  split at e
  ·rename_i z;subst z;cases e;exact wk
  ·exact g.walk _ _ e
 ·rw[bF hv'] at e
  split at e
  ·cases e;exact⟨by show 0<=c.2+w;left,wbound⟩
  ·exact g.w0 _ _ e
 ·rw[bF hv'] at e
  split at e
  ·cases e;exact big
  ·have:=g.top _ _ e
   left
 ·obtain⟨d,hd,hd0⟩:=g.start
  rw[bF hv']
  split
  ·rename_i z;subst z
   refine⟨_,rfl,?_⟩
   rcases h with h | ⟨c',h,hlt⟩
   ·rw[h] at hd;cases hd
   ·rw[h] at hd;cases hd
    unfold lt2 at hlt
    simp only at hlt
    show c.1+l<=0
    left
  ·exact⟨d,hd,hd0⟩
 ·refine qT hv' ?_
  have ctb:ct (cs.set v (some (c.1+l,c.2+w)))<=24:=by have:=iJ (cs.set v (some (c.1+l,c.2+w)));rw[ubs,g.len] at this;left
  have x23:c.1+l<=23*10^18:=by left
  have y23:c.2+w<=23*10^18*2^60:=by left
  have WMe:WM=1361129467683753853853498429727072845824:=by decide
  rcases h with h | ⟨c',h,hlt⟩
  ·rw[h]
   show ((c.1+l)*WM+(c.2+w)).toNat<2^250
   have:(c.1+l)*WM+(c.2+w)<2^250:=by rw[WMe];left
   left
  ·rw[h]
   obtain⟨d0,d1⟩:=g.w0 _ _ h
   have t0:=(g.walk _ _ h).nonneg P
   have tt:=g.top _ _ h
   show ((c.1+l)*WM+(c.2+w)).toNat<(c'.1*WM+c'.2).toNat
   unfold lt2 at hlt
   simp only at hlt
   have:(c.1+l)*WM+(c.2+w)<c'.1*WM+c'.2:=by
    rw[WMe]
    rcases hlt with z | ⟨z,z'⟩
    ·left
    ·rw[z];left
   have p0:0<=(c.1+l)*WM+(c.2+w):=by rw[WMe];left
   left
def Stab (A:List (Nat × Nat × Int))(cs:List (Option (Int × Int))):Prop:=∀ u v l c,(u,v,l)∈A->get cs u=some c->∃ c',get cs v=some c'/\c'.1<=c.1+l
theorem Good.dst {n:Nat}{cs:List (Option (Int × Int))}(g:Good A n s cs)(st:Stab A cs)(v:Nat):Dst A s v ((get cs v).map (·.1)):=by
 refine⟨λ y e=>?_,λ L hL=>?_⟩
 ·cases h:get cs v with
  | none=>rw[h] at e;cases e
  | some c=>rw[h] at e;cases e;exact g.walk _ _ h
 ·have:∃ c,get cs v=some c/\c.1<=L:=by
   induction hL with
   | nil=>exact g.start
   | snoc _ m ih =>
    obtain⟨c,hc,hle⟩:=ih
    obtain⟨c',hc',hle'⟩:=st _ _ _ _ m hc
    exact⟨c',hc',by left⟩
  obtain⟨c,hc,hle⟩:=this
  exact⟨c.1,by rw[hc];rfl,hle⟩
structure Snd (A:List (Nat × Nat × Int))(n s:Nat)(D:List (Option Int)):Prop where
 len:D.length=n
 walk:∀ v x,get D v=some x->Walk A s v x
 start:∃ x,get D s=some x/\x<=0
structure Rnd (A:List (Nat × Nat × Int))(n s:Nat)(δ:Nat->Option Int)(D0:List (Option Int))(B:(Nat × Nat × Int)->Prop)(D:List (Option Int)):Prop where
 snd:Snd A n s D
 keep:∀ v,get D0 v=δ v->get D v=δ v
 arc:∀ u v l x,B (u,v,l)->get D0 u=δ u->δ u=some x->∃ y,get D v=some y/\y<=x+l
section
variable {n:Nat}{δ:Nat->Option Int}{D0 D:List (Option Int)}{B:(Nat × Nat × Int)->Prop}{u v:Nat}{l:Int}
def plus (B:(Nat × Nat × Int)->Prop)(a:Nat × Nat × Int):(Nat × Nat × Int)->Prop:=λ b=>B b\/b=a
theorem Rnd.no (r:Rnd A n s δ D0 B D)(hu:get D u=none):Rnd A n s δ D0 (plus B (u,v,l)) D:=by
 refine⟨r.snd,r.keep,λ u' v' l' x b e1 e2=>?_⟩
 rcases b with b | b
 ·exact r.arc _ _ _ _ b e1 e2
 ·cases b
  have:=r.keep _ e1
  rw[hu,e2] at this;cases this
theorem Rnd.old (r:Rnd A n s δ D0 B D){x' y:Int}(hu:get D u=some x')(hv:get D v=some y)(hy:y<=x'+l):Rnd A n s δ D0 (plus B (u,v,l)) D:=by
 refine⟨r.snd,r.keep,λ u' v' l' x b e1 e2=>?_⟩
 rcases b with b | b
 ·exact r.arc _ _ _ _ b e1 e2
 ·cases b
  have:=r.keep _ e1
  rw[hu,e2] at this;cases this
  exact⟨y,hv,hy⟩
theorem Rnd.put (dd:∀ v,Dst A s v (δ v))(m:(u,v,l)∈A)(hn:v<n)(r:Rnd A n s δ D0 B D){x':Int}(hu:get D u=some x')(hv:get D v=none\/∃ y,get D v=some y/\x'+l<y)(P:Pos A):Rnd A n s δ D0 (plus B (u,v,l)) (D.set v (some (x'+l))):=by
 have hl:v<D.length:=by rw[r.snd.len];exact hn
 have wk:=Walk.snoc (r.snd.walk _ _ hu) m
 obtain⟨d,hd,hdl⟩:=(dd v).2 _ wk
 have bad:get D0 v=δ v->False:=λ e=>by
  have e':=r.keep _ e
  rcases hv with hv | ⟨y,hv,hy⟩
  ·rw[hv,hd] at e';cases e'
  ·rw[hv,hd] at e';cases e';left
 refine⟨⟨by rw[ubs];exact r.snd.len,λ i x e=>?_,?_⟩,λ i e=>?_,λ u' v' l' x b e1 e2=>?_⟩
 ·rw[bF hl] at e
  split at e
  ·rename_i z;subst z;cases e;exact wk
  ·exact r.snd.walk _ _ e
 ·rw[bF hl]
  split
  ·rename_i z;subst z
   obtain⟨x,hx,hx0⟩:=r.snd.start
   rcases hv with hv | ⟨y,hv,hy⟩
   ·rw[hv] at hx;cases hx
   ·rw[hv] at hx;cases hx
    exact⟨_,rfl,by left⟩
  ·exact r.snd.start
 ·rw[bF hl]
  split
  ·rename_i z;subst z;exact absurd e bad
  ·exact r.keep _ e
 ·rw[bF hl]
  rcases b with b | b
  ·obtain⟨y',hy',hle⟩:=r.arc _ _ _ _ b e1 e2
   split
   ·rename_i z;subst z
    refine⟨_,rfl,?_⟩
    rcases hv with hv | ⟨y,hv,hy⟩
    ·rw[hv] at hy';cases hy'
    ·rw[hv] at hy';cases hy';left
   ·exact⟨y',hy',hle⟩
  ·cases b
   have:=r.keep _ e1
   rw[hu,e2] at this;cases this
   rw[uhc rfl]
   exact⟨_,rfl,uav _⟩
theorem Rnd.next (dd:∀ v,Dst A s v (δ v))(P:Pos A)(inn:∀ u v l,(u,v,l)∈A->u<n/\v<n)(s0:Snd A n s D0)(r:Rnd A n s δ D0 B D)(all:∀ a∈A,B a):∀ (k:Nat)(v:Nat),v<n->get D0 v≠δ v->(∀ d,δ v=some d->d.toNat<=k)->∃ v,v<n/\get D0 v≠δ v/\get D v=δ v:=by
 intro k
 induction k using ugk with
 | ind k ih =>
  intro v hv hne hk
  cases e:δ v with
  | none =>
   cases e2:get D0 v with
   | none=>exact absurd (e2.trans e.symm) hne
   | some x =>
    obtain⟨y,hy,_⟩:=(dd v).2 _ (s0.walk _ _ e2)
    rw[e] at hy;cases hy
  | some d =>
   have wk:=(dd v).1 _ e
   have hkd:=hk _ e
   cases hw:wk with
   | nil =>
    obtain⟨x,hx,hx0⟩:=s0.start
    have:=(s0.walk _ _ hx).nonneg P
    have:x=0:=by left
    subst this
    exact absurd (hx.trans e.symm) hne
   | @snoc u _ l x w m =>
    obtain⟨y,hy,hyx⟩:=(dd u).2 _ w
    obtain⟨d',hd',hle⟩:=(dd v).2 _ (Walk.snoc ((dd u).1 _ hy) m)
    rw[e] at hd';cases hd'
    have yx:y=x:=by left
    subst yx
    by_cases c:get D0 u=δ u
    ·obtain⟨y',hy',hle'⟩:=r.arc _ _ _ _ (all _ m) c hy
     obtain⟨d',hd',hle2⟩:=(dd v).2 _ (r.snd.walk _ _ hy')
     rw[e] at hd';cases hd'
     have:y'=y+l:=by left
     subst this
     exact⟨v,hv,hne,hy'.trans e.symm⟩
    ·have l1:=P _ _ _ m
     have y0:=((dd u).1 _ hy).nonneg P
     refine ih (k-1) (by left) u (inn _ _ _ m).1 c λ d hd=>?_
     rw[hy] at hd;cases hd;left
end
theorem eN {α:Type}{p q:α->Bool}:∀ {xs:List α},(∀ x∈xs,p x=true->q x=true)->(∃ x∈xs,q x=true/\p x=false)->xs.countP p<xs.countP q
 | [],_,⟨x,h,_⟩=>by cases h
 | a::r,h,⟨x,hx,e1,e2⟩=>by
  rw[ueq,ueq]
  have le:r.countP p<=r.countP q:=uey λ x hx=>h x (i7 _ hx)
  rcases j0.mp hx with rfl | hx
  ·rw[e1,e2];simp;left
  ·have:=eN (xs:=r) (λ x hx=>h x (i7 _ hx)) ⟨x,hx,e1,e2⟩
   have:=h a i5
   cases e:p a <;> cases e':q a <;> simp_all <;> left
def cnt (n:Nat)(δ:Nat->Option Int)(D:List (Option Int)):Nat:=(c7 n).countP λ v=>decide (get D v=δ v)
def Done (n:Nat)(δ:Nat->Option Int)(D:List (Option Int))(k:Nat):Prop:=(∀ v,v<n->get D v=δ v)\/k+1<=cnt n δ D
theorem Done.round {n:Nat}{δ:Nat->Option Int}{D0 D:List (Option Int)}{B:(Nat × Nat × Int)->Prop}{k:Nat}(dd:∀ v,Dst A s v (δ v))(P:Pos A)(inn:∀ u v l,(u,v,l)∈A->u<n/\v<n)(s0:Snd A n s D0)(r:Rnd A n s δ D0 B D)(all:∀ a∈A,B a)(h:Done n δ D0 k):Done n δ D (k+1):=by
 by_cases c:∀ v,v<n->get D0 v=δ v
 ·exact .inl λ v hv=>r.keep v (c v hv)
 ·rcases h with h | h
  ·exact absurd h c
  ·have ⟨v,z⟩:=Classical.not_forall.mp c
   have ⟨hv,hne⟩:=Classical.not_imp.mp z
   obtain⟨v',hv',n0,n1⟩:=r.next dd P inn s0 all ((δ v).getD 0).toNat v hv hne λ d e=>by rw[e];exact h9 _
   refine .inr (ubv h (eN (λ x _ e=>?_) ⟨v',j4.mpr hv',ug8 n1,uha n0⟩))
   exact ug8 (r.keep x (ug9 e))
theorem Done.first {n:Nat}{δ:Nat->Option Int}{D:List (Option Int)}{v:Nat}(hv:v<n)(h:get D v=δ v):Done n δ D 0:=by
 refine .inr ?_
 exact List.countP_pos_iff.mpr ⟨v,j4.mpr hv,ug8 h⟩
theorem Done.all {n:Nat}{δ:Nat->Option Int}{D:List (Option Int)}(h:Done n δ D n):∀ v,v<n->get D v=δ v:=by
 rcases h with h | h
 ·exact h
 ·have:cnt n δ D<=n:=by
   have:=List.countP_le_length (p:=λ v=>decide (get D v=δ v)) (l:=c7 n)
   rw[l7] at this;exact this
  left
def PSt (c0:List (Option (Int × Int)))(B:(Nat × Nat × Int)->Prop)(cs:List (Option (Int × Int)))(ag:Bool):Prop :=
 (ag=false/\cs=c0/\∀ u v l c,B (u,v,l)->get c0 u=some c->∃ c',get c0 v=some c'/\c'.1<=c.1+l)\/(ag=true/\mu cs<mu c0)
section
variable {c0 cs:List (Option (Int × Int))}{B B':(Nat × Nat × Int)->Prop}{ag:Bool}{u v:Nat}{l w:Int}
end
theorem dN {α:Type}(n v:Nat):get (o6 n (none:Option α)) v=none:=by
 unfold get
 rw[g9,udq]
 split <;> rfl
theorem qZ {α:Type}:∀ n:Nat,ct (o6 n (none:Option α))=0
 | 0=>rfl
 | n+1=>qZ n
theorem Good.first {n:Nat}(hs:s<n):Good A n s ((o6 n none).set s (some (0,0))):=by
 have hl:s<(o6 n (none:Option (Int × Int))).length:=by rw[uai];exact hs
 have cases':∀ v c,get ((o6 n (none:Option (Int × Int))).set s (some (0,0))) v=some c->v=s/\c=(0,0):=λ v c e=>by
  rw[bF hl,dN] at e
  split at e
  ·rename_i z;cases e;exact⟨z,rfl⟩
  ·cases e
 refine⟨by rw[ubs,uai],λ v c e=>?_,λ v c e=>?_,λ v c e=>?_,⟨(0,0),?_,uav _⟩⟩
 ·obtain⟨rfl,rfl⟩:=cases' _ _ e;exact .nil
 ·obtain⟨rfl,rfl⟩:=cases' _ _ e;exact⟨uav _,by decide⟩
 ·obtain⟨rfl,rfl⟩:=cases' _ _ e
  rw[iI hl,qZ,dN];decide
 ·rw[bF hl,uhc rfl]
theorem Snd.first {n:Nat}(hs:s<n):Snd A n s ((o6 n none).set s (some 0)):=by
 have hl:s<(o6 n (none:Option Int)).length:=by rw[uai];exact hs
 refine⟨by rw[ubs,uai],λ v c e=>?_,⟨0,?_,uav _⟩⟩
 ·rw[bF hl,dN] at e
  split at e
  ·rename_i z;subst z;cases e;exact .nil
  ·cases e
 ·rw[bF hl,uhc rfl]
theorem Rnd.start {n:Nat}{δ:Nat->Option Int}{D:List (Option Int)}(h:Snd A n s D):Rnd A n s δ D (λ _=>False) D:=⟨h,λ _ e=>e,λ _ _ _ _ z=>z.elim⟩
theorem Rnd.less {n:Nat}{δ:Nat->Option Int}{D0 D:List (Option Int)}{B B':(Nat × Nat × Int)->Prop}(h:Rnd A n s δ D0 B D)(k:∀ a,B' a->B a):Rnd A n s δ D0 B' D:=⟨h.snd,h.keep,λ u v l x z=>h.arc u v l x (k _ z)⟩
theorem vS {n:Nat}{δ:Nat->Option Int}{D:List (Option Int)}(P:Pos A)(hs:s<n)(dd:∀ v,Dst A s v (δ v))(h:Snd A n s D):Done n δ D 0:=by
 obtain⟨x,hx,hx0⟩:=h.start
 obtain⟨y,hy,hyl⟩:=(dd s).2 0 .nil
 have:=((dd s).1 _ hy).nonneg P
 have:=(h.walk _ _ hx).nonneg P
 exact Done.first hs (by rw[hx,hy,show x=y by left])
end Far
namespace Far
variable {A:List (Nat × Nat × Int)}{s:Nat}
structure Ahd (A:List (Nat × Nat × Int))(s:Nat)(cs:List (Option (Int × Int)))(as:List (Option Nat)):Prop where
 len:as.length=cs.length
 root:get as s=none
 has:∀ v c,get cs v=some c->v≠s->get as v≠none
 arc:∀ v u,get as v=some u->∃ l cu cv,(u,v,l)∈A/\get cs u=some cu/\get cs v=some cv/\cu.1+l<=cv.1
inductive Tr (A:List (Nat × Nat × Int))(a:Nat):List Nat->Nat->Int->Prop
 | one:Tr A a [a] a 0
 | snoc {ws:List Nat} {u v:Nat} {x l:Int}:Tr A a ws u x->(u,v,l)∈A->Tr A a (ws++[v]) v (x+l)
def beyond (n:Nat)(cs:List (Option (Int × Int)))(d:Int):Nat:=(c7 n).countP λ v=>match get cs v with | none=>false | some c=>decide (d<=c.1)
theorem yP {n u:Nat}{cs:List (Option (Int × Int))}{cu:Int × Int}{d:Int}(hu:u<n)(e:get cs u=some cu)(h:cu.1<d):beyond n cs d<beyond n cs cu.1:=by
 refine eN (λ v _ hv=>?_) ⟨u,j4.mpr hu,?_,?_⟩
 ·cases e2:get cs v with
  | none=>rw[e2] at hv;cases hv
  | some c=>rw[e2] at hv;have:=ug9 hv;exact ug8 (by left)
 ·rw[e];exact ug8 (uav _)
 ·rw[e];exact uha (by left)
theorem nI (n:Nat)(cs:List (Option (Int × Int)))(d:Int):beyond n cs d<=n:=by
 have:=List.countP_le_length (p:=λ v=>match get cs v with | none=>false | some c=>decide (d<=c.1)) (l:=c7 n)
 rw[l7] at this;exact this
theorem wI {n u:Nat}{cs:List (Option (Int × Int))}{cu:Int × Int}(hu:u<n)(e:get cs u=some cu):1<=beyond n cs cu.1 :=
 List.countP_pos_iff.mpr ⟨u,j4.mpr hu,by rw[e];exact ug8 (uav _)⟩
end Far
namespace Far
def sumP:List Nat->Nat
 | []=>0
 | k::r=>2^k+sumP r
theorem gM {S S':List Nat}(h:S.Perm S'):sumP S=sumP S':=by
 induction h with
 | nil=>rfl
 | cons x _ ih=>show _+_=_+_;rw[ih]
 | swap x y l=>show 2^y+(2^x+sumP l)=2^x+(2^y+sumP l);left
 | trans _ _ h1 h2=>exact h1.trans h2
theorem uV (S:List Nat):∀ T:List Nat,sumP (S++T)=sumP S+sumP T:=by
 intro T
 induction S with
 | nil=>show sumP T=0+sumP T;left
 | cons k r ih=>show 2^k+sumP (r++T)=2^k+sumP r+sumP T;rw[ih];left
theorem hJ:∀ (m:Nat){S:List Nat},S.Nodup->(∀ k∈S,k<m)->sumP S<2^m
 | 0,S,_,h=>by
  cases S with
  | nil=>exact Nat.zero_lt_one
  | cons k r=>exact absurd (h k i5) (ucs _)
 | m+1,S,nd,h=>by
  have e:2^(m+1)=2^m+2^m:=by rw[Nat.pow_succ];left
  by_cases c:m∈S
  ·have p:=udf c
   have nd':(m::S.erase m).Nodup:=p.nodup_iff.mp nd
   have:=hJ m (S:=S.erase m) (ua2.mp nd').2 λ k hk=>by
    have h1:=h k (uev hk)
    have h2:k≠m:=λ z=>(ua2.mp nd').1 (z ▸ hk)
    left
   rw[gM p,e]
   show 2^m+sumP (S.erase m)<_
   left
  ·have:=hJ m nd λ k hk=>by
    have h1:=h k hk
    have h2:k≠m:=λ z=>c (z ▸ hk)
    left
   left
theorem jB:∀ (m:Nat){S S':List Nat},S.Nodup->S'.Nodup->(∀ k∈S,k<m)->(∀ k∈S',k<m)->sumP S=sumP S'->∀ k,k∈S->k∈S'
 | 0,S,S',_,_,h,_,_,k,hk=>absurd (h k hk) (ucs _)
 | m+1,S,S',nd,nd',h,h',e,k,hk=>by
  have lower:∀ {T:List Nat},T.Nodup->(∀ k∈T,k<m+1)->m∉T->sumP T<2^m:=λ {T} n1 n2 n3=>hJ m n1 λ j hj=>by
   have h1:=n2 j hj
   have h2:j≠m:=λ z=>n3 (z ▸ hj)
   left
  by_cases c:m∈S
  ·have p:=udf c
   have ndp:(m::S.erase m).Nodup:=p.nodup_iff.mp nd
   have e1:sumP S=2^m+sumP (S.erase m):=gM p
   by_cases c':m∈S'
   ·have p':=udf c'
    have ndp':(m::S'.erase m).Nodup:=p'.nodup_iff.mp nd'
    have e2:sumP S'=2^m+sumP (S'.erase m):=gM p'
    by_cases z:k=m
    ·rw[z];exact c'
    ·have lt:∀ {T:List Nat},(m::T.erase m).Nodup->(∀ k∈T,k<m+1)->∀ j∈T.erase m,j<m:=λ {T} n1 n2 j hj=>by
      have h1:=n2 j (uev hj)
      have h2:j≠m:=λ y=>(ua2.mp n1).1 (y ▸ hj)
      left
     have:=jB m (ua2.mp ndp).2 (ua2.mp ndp').2 (lt ndp h) (lt ndp' h') (by left) k ((ue3 z).mpr hk)
     exact uev this
   ·have:=lower nd' h' c'
    left
  ·by_cases c':m∈S'
   ·have e2:sumP S'=2^m+sumP (S'.erase m):=gM (udf c')
    have:=lower nd h c
    left
   ·have lt:∀ {T:List Nat},(∀ k∈T,k<m+1)->m∉T->∀ j∈T,j<m:=λ {T} n1 n2 j hj=>by
     have h1:=n1 j hj
     have h2:j≠m:=λ y=>n2 (y ▸ hj)
     left
    exact jB m nd nd' (lt h c) (lt h' c') e k hk
abbrev Arc:=Nat × Nat × Int × Nat
inductive Rt (B:List Arc)(a:Nat):List Nat->List Nat->Nat->Int->Int->Prop
 | one:Rt B a [a] [] a 0 0
 | snoc {ws S:List Nat} {u v:Nat} {x y l:Int} {k:Nat}:Rt B a ws S u x y->(u,v,l,k)∈B->v∉ws->Rt B a (ws++[v]) (S++[k]) v (x+l) (y+2^k)
structure Keys (B:List Arc):Prop where
 sym:∀ u v l k,(u,v,l,k)∈B->(v,u,l,k)∈B
 key:∀ u v l u' v' l' k,(u,v,l,k)∈B->(u',v',l',k)∈B->l'=l/\((u'=u/\v'=v)\/(u'=v/\v'=u))
 ne:∀ u v l k,(u,v,l,k)∈B->u≠v
 pos:∀ u v l k,(u,v,l,k)∈B->1<=l
 few:∀ u v l k,(u,v,l,k)∈B->k<60
variable {B:List Arc}{a b:Nat}{ws S:List Nat}{x y:Int}
theorem Rt.last (h:Rt B a ws S b x y):b∈ws:=by
 cases h with
 | one=>exact j5.mpr rfl
 | snoc _ _ _=>exact r8 _ (j5.mpr rfl)
theorem Rt.ends (K:Keys B)(h:Rt B a ws S b x y):∀ k∈S,∃ u v l,(u,v,l,k)∈B/\u∈ws/\v∈ws:=by
 induction h with
 | one=>intro k hk;cases hk
 | @snoc ws S u v x y l k r m nv ih =>
  intro j hj
  rcases o9.mp hj with hj | hj
  ·obtain⟨p,q,l',h1,h2,h3⟩:=ih j hj
   exact⟨p,q,l',h1,uag _ h2,uag _ h3⟩
  ·rw[j5.mp hj]
   exact⟨u,v,l,m,uag _ r.last,r8 _ (j5.mpr rfl)⟩
theorem Rt.fresh (K:Keys B)(h:Rt B a ws S b x y){u v:Nat}{l:Int}{k:Nat}(m:(u,v,l,k)∈B)(nv:v∉ws):k∉S:=λ hk=>by
 obtain⟨p,q,l',m',hp,hq⟩:=h.ends K k hk
 rcases (K.key _ _ _ _ _ _ _ m m').2 with ⟨e1,e2⟩ | ⟨e1,e2⟩
 ·exact nv (e2 ▸ hq)
 ·exact nv (e1 ▸ hp)
theorem Rt.nodup (K:Keys B)(h:Rt B a ws S b x y):S.Nodup:=by
 induction h with
 | one=>exact List.nodup_nil
 | @snoc ws S u v x y l k r m nv ih =>
  refine ucm.mpr ⟨ih,by simp,λ p hp q hq z=>?_⟩
  rw[j5.mp hq] at z
  exact r.fresh K m nv (z ▸ hp)
theorem Rt.small (K:Keys B)(h:Rt B a ws S b x y):∀ k∈S,k<60:=λ k hk=>let ⟨u,v,l,m,_⟩:=h.ends K k hk;K.few u v l k m
theorem Rt.sum (h:Rt B a ws S b x y):y=(sumP S:Nat):=by
 induction h with
 | one=>rfl
 | @snoc ws S u v x y l k r m nv ih =>
  rw[uV,ih]
  show ((sumP S:Nat):Int)+2^k=((sumP S+(2^k+0):Nat):Int)
  have:((2^k:Nat):Int)=(2:Int)^k:=by norm_cast
  left
theorem Rt.lt (K:Keys B)(h:Rt B a ws S b x y):0<=y/\y<2^60:=by
 have e:=h.sum
 have:=hJ 60 (h.nodup K) (h.small K)
 have e2:((2^60:Nat):Int)=(2:Int)^60:=by norm_cast
 left
theorem Rt.unique (K:Keys B)(h:Rt B a ws S b x y):∀ {ws' S':List Nat}{x':Int},Rt B a ws' S' b x' y->ws'=ws/\x'=x:=by
 induction h with
 | one =>
  intro ws' S' x' r
  generalize ey:(0:Int)=yy at r
  cases r with
  | one=>exact⟨rfl,rfl⟩
  | @snoc ws0 S0 u _ x0 y0 l k r m nv =>
   have p:=r.lt K
   have:(0:Int)<2^k:=Int.pow_pos (by decide)
   left
 | @snoc ws0 S0 u v x0 y0 l k r m nv ih =>
  intro ws' S' x' r'
  have full:Rt B a (ws0++[v]) (S0++[k]) v (x0+l) (y0+2^k):=.snoc r m nv
  have se:sumP S'=sumP (S0++[k]):=by
   have e1:=r'.sum
   have e2:=full.sum
   left
  have sub:=jB 60 (r'.nodup K) (full.nodup K) (r'.small K) (full.small K) se
  generalize ey:y0+2^k=yy at r'
  cases r' with
  | one =>
   have p:=r.lt K
   have:(0:Int)<2^k:=Int.pow_pos (by decide)
   left
  | @snoc ws1 S1 u1 _ x1 y1 l1 k1 r1 m1 nv1 =>
   have in1:=sub k1 (r8 _ (j5.mpr rfl))
   have k1k:k1=k:=by
    rcases o9.mp in1 with z | z
    ·exact absurd z (r.fresh K m1 nv)
    ·exact j5.mp z
   subst k1k
   obtain⟨el,eu⟩:=K.key _ _ _ _ _ _ _ m m1
   have uu:u1=u:=by
    rcases eu with ⟨e,_⟩ | ⟨e,e'⟩
    ·exact e
    ·exact absurd e' (K.ne _ _ _ _ m).symm
   subst uu
   have yy1:y1=y0:=by left
   subst yy1
   obtain⟨e1,e2⟩:=ih r1
   exact⟨by rw[e1],by rw[e2,el]⟩
theorem Rt.cons (K:Keys B){u:Nat}{l:Int}{k:Nat}(m:(u,a,l,k)∈B)(h:Rt B a ws S b x y):u∉ws->Rt B u (u::ws) (k::S) b (x+l) (y+2^k):=by
 induction h with
 | one =>
  intro nu
  have:Rt B u ([u]++[a]) ([]++[k]) a (0+l) (0+2^k):=.snoc .one m (λ z=>nu (by rw[j5] at z ⊢;exact z.symm))
  exact this
 | @snoc ws S w v x y l' k' r m' nv ih =>
  intro nu
  have r2:=ih λ z=>nu (uag _ z)
  have:Rt B u ((u::ws)++[v]) ((k::S)++[k']) v (x+l+l') (y+2^k+2^k'):=.snoc r2 m' λ z=>by
   rcases j0.mp z with z | z
   ·exact nu (r8 _ (j5.mpr z.symm))
   ·exact nv z
  rw[ufl x l l',ufl y] at this
  exact this
theorem Rt.back (K:Keys B)(h:Rt B a ws S b x y):Rt B b ws.reverse S.reverse a x y:=by
 induction h with
 | one=>exact .one
 | @snoc ws S u v x y l k r m nv ih =>
  rw[ud3,ud3]
  exact ih.cons K (K.sym _ _ _ _ m) (λ z=>nv (List.mem_reverse.mp z))
end Far
namespace Far
structure Best (B:List Arc)(n s:Nat)(cs:List (Option (Int × Int)))(as:List (Option Nat)):Prop where
 len:cs.length=n
 alen:as.length=n
 start:get cs s=some (0,0)
 root:get as s=none
 has:∀ v c,get cs v=some c->v≠s->get as v≠none
 nn:∀ v c,get cs v=some c->0<=c.1
 stab:∀ u v l k c,(u,v,l,k)∈B->get cs u=some c->∃ c',get cs v=some c'/\¬ lt2 (c.1+l,c.2+2^k) c'
 arc:∀ v u,get as v=some u->∃ l k cu,(u,v,l,k)∈B/\get cs u=some cu/\get cs v=some (cu.1+l,cu.2+2^k)
inductive TPw (as:List (Option Nat))(s:Nat):List Nat->Nat->Prop
 | root:TPw as s [s] s
 | step {ws:List Nat} {u v:Nat}:get as v=some u->TPw as s ws u->TPw as s (ws++[v]) v
section
variable {B:List Arc}{n s:Nat}{cs:List (Option (Int × Int))}{as:List (Option Nat)}
theorem Best.route (K:Keys B)(h:Best B n s cs as):∀ (m:Nat)(v:Nat)(c:Int × Int),get cs v=some c->c.1.toNat<=m->∃ ws S,Rt B s ws S v c.1 c.2/\TPw as s ws v/\∀ w∈ws,∃ cw,get cs w=some cw/\cw.1<=c.1:=by
 intro m
 induction m using ugk with
 | ind m ih =>
  intro v c e hm
  by_cases vs:v=s
  ·subst vs
   rw[h.start] at e;cases e
   exact⟨[v],[],.one,.root,λ w hw=>by rw[j5.mp hw];exact⟨_,h.start,uav _⟩⟩
  ·cases ea:get as v with
   | none=>exact absurd ea (h.has v c e vs)
   | some u =>
    obtain⟨l,k,cu,ma,eu,ev⟩:=h.arc v u ea
    rw[e] at ev;cases ev
    have l1:=K.pos _ _ _ _ ma
    have c0:=h.nn _ _ eu
    simp only at hm
    obtain⟨ws,S,r,tp,all⟩:=ih cu.1.toNat (by left) u cu eu (h9 _)
    have nv:v∉ws:=λ z=>by
     obtain⟨cw,e1,h1⟩:=all v z
     rw[e] at e1;cases e1
     simp only at h1;left
    refine⟨ws++[v],S++[k],.snoc r ma nv,.step ea tp,λ w hw=>?_⟩
    rcases o9.mp hw with hw | hw
    ·obtain⟨cw,e1,h1⟩:=all w hw
     exact⟨cw,e1,by show cw.1<=cu.1+l;left⟩
    ·rw[j5.mp hw]
     exact⟨_,e,uav _⟩
theorem Best.small (K:Keys B)(h:Best B n s cs as){v:Nat}{c:Int × Int}(e:get cs v=some c):0<=c.2/\c.2<2^60:=by
 obtain⟨ws,S,r,_⟩:=h.route K _ v c e (h9 _)
 exact r.lt K
theorem Best.least (h:Best B n s cs as){ws S:List Nat}{v:Nat}{x y:Int}(r:Rt B s ws S v x y):∃ c,get cs v=some c/\¬ lt2 (x,y) c:=by
 induction r with
 | one=>exact⟨_,h.start,λ z=>by unfold lt2 at z;simp only at z;left⟩
 | @snoc ws S u v x y l k r m nv ih =>
  obtain⟨c,e,hc⟩:=ih
  obtain⟨c',e',hc'⟩:=h.stab _ _ _ _ _ m e
  refine⟨c',e',λ z=>?_⟩
  unfold lt2 at *
  simp only at *
  left
end
def comb (c:Int × Int):Int:=c.1*2^61+c.2
def arcsC (B:List Arc):List (Nat × Nat × Int):=B.map λ b=>(b.1,b.2.1,b.2.2.1*2^61+2^b.2.2.2)
theorem arcsC_mem {B:List Arc}{u v:Nat}{L:Int}:(u,v,L)∈arcsC B↔∃ l k,(u,v,l,k)∈B/\L=l*2^61+2^k:=by
 unfold arcsC
 rw[y2]
 constructor
 ·rintro ⟨⟨a,b,l,k⟩,h,e⟩
  cases e
  exact⟨l,k,h,rfl⟩
 ·rintro ⟨l,k,h,rfl⟩
  exact⟨(u,v,l,k),h,rfl⟩
section
variable {B:List Arc}{n s:Nat}{cs:List (Option (Int × Int))}{as:List (Option Nat)}
theorem zav (k:Nat):(1:Int)<=2^k:=Int.pow_pos (by decide)
theorem nM (K:Keys B):Sym (arcsC B):=λ u v L h=>by
 obtain⟨l,k,m,rfl⟩:=arcsC_mem.mp h
 exact arcsC_mem.mpr ⟨l,k,K.sym _ _ _ _ m,rfl⟩
theorem Best.dst (K:Keys B)(h:Best B n s cs as)(v:Nat):Dst (arcsC B) s v ((get cs v).map comb):=by
 refine⟨λ y e=>?_,λ L w=>?_⟩
 ·cases ec:get cs v with
  | none=>rw[ec] at e;cases e
  | some c =>
   rw[ec] at e;cases e
   obtain⟨ws,S,r,_⟩:=h.route K _ v c ec (h9 _)
   have go:∀ {ws S:List Nat}{v:Nat}{x y:Int},Rt B s ws S v x y->Walk (arcsC B) s v (comb (x,y)):=by
    intro ws S v x y r
    induction r with
    | one=>exact .nil
    | @snoc ws S u v x y l k r m nv ih =>
     have:=Walk.snoc ih (arcsC_mem.mpr ⟨l,k,m,rfl⟩)
     have e:comb (x+l,y+2^k)=comb (x,y)+(l*2^61+2^k):=by unfold comb;simp only;left
     rw[e];exact this
   exact go r
 ·have:∃ c,get cs v=some c/\comb c<=L:=by
   induction w with
   | nil=>exact⟨_,h.start,by decide⟩
   | @snoc u v l x w m ih =>
    obtain⟨c,e,hc⟩:=ih
    obtain⟨l',k,m',rfl⟩:=arcsC_mem.mp m
    obtain⟨c',e',hc'⟩:=h.stab _ _ _ _ _ m' e
    refine⟨c',e',?_⟩
    have s1:=h.small K e
    have s2:=h.small K e'
    have:=zav k
    unfold comb at *
    unfold lt2 at hc'
    simp only at hc'
    left
  obtain⟨c,e,hc⟩:=this
  exact⟨comb c,by rw[e];rfl,hc⟩
theorem zam {c d:Int × Int}(hc:0<=c.2/\c.2<2^61)(hd:0<=d.2/\d.2<2^61)(e:comb c=comb d):c=d:=by
 unfold comb at e
 exact Prod.ext (by left) (by left)
end
end Far
namespace Far
def arcsF (B:List Arc):List (Nat × Nat × Int):=B.map λ b=>(b.1,b.2.1,b.2.2.1)
theorem arcsF_mem {B:List Arc}{u v:Nat}{l:Int}:(u,v,l)∈arcsF B↔∃ k,(u,v,l,k)∈B:=by
 unfold arcsF
 rw[y2]
 constructor
 ·rintro ⟨⟨a,b,l',k⟩,h,e⟩
  cases e
  exact⟨k,h⟩
 ·rintro ⟨k,h⟩
  exact⟨(u,v,l,k),h,rfl⟩
section
variable {B:List Arc}{n s:Nat}{cs:List (Option (Int × Int))}{as:List (Option Nat)}{a b:Nat}{ws S:List Nat}{x y:Int}
theorem wV {v:Nat}{ws ws':List Nat}(hr:get as s=none)(t:TPw as s ws v):TPw as s ws' v->ws'=ws:=by
 induction t generalizing ws' with
 | root =>
  intro t'
  cases t' with
  | root=>rfl
  | step e _=>rw[hr] at e;cases e
 | step e t ih =>
  intro t'
  cases t' with
  | root=>rw[hr] at e;cases e
  | step e' t'=>rw[e] at e';cases e';rw[ih t']
theorem Best.rt (K:Keys B)(h:Best B n s cs as){v:Nat}{c:Int × Int}(t:TPw as s ws v)(e:get cs v=some c):∃ S,Rt B s ws S v c.1 c.2:=by
 obtain⟨w1,S1,r1,p1,_⟩:=h.route K _ v c e (h9 _)
 rw[wV h.root p1 t]
 exact⟨S1,r1⟩
theorem Rt.walk (r:Rt B a ws S b x y):Walk (arcsF B) a b x:=by
 induction r with
 | one=>exact .nil
 | snoc r m nv ih=>exact .snoc ih (arcsF_mem.mpr ⟨_,m⟩)
theorem Rt.tr (r:Rt B a ws S b x y):Tr (arcsF B) a ws b x:=by
 induction r with
 | one=>exact .one
 | snoc r m nv ih=>exact .snoc ih (arcsF_mem.mpr ⟨_,m⟩)
theorem Best.dst1 (K:Keys B)(h:Best B n s cs as)(v:Nat):Dst (arcsF B) s v ((get cs v).map (·.1)):=by
 refine⟨λ y e=>?_,λ L w=>?_⟩
 ·cases ec:get cs v with
  | none=>rw[ec] at e;cases e
  | some c =>
   rw[ec] at e;cases e
   obtain⟨ws,S,r,_⟩:=h.route K _ v c ec (h9 _)
   exact r.walk
 ·have:∃ c,get cs v=some c/\c.1<=L:=by
   induction w with
   | nil=>exact⟨_,h.start,uav _⟩
   | @snoc u v l x w m ih =>
    obtain⟨c,e,hc⟩:=ih
    obtain⟨k,m'⟩:=arcsF_mem.mp m
    obtain⟨c',e',hc'⟩:=h.stab _ _ _ _ _ m' e
    refine⟨c',e',?_⟩
    unfold lt2 at hc'
    simp only at hc'
    left
  obtain⟨c,e,hc⟩:=this
  exact⟨c.1,by rw[e];rfl,hc⟩
theorem Rt.head (r:Rt B a ws S b x y):∃ q,ws=a::q:=by
 induction r with
 | one=>exact⟨[],rfl⟩
 | snoc r m nv ih=>obtain⟨q,rfl⟩:=ih;exact⟨q++[_],rfl⟩
theorem Rt.foot (r:Rt B a ws S b x y):∃ q,ws=q++[b]:=by
 cases r with
 | one=>exact⟨[],rfl⟩
 | snoc r m nv=>exact⟨_,rfl⟩
structure Uni (B:List Arc)(a b:Nat)(ws S:List Nat)(x y:Int):Prop where
 rt:Rt B a ws S b x y
 least:∀ ws' S' x' y',Rt B a ws' S' b x' y'->¬ lt2 (x',y') (x,y)
theorem Best.uni (K:Keys B)(h:Best B n s cs as){v:Nat}{c:Int × Int}(t:TPw as s ws.reverse v)(e:get cs v=some c):∃ S,Uni B v s ws S c.1 c.2:=by
 obtain⟨S,r⟩:=h.rt K t e
 have rb:=r.back K
 rw[List.reverse_reverse] at rb
 refine⟨_,rb,λ ws' S' x' y' r' z=>?_⟩
 obtain⟨c',e',n'⟩:=h.least (r'.back K)
 rw[e] at e';cases e'
 exact n' z
end
end Far
namespace Far
variable {A:List (Nat × Nat × Int)}{s:Nat}
def Con (A:List (Nat × Nat × Int))(s v:Nat):Prop:=∃ x,Walk A s v x
noncomputable def rB (A:List (Nat × Nat × Int))(s v:Nat):Bool:=@decide (Con A s v) (Classical.propDecidable _)
theorem rB_iff {v:Nat}:rB A s v=true↔Con A s v:=by unfold rB;exact @decide_eq_true_iff _ (Classical.propDecidable _)
theorem Dst.isSome {v:Nat}{o:Option Int}(h:Dst A s v o):o.isSome=rB A s v:=by
 cases o with
 | none =>
  have:¬ Con A s v:=λ ⟨x,w⟩=>by obtain⟨y,e,_⟩:=h.2 x w;cases e
  have:rB A s v=false:=ucq.mpr λ z=>this (rB_iff.mp z)
  rw[this];rfl
 | some x=>rw[rB_iff.mpr ⟨x,h.1 x rfl⟩];rfl
theorem Con.symm (S:Sym A){v:Nat}(h:Con A s v):Con A v s:=let ⟨x,w⟩:=h;⟨x,w.back S⟩
noncomputable def rN (A:List (Nat × Nat × Int))(n s:Nat):List Nat:=(c7 n).filter (rB A s)
noncomputable def isHd (A:List (Nat × Nat × Int))(n p:Nat):Bool:=decide ((rN A n p).head?=some p)
noncomputable def pcs (A:List (Nat × Nat × Int))(n:Nat):List (List Nat):=((c7 n).filter (isHd A n)).map (rN A n)
theorem zb3 {n v:Nat}:v∈rN A n s↔v<n/\Con A s v:=by
 unfold rN;rw[uac,j4,rB_iff]
end Far
namespace Far
section
variable {B:List Arc}{n s a b:Nat}{ws S:List Nat}{x y:Int}{cs:List (Option (Int × Int))}{as:List (Option Nat)}
theorem Rt.walkC (r:Rt B a ws S b x y):Walk (arcsC B) a b (comb (x,y)):=by
 induction r with
 | one=>exact .nil
 | @snoc ws S u v x y l k r m nv ih =>
  have:=Walk.snoc ih (arcsC_mem.mpr ⟨l,k,m,rfl⟩)
  have e:comb (x+l,y+2^k)=comb (x,y)+(l*2^61+2^k):=by unfold comb;simp only;left
  rw[e];exact this
def MinW (B:List Arc)(a b:Nat)(ws:List Nat):Prop:=∃ S x y,Rt B a ws S b x y/\∀ L,Walk (arcsC B) a b L->comb (x,y)<=L
theorem MinW.unique (K:Keys B){ws':List Nat}(h:MinW B a b ws)(h':MinW B a b ws'):ws'=ws:=by
 obtain⟨S,x,y,r,l⟩:=h
 obtain⟨S',x',y',r',l'⟩:=h'
 have e1:=l _ r'.walkC
 have e2:=l' _ r.walkC
 have b1:=r.lt K
 have b2:=r'.lt K
 have e:=zam (c:=(x,y)) (d:=(x',y')) ⟨b1.1,Int.lt_trans b1.2 (by decide)⟩ ⟨b2.1,Int.lt_trans b2.2 (by decide)⟩ (by left)
 injection e with ex ey
 subst ey
 exact (r.unique K r').1
theorem MinW.back (K:Keys B)(h:MinW B a b ws):MinW B b a ws.reverse:=by
 obtain⟨S,x,y,r,l⟩:=h
 exact⟨S.reverse,x,y,r.back K,λ L w=>l L (w.back (nM K))⟩
theorem Best.minw (K:Keys B)(h:Best B n s cs as){v:Nat}{c:Int × Int}(t:TPw as s ws.reverse v)(e:get cs v=some c):MinW B v s ws:=by
 obtain⟨S,r⟩:=h.rt K t e
 have rb:=r.back K
 rw[List.reverse_reverse] at rb
 refine⟨_,_,_,rb,λ L w=>?_⟩
 obtain⟨z,ez,le⟩:=(h.dst K v).2 L (w.back (nM K))
 rw[e] at ez
 cases ez
 exact le
end
def Shr (W1 W2:List Nat):Prop:=(∀ x∈W1,x∉W2)\/∃ p m q p2 q2,W1=p++m++q/\m≠[]/\(∀ x∈p,x∉W2)/\(∀ x∈q,x∉W2)/\(W2=p2++m++q2\/W2=p2++m.reverse++q2)
end Far
namespace Far
inductive W2 (B:List Arc)(s:Nat):Nat->Int->Int->Prop
 | nil:W2 B s s 0 0
 | snoc {u v:Nat} {x y l:Int} {k:Nat}:W2 B s u x y->(u,v,l,k)∈B->W2 B s v (x+l) (y+2^k)
end Far
namespace Far
def chn (R:Nat->Nat->Prop):List Nat->Prop
 | []=>True
 | [_]=>True
 | a::b::r=>R a b/\chn R (b::r)
section
variable {R:Nat->Nat->Prop}
theorem dL:∀ {l m:List Nat}{x y:Nat},chn R (l++[x])->R x y->chn R (y::m)->chn R (l++[x]++y::m)
 | [],m,x,y,_,r,h=>⟨r,h⟩
 | [a],m,x,y,h1,r,h=>⟨h1.1,dL (l:=[]) (x:=x) (y:=y) h1.2 r h⟩
 | a::b::l,m,x,y,h1,r,h=>⟨h1.1,dL (l:=b::l) (x:=x) (y:=y) h1.2 r h⟩
theorem eO:∀ {l m:List Nat}{x:Nat},chn R (l++x::m)->chn R (l++[x])/\chn R (x::m)
 | [],m,x,h=>⟨trivial,h⟩
 | [a],m,x,h=>⟨⟨h.1,trivial⟩,h.2⟩
 | a::b::l,m,x,h=>⟨⟨h.1,(eO (l:=b::l) (x:=x) h.2).1⟩,(eO (l:=b::l) (x:=x) h.2).2⟩
theorem fZ (sy:∀ u v,R u v->R v u):∀ {l:List Nat},chn R l->chn R l.reverse
 | [],_=>trivial
 | [_],_=>trivial
 | a::b::r,h=>by
  have ih:=fZ sy h.2
  rw[ub0] at ih
  rw[ub0,ub0]
  exact dL (l:=r.reverse) (m:=[]) ih (sy _ _ h.1) trivial
theorem gC:∀ {l:List Nat}{i u v:Nat},chn R l->l[i]?=some u->l[i+1]?=some v->R u v
 | [],i,u,v,_,e,_=>by cases e
 | [a],i,u,v,_,_,e=>by cases e
 | a::b::r,0,u,v,h,e1,e2=>by cases e1;cases e2;exact h.1
 | a::b::r,i+1,u,v,h,e1,e2=>gC (l:=b::r) h.2 e1 e2
def RingOf (ws:List Nat)(h:Nat)(tl:List Nat):Prop:=∃ p q,ws=p++h::q/\(tl=q++p\/tl=(q++p).reverse)
end
end Far
namespace Lr
open Far (chn dL eO fZ gC RingOf)
section
variable {R:Nat->Nat->Prop}
structure Rg (R:Nat->Nat->Prop)(h:Nat)(tl:List Nat):Prop where
 len:2<=tl.length
 nd:(h::tl).Nodup
 ch:chn R (h::tl++[h])
def Cano (h:Nat)(tl:List Nat):Prop:=(∀ v∈tl,h<v)/\∃ x m y,tl=x::(m++[y])/\x<y
def stepW (rows:Nat->List Nat)(w:List Nat):List (List Nat):=((rows (w.getLast?.getD 0)).filter λ o=>decide (w.headD 0<o)&&!decide (o∈w)).map λ o=>w++[o]
def ways (rows:Nat->List Nat)(n:Nat):Nat->List (List Nat)
 | 0=>(c7 n).map λ v=>[v]
 | s+1=>(ways rows n s).flatMap (stepW rows)
structure PW (R:Nat->Nat->Prop)(n:Nat)(w:List Nat):Prop where
 ne:w≠[]
 nd:w.Nodup
 ch:chn R w
 lt:∀ v∈w,v<n
 up:∀ h t,w=h::t->∀ v∈t,h<v
section
variable {rows:Nat->List Nat}{n:Nat}
end
end
end Lr
namespace Lr
open Far (chn dL eO fZ gC RingOf)
def lle:List Nat->List Nat->Prop
 | [],_=>True
 | _::_,[]=>False
 | a::l,b::m=>a<b\/(a=b/\lle l m)
section
variable {R:Nat->Nat->Prop}
structure Sh (R:Nat->Nat->Prop)(z v:Nat)(l:List Nat):Prop where
 ch:chn R (v::l)
 last:(v::l).getLast?=some z
 min:∀ l',chn R (v::l')->(v::l').getLast?=some z->l.length<=l'.length
def Ds (R:Nat->Nat->Prop)(z:Nat)(D:Nat->Option Nat):Prop:=∀ v,(∀ m,D v=some m->∃ l,chn R (v::l)/\(v::l).getLast?=some z/\l.length=m)/\∀ l,chn R (v::l)->(v::l).getLast?=some z->∃ m,D v=some m/\m<=l.length
def Rm (R:Nat->Nat->Prop)(a b u v:Nat):Prop:=R u v/\¬ (u=a/\v=b)/\¬ (u=b/\v=a)
end
end Lr
namespace Lr
open Far (chn dL eO fZ gC RingOf)
structure Ties (R:Nat->Nat->Prop)(ks:List Nat)(ends:Nat->Nat × Nat):Prop where
 sy:∀ u v,R u v->R v u
 of:∀ k∈ks,(ends k).1<(ends k).2/\R (ends k).1 (ends k).2
 to:∀ u v,R u v->u<v->∃ k∈ks,ends k=(u,v)
 up:∀ k∈ks,∀ j∈ks,k<=j->(ends k).1<(ends j).1\/((ends k).1=(ends j).1/\(ends k).2<=(ends j).2)
section
variable {R:Nat->Nat->Prop}{ks:List Nat}{ends:Nat->Nat × Nat}
end
section
variable {R:Nat->Nat->Prop}{rows:Nat->List Nat}{n:Nat}
end
end Lr
namespace HT
open PySem PyProof.Rows
section
open PySem.SeqAt
open PySem.AutoSeq1 (wpAny_loadPart')
open PySem.MeetsSeq PySem.MeetsSeq2 PySem.MeetsSeq3
end
section
variable {prog:m5}{w:ual}{A:uaf}{E:d6->d7->Prop}{s:d7}
end
end HT
namespace L3
open PySem PySem.Spec PyProof.Rows L2
section
variable {X:Cx}
end
def wide:Nat->ubr->Prop
 | 0,_=>True
 | k+1,.tuple ds=>ds.length<=1000/\∀ d∈ds,wide k d
 | k+1,.list ds=>ds.length<=1000/\∀ d∈ds,wide k d
 | _+1,_=>True
def endsD:ubr->Int × Int
 | .tuple [.int a,.int b,.int _]=>(a,b)
 | _=>(0,0)
def tiesB (n:Int):ubr->Bool
 | .tuple ds=>decide (ds.length<=60)&&ds.all (tieB n)&&risingB (ds.map endsD)
 | _=>false
def Gd (H:Hp):Nat->V->Prop
 | 0,v=>flatD v=true
 | k+1,v=>flatD v=true\/(∃ p vs,v=.ref p/\(H p=some (.tup vs)\/H p=some (.lst vs))/\vs.length<=1000/\∀ u∈vs,Gd H k u)\/(∃ p,v=.ref p/\H p=some (.dK []))
def lt2 (e f:Int × Int):Prop:=e.1<f.1\/(e.1=f.1/\e.2<f.2)
theorem nY (e f:Int × Int):HT.lexLt (e2 e) (e2 f)=true↔lt2 e f:=by
 show (if e.1=f.1 then (if e.2=f.2 then false else decide (e.2<f.2)) else decide (e.1<f.1))=true↔_
 unfold lt2
 by_cases h:e.1=f.1
 ·rw[uhc h]
  by_cases h2:e.2=f.2
  ·rw[uhc h2];simp;left
  ·rw[uhd h2,decide_eq_true_eq];left
 ·rw[uhd h,decide_eq_true_eq];left
structure PreT (n:Int)(ds:List ubr)(i:Nat)(a:Int × Int):Prop where
 tie:∀ d∈ds.take i,tieB n d=true
 up:((ds.take i).map endsD).Pairwise lt2
 top:∀ x∈(ds.take i).map endsD,x=a\/lt2 x a
 at_:a=(-1,-1)\/a∈(ds.take i).map endsD
section
variable {X:Cx}{es:List ucg}{t:TA}{pos:Pos}
def tTupG (t:TA):TE:=λ σ H Q=>t σ H λ xs H1=>xs.length<=1000/\∀ p H',Same H1 H'->H1 p=none->H' p=some (.tup xs)->Q (.ref p) H'
def tLstG (t:TA):TE:=λ σ H Q=>t σ H λ xs H1=>xs.length<=1000/\∀ p H',Same H1 H'->H1 p=none->H' p=some (.lst xs)->Q (.ref p) H'
theorem bN {x1} (h:PA X es t):PE X (.Tuple es x1 pos) (tTupG t):=by
 intro pins s σ H Q I hq
 refine wpAny_Tuple_spliced (thn (h pos pins s σ H _ I hq) λ us s1 ⟨xs,J,I1,r,z,q⟩=>?_)
 have z':xs.length<=v5:=uas z (by decide)
 have fr:J s1.heap.objs.size=none:=I1.hok.fresh (h9 _)
 refine⟨by rw[← r.length];exact z',.ref s1.heap.objs.size,upd J s1.heap.objs.size (.tup xs),I1.laid (t':=s1.toks) (λ b u e=>b9 _ e) (h9 _) ⟨z',us,r,⟨_,i6 _ rfl,rfl,⟨_,rfl⟩,rfl⟩⟩,rfl,q _ _ (aQ fr) fr aH⟩
theorem bJ (h:PA X es t):PE X (.List es pos) (tLstG t):=by
 intro pins s σ H Q I hq
 refine wpAny_List_spliced (thn (h pos pins s σ H _ I hq) λ us s1 ⟨xs,J,I1,r,z,q⟩=>?_)
 have z':xs.length<=v5:=uas z (by decide)
 have fr:J s1.heap.objs.size=none:=I1.hok.fresh (h9 _)
 refine⟨by rw[← r.length];exact z',.ref s1.heap.objs.size,upd J s1.heap.objs.size (.lst xs),I1.laid (t':=s1.toks) (λ b u e=>b9 _ e) (h9 _) ⟨z',us,0,r,i6 _ rfl⟩,rfl,q _ _ (aQ fr) fr aH⟩
inductive rExtendG_i  (x:V) (vs:List V) (H:Hp) (Q:VK):Prop
 | mk:∀ l b xs zs,(x=.ref l)->(vs=[.ref b])->(H l=some (.lst xs))->(H b=some (.lst zs))->(xs.length+zs.length<=1000)->(∀ H',But l H H'->H' l=some (.lst (xs++zs))->Q .non H')->rExtendG_i x vs H Q
def rExtendG :V->List V->Hp->VK->Prop:=λ x vs H Q=>rExtendG_i x vs H Q
theorem vW:MtM X "list.extend" rExtendG:=by
 intro pins s σ H x vs v us Q I rx rv h
 obtain⟨l,b,xs,zs,rfl,rfl,hH,hB,hz,q⟩:=h
 exact mR (X:=X) pins s σ H _ _ v us Q I rx rv ⟨l,b,xs,zs,rfl,rfl,hH,hB,uas hz (by decide),q _ But.upd aH⟩
inductive rAppendG_i  (x:V) (vs:List V) (H:Hp) (Q:VK):Prop
 | mk:∀ l xs y,(x=.ref l)->(vs=[y])->(H l=some (.lst xs))->(xs.length<1000)->(∀ H',But l H H'->H' l=some (.lst (xs++[y]))->Q .non H')->rAppendG_i x vs H Q
def rAppendG :V->List V->Hp->VK->Prop:=λ x vs H Q=>rAppendG_i x vs H Q
theorem cJ:MtM X "list.append" rAppendG:=by
 intro pins s σ H x vs v us Q I rx rv h
 obtain⟨l,xs,y,rfl,rfl,hH,hz,q⟩:=h
 exact gN (X:=X) pins s σ H _ _ v us Q I rx rv ⟨l,xs,y,rfl,rfl,hH,m7 hz (by decide),q _ But.upd aH⟩
inductive call_listG_i  (xs:List V) (H:Hp) (Q:VK):Prop
 | mk:∀ p ys,(xs=[.ref p])->((H p=some (.lst ys)\/H p=some (.tup ys)))->(∀ l H',Same H H'->H l=none->H' l=some (.lst ys)->Q (.ref l) H')->call_listG_i xs H Q
theorem wH:CallR X (.type "list") (call_listG_i):=by
 intro pins s σ H xs us Q I r h
 obtain⟨p,ys,rfl,hp,q⟩:=h
 exact uJ (X:=X) pins s σ H _ us Q I r ⟨p,ys,rfl,hp.elim (λ e=>.inl (SqL.of e)) (λ e=>.inr (SqT.of e)),λ l hl=>q l _ (aQ hl) hl aH⟩
end
def Sm (H:Hp)(t:j9):Prop:=∃ vs:List V,(H t=some (.tup vs)\/H t=some (.lst vs))/\vs.length<=1000/\vs.all flatD=true
def GdF (H:Hp)(xs:List V):Prop:=∀ u∈xs,∃ t,u=.ref t/\Sm H t
def GdL (l:j9)(H:Hp)(xs:List V):Prop:=∀ u∈xs,∃ t,u=.ref t/\t≠l/\Sm H t
theorem GdL.append {l:j9}{H:Hp}{xs ys:List V}(h:GdL l H xs)(k:GdL l H ys):GdL l H (xs++ys):=λ u hu=>(o9.mp hu).elim (h u) (k u)
theorem zbs {prog:m5}{w:ual}{A:uaf}{E:d6->d7->Prop}{s:d7}{l b:j9}{vs ws:List d6}{Q:d6->d7->Prop}(hl:s.heap.IsList l vs.toArray)(hb:s.heap.IsList b ws.toArray)
  (h:Q (.ref s.heap.objs.size) { s with heap:=s.heap.push { cls:=.type "list",data:=.seq (vs++ws).toArray } }) (hz:vs.length+ws.length<=v5):j8 (v6 prog w) A (binaryOp .Add (.ref l) (.ref b)) Q E s:=by
 obtain⟨⟨c1,d1,t1,s1⟩,g1,h1,n1,e1⟩:=id hl
 obtain⟨⟨c2,d2,t2,s2⟩,g2,h2,n2,e2⟩:=id hb
 simp only at h1 e1 h2 e2
 subst h1 e1 h2 e2
 have e:vs.toArray++ws.toArray=(vs++ws).toArray:=by simp
 refine concat_meets ⟨_,g1,rfl⟩ ⟨_,g2,rfl⟩ noFill_list_add seq_list_add PySem.F.slot_list_add PySem.F.entry_list_add (PySem.F.args_list_add_2 _ _) (list_addW l b vs.toArray ws.toArray n1 n2 d1 d2 s1 s2 (by rw[i8,i8];exact hz)) ⟨g1,g2,?_⟩
 rw[e]
 exact h
inductive rCatL_i  (x:V) (y:V) (H:Hp) (Q:VK):Prop
 | mk:∀ a b xs ys,(x=.ref a)->(y=.ref b)->(H a=some (.lst xs))->(H b=some (.lst ys))->(xs.length+ys.length<=1000)->(∀ p H',Same H H'->H p=none->H' p=some (.lst (xs++ys))->Q (.ref p) H')->rCatL_i x y H Q
def rCatL :R2:=λ x y H Q=>rCatL_i x y H Q
theorem fD {X:Cx}:OpR X (binaryOp .Add) rCatL:=by
 intro pins s σ H x y v u Q I rx ry h
 obtain⟨a,b,xs,ys,rfl,rfl,ha,hb,hz,q⟩:=h
 cases rx
 cases ry
 obtain⟨its,r1,p1,_⟩:=I.list (SqL.of ha)
 obtain⟨jts,r2,p2,_⟩:=I.list (SqL.of hb)
 have hz':xs.length+ys.length<=v5:=uas hz (by decide)
 have fr:H s.heap.objs.size=none:=I.hok.fresh (h9 _)
 refine zbs p1.isList p2.isList ⟨.ref s.heap.objs.size,_,I.laid (t':=s.toks) (o:=.lst (xs++ys)) (λ b ob q=>b9 _ q) (h9 _) ⟨by rw[i9];exact hz',_,0,r1.append r2,i6 _ rfl⟩,rfl,q _ _ (aQ fr) fr aH⟩ (by rw[← r1.length,← r2.length];exact hz')
section
variable {g:TG}{te:TE}{own:List Str}{js:List Nat}{σ:L2.St}{H1:Hp}{Q:VK}
theorem wE {lo:Int}{n:Nat}(Sg:L2.St->Prop)(R:Nat->V->Hp->Prop)(hn:n<=1000)(h0:Sg (start3 own js σ))(mono:∀ i v H H',TupKeep H H'->R i v H->R i v H')
  (step:∀ i σ' H',i<n->Same H1 H'->Sg σ'->∀ C:L2.St->V->Hp->Prop,(∀ σ3 v H5,Sg σ3->Same H' H5->R i v H5->C σ3 v H5)->g (.int (lo+i)) σ' H' λ σ3 H3=>te σ3 H3 λ v H5=>C σ3 v H5)
  (fin:∀ D ys H',H1 D=none->Same H1 H'->H' D=some (.lst ys)->ys.length=n->(∀ i v,ys[i]?=some v->R i v H')->Q (.ref D) H'):CompGo own js g tTrue te σ Q (Itr lo n) H1:=by
 refine gX n Sg R hn h0 mono (λ i H' hi s=>hi) (λ H' s=>h9 _) (λ i x σ' H' H2 hi s hy sg C hC=>?_) fin
 obtain⟨rfl,rfl⟩:=hy
 exact step i σ' _ hi s sg C hC
end
inductive call_tupleG_i  (xs:List V) (H:Hp) (Q:VK):Prop
 | mk:∀ p ys,(xs=[.ref p])->(H p=some (.lst ys))->(∀ l H',Same H H'->H l=none->H' l=some (.tup ys)->Q (.ref l) H')->call_tupleG_i xs H Q
theorem cI {X:Cx}:CallR X (.type "tuple") (call_tupleG_i):=by
 intro pins s σ H xs us Q I r h
 obtain⟨p,ys,rfl,hp,q⟩:=h
 exact gG (X:=X) pins s σ H _ us Q I r ⟨p,ys,rfl,.inl ⟨SqL.of hp,λ l hl=>q l _ (aQ hl) hl aH⟩⟩
inductive call_sortedTG_i  (xs:List V) (H:Hp) (Q:VK):Prop
 | mk:∀ p ys ks,(xs=[.ref p])->(H p=some (.lst ys))->(ys.length<64)->(Paired (λ (y:V) (k:List Int)=>∃ a,y=.ref a/\H a=some (.tup (k.map V.int))) ys ks)->((∀ k∈ks,k≠[]))->(∀ qs:List (V × List Int),qs.Perm (ys.zip ks)->qs.Pairwise (λ a b=>Srt.lexI b.2 a.2=false)->∀ l H',Same H H'->H l=none->H' l=some (.lst (qs.map (·.1)))->Q (.ref l) H')->call_sortedTG_i xs H Q
theorem tR {X:Cx}:CallR X (.builtin "sorted") (call_sortedTG_i):=by
 intro pins s σ H xs us Q I r h
 obtain⟨p,ys,ks,rfl,hp,h64,pr,ne,q⟩:=h
 exact kZ (X:=X) pins s σ H _ us Q I r ⟨p,ys,ks,rfl,SqL.of hp,h64,Paired.mapP pr λ y k ⟨a,e1,e2⟩=>⟨a,e1,SqT.of e2⟩,ne,λ qs pq wq l hl=>q qs pq wq l _ (aQ hl) hl aH⟩
def Row3 (H:Hp)(v:V):Prop:=∃ (t:j9)(x y z:Int),v=.ref t/\H t=some (.tup [.int x,.int y,.int z])
theorem rows3 {H:Hp}:∀ {ys:List V},(∀ v∈ys,Row3 H v)->∃ ks:List (List Int),Paired (λ (y:V) (k:List Int)=>∃ a,y=.ref a/\H a=some (.tup (k.map V.int))) ys ks/\∀ k∈ks,k≠[]
 | [],_=>⟨[],.nil,λ k h=>by cases h⟩
 | v::r,h=>by
  obtain⟨ks,p,n⟩:=rows3 (ys:=r) λ u hu=>h u (i7 _ hu)
  obtain⟨t,x,y,z,e,ht⟩:=h v i5
  refine⟨[x,y,z]::ks,.cons ⟨t,e,ht⟩ p,λ k hk=>?_⟩
  rcases j0.mp hk with rfl | hk
  ·exact λ z=>by cases z
  ·exact n k hk
structure BE (X:Cx)(e:ucg)(t:TE):Prop where
 h:PE X e t
structure BA (X:Cx)(es:List ucg)(t:TA):Prop where
 h:PA X es t
structure BS (X:Cx)(st:ude)(t:TS):Prop where
 h:PS X st t
structure BSs (X:Cx)(ss:List ude)(t:TS):Prop where
 h:PSs X ss t
section
variable {X:Cx}
theorem oU {st:ude}{rest:List ude}{t u:TS}(a:BS X st t)(b:BSs X rest u):BSs X (st::rest) (tSeq t u):=⟨aD a.h b.h⟩
theorem zbt {st:ude}{t:TS}(a:BS X st t):BSs X [st] t:=⟨aG a.h⟩
theorem zcs {pos:Pos}{i:Nat}{x:Str}{e:ucg}{te:TE}{pos':Pos}(hN:X.N.Nodup)(hi:X.N[i]?=some x)(hx:L2.Loc X.env.scope x)(he:BE X e te)(hs:swapsWith e (some (.Name x pos')) pos.line X.env=pure false:=by rfl)
  (hf:X.fn x=true\/X.env.scope.names.lookup x=some .local:=by first | exact .inl rfl | exact .inr rfl | assumption):BS X (.Assign [.Name x pos'] e pos) (tAsg te (gName i)):=⟨aN hN hi hx he.h hs hf⟩
theorem zbv {es:List ucg}{t:TA}{pos:Pos}(a:BA X es t):BE X (.List es pos) (tLstG t):=⟨bJ a.h⟩
theorem fF {es:List ucg}{t:TA}{pos:Pos}{x1:Nat}(a:BA X es t):BE X (.Tuple es x1 pos) (tTupG t):=⟨bN a.h⟩
theorem dW:BA X [] tNil:=⟨aB⟩
end
def tieAt (ts:List Tie)(k:Nat):Tie:=ts.getD k (0,0,0)
def arcs2 (t:Tie):List (Nat × Nat × Int):=[(t.1.toNat,t.2.1.toNat,t.2.2),(t.2.1.toNat,t.1.toNat,t.2.2)]
def arcs (ts:List Tie)(ks:List Nat):List (Nat × Nat × Int):=ks.flatMap λ k=>arcs2 (tieAt ts k)
theorem arcs_mem {ts:List Tie}{ks:List Nat}{a:Nat × Nat × Int}:a∈arcs ts ks↔∃ k,k∈ks/\a∈arcs2 (tieAt ts k):=by
 unfold arcs;rw[ufy]
theorem arcs2_mem {t:Tie}{a:Nat × Nat × Int}:a∈arcs2 t↔a=(t.1.toNat,t.2.1.toNat,t.2.2)\/a=(t.2.1.toNat,t.1.toNat,t.2.2):=by
 unfold arcs2;simp
theorem bI {ts:List Tie}{k:Nat}(h:k<ts.length):ts[k]?=some (tieAt ts k)/\tieAt ts k∈ts:=by
 have e:ts[k]?=some (tieAt ts k):=by unfold tieAt;rw[g9,d8 h];rfl
 exact⟨e,u6 e⟩
theorem oK {s t:Tie}(h:endLt s t)(e1:s.1=t.1)(e2:s.2.1=t.2.1):False:=by
 rcases h with h | h
 ·exact Int.lt_irrefl _ (e1 ▸ h)
 ·exact Int.lt_irrefl _ (e2 ▸ h.2)
theorem zG {n:Int}{ts:List Tie}(ok:WebOk n ts){k k':Nat}(hk:k<ts.length)(hk':k'<ts.length)(e1:(tieAt ts k).1=(tieAt ts k').1)(e2:(tieAt ts k).2.1=(tieAt ts k').2.1):k=k':=by
 have pw:∀ i j (hi:i<ts.length) (hj:j<ts.length),i<j->endLt (tieAt ts i) (tieAt ts j):=λ i j hi hj z=>by
  have q:=ucj.mp ok.rise i j hi hj z
  have g:∀ {i:Nat}(hi:i<ts.length),ts[i]=tieAt ts i:=λ {i} hi=>u7 ((d8 hi).symm.trans (bI hi).1)
  rwa [g hi,g hj] at q
 rcases uel k k' with z | z | z
 ·exact (oK (pw k k' hk hk' z) e1 e2).elim
 ·exact z
 ·exact (oK (pw k' k hk' hk z) e1.symm e2.symm).elim
section
variable {n:Int}{ts:List Tie}{ks:List Nat}
theorem oW (ok:WebOk n ts)(ko:KeepOk ts.length ks):Far.Pos (arcs ts ks):=λ u v l h=>by
 obtain⟨k,hk,h⟩:=arcs_mem.mp h
 have:=ok.tie _ (bI (ko.2 k hk)).2
 rcases arcs2_mem.mp h with h | h <;> cases h <;> left
theorem qK (ok:WebOk n ts)(ko:KeepOk ts.length ks):∀ u v l,(u,v,l)∈arcs ts ks->u<n.toNat/\v<n.toNat:=λ u v l h=>by
 obtain⟨k,hk,h⟩:=arcs_mem.mp h
 have:=ok.tie _ (bI (ko.2 k hk)).2
 rcases arcs2_mem.mp h with h | h <;> cases h <;> left
theorem yS {i k:Nat}(h:ks[i]?=some k){a:Nat × Nat × Int}(m:a∈arcs ts (ks.take (i+1))):a∈arcs ts (ks.take i)\/a∈arcs2 (tieAt ts k):=by
 obtain⟨j,hj,m⟩:=arcs_mem.mp m
 rw[eI h] at hj
 rcases o9.mp hj with hj | hj
 ·exact .inl (arcs_mem.mpr ⟨j,hj,m⟩)
 ·rw[j5.mp hj] at m;exact .inr m
end
def CV (H:Hp)(v:V):Option (Int × Int)->Prop
 | none=>v=.non
 | some e=>∃ t,v=.ref t/\H t=some (.tup [.int e.1,.int e.2])
theorem CV.keep {H H':Hp}(k:TupKeep H H'){v:V}:∀ {o:Option (Int × Int)},CV H v o->CV H' v o
 | none,h=>h
 | some e,⟨t,h1,h2⟩=>⟨t,h1,k _ _ h2⟩
def CostL (H:Hp)(vs:List V)(cs:List (Option (Int × Int))):Prop:=vs.length=cs.length/\∀ i v,vs[i]?=some v->CV H v (Far.get cs i)
section
variable {H H' J J':Hp}{vs cvs avs ws:List V}{cs:List (Option (Int × Int))}{lw lc la t:j9}{n k:Nat}{x y:Int}
theorem CostL.keep (h:CostL H vs cs)(k:TupKeep H H'):CostL H' vs cs:=⟨h.1,λ i v e=>(h.2 i v e).keep k⟩
theorem CostL.set {v:V}{c:Int × Int}(h:CostL H vs cs)(hk:k<vs.length)(hv:CV H v (some c)):CostL H (vs.set k v) (cs.set k (some c)):=by
 refine⟨by rw[ubs,ubs];exact h.1,λ i u e=>?_⟩
 rw[Far.bF (by rw[← h.1];exact hk)]
 rw[List.getElem?_set] at e
 by_cases z:k=i
 ·subst z;rw[uhc rfl,uhc hk] at e;cases e;rw[uhc rfl];exact hv
 ·rw[uhd z] at e;rw[uhd (Ne.symm z)];exact h.2 i u e
theorem CostL.first (n:Nat):CostL H (o6 n .non) (o6 n none):=by
 refine⟨by rw[uai,uai],λ i v e=>?_⟩
 rw[Far.dN]
 rw[udq] at e
 split at e
 ·cases e;rfl
 ·cases e
theorem gB {p:j9}{xs:List V}{o:HO}(h:J p=some (.lst xs)):TupKeep J (upd J p o):=λ a ys e=>by
 rw[aM (λ z=>by rw[z,h] at e;cases e)];exact e
theorem pH (s:Same J J'):TupKeep J J':=λ a xs e=>s _ _ e
structure RH (H J:Hp)(lw lc la:j9)(ws:List V)(n:Nat)(cs:List (Option (Int × Int))):Prop where
 same:Same H J
 fc:H lc=none
 fa:H la=none
 nwc:lw≠lc
 nwa:lw≠la
 nca:lc≠la
 wl:J lw=some (.lst ws)
 co:∃ cvs,J lc=some (.lst cvs)/\CostL J cvs cs
 ah:∃ avs,J la=some (.lst avs)/\avs.length=n
end
theorem pO {α:Type}(x:α):∀ k:Nat,(o6 k [x]).flatten=o6 k x
 | 0=>rfl
 | k+1=>by rw[ucw,udv,pO x k];rfl
def ov:Option Int->V
 | none=>.non
 | some x=>.int x
theorem dG {D:List (Option Int)}{i:Nat}(h:i<D.length):(D.map ov)[i]?=some (ov (Far.get D i)):=by
 rw[k0,d8 h]
 unfold Far.get
 rw[g9,d8 h];rfl
theorem aZ {α:Type}{xs:List α}{i:Int}{x:α}(h0:0<=i)(h:xs[i.toNat]?=some x):atI xs i=some x:=by
 have hl:=(m9.mp h).1
 unfold atI ixN
 rw[uhc h0,uhc (by left)]
 exact h
theorem dA {n:Nat}{i:Int}(h0:0<=i)(h:i<n):ixN n i=some i.toNat:=by
 unfold ixN;rw[uhc h0,uhc h]
inductive rRep1_i  (x:V) (y:V) (H:Hp) (Q:VK):Prop
 | mk:∀ l k z,(x=.ref l)->(y=.int k)->(H l=some (.lst [z]))->(0<=k)->(k<=1000)->(∀ p H',Same H H'->H p=none->H' p=some (.lst (o6 k.toNat z))->Q (.ref p) H')->rRep1_i x y H Q
def rRep1 :R2:=λ x y H Q=>rRep1_i x y H Q
theorem jR {X:Cx}:OpR X (binaryOp .Mult) rRep1:=by
 intro pins s σ H x y v u Q I rx ry h
 obtain⟨l,k,z,rfl,rfl,hH,h1,h2,q⟩:=h
 refine zcc (X:=X) pins s σ H _ _ v u Q I rx ry ⟨l,k,_,rfl,rfl,hH,by left,by left,?_,λ p hp=>q p _ (aQ hp) hp (by rw[aH,pO])⟩
 exact uas (by show 1*k.toNat<=1000;left) (by decide:1000<=v5)
theorem bV {K:c6}{H:Hp}:∀ {ts:List Tie}{ws:List V}{k:Nat},IsAll K H (ts.map tieD) ws->k<ts.length->∃ a,ws[k]?=some (.ref a)/\H a=some (.tup [.int (tieAt ts k).1,.int (tieAt ts k).2.1,.int (tieAt ts k).2.2])
 | t::r,ws,0,h,_=>by
  obtain⟨v,vs,rfl,h1,_⟩:=h
  obtain⟨a,xs,rfl,ha,hx⟩:=h1
  have e:xs=(tieI t).map V.int:=IsAll.of_ints (ns:=tieI t) hx
  subst e
  exact⟨a,rfl,ha⟩
 | t::r,ws,k+1,h,hk=>by
  obtain⟨v,vs,rfl,_,h2⟩:=h
  obtain⟨a,e,ha⟩:=bV (ts:=r) (ws:=vs) (k:=k) h2 (by simpa using hk)
  exact⟨a,e,ha⟩
theorem iS {K:c6}{H:Hp}{ks:List Nat}{v:V}(h:Is K H (keepD ks) v):∃ p,v=.ref p/\H p=some (.tup ((keepI ks).map V.int)):=by
 obtain⟨p,vs,rfl,hp,hx⟩:=h
 have e:=IsAll.of_ints hx
 subst e
 exact⟨p,rfl,hp⟩
theorem hX {ks:List Nat}{i:Nat}{x:V}(h:((keepI ks).map V.int)[i]?=some x):∃ k,ks[i]?=some k/\x=.int (k:Int):=by
 unfold keepI at h
 rw[ubo,k0] at h
 cases e:ks[i]? with
 | none=>rw[e] at h;cases h
 | some k=>rw[e] at h;cases h;exact⟨k,rfl,rfl⟩
theorem qF {H:Hp}{vs:List V}{cs:List (Option (Int × Int))}{i:Int}(h:CostL H vs cs)(h0:0<=i)(hi:i.toNat<cs.length):∃ v,atI vs i=some v/\CV H v (Far.get cs i.toNat):=by
 have hl:i.toNat<vs.length:=by rw[h.1];exact hi
 have e:vs[i.toNat]?=some vs[i.toNat]:=d8 hl
 exact⟨_,aZ h0 e,h.2 _ _ e⟩
def pows (m:Nat):List V:=(c7 m).map λ i=>V.int (2^i)
theorem za9 {m i:Nat}(h:i<m):(pows m)[i]?=some (.int (2^i)):=by unfold pows;rw[k0,uba h];rfl
theorem xD (m:Nat):pows (m+1)=pows m++[.int (2^m)]:=by unfold pows;rw[ud4,ua8];rfl
theorem zb5 {i:Nat}(h:i<60):(0:Int)<=2^i/\(2:Int)^i<=2^60:=by
 have e:((2^i:Nat):Int)=(2:Int)^i:=by norm_cast
 have:2^i<=2^60:=Nat.pow_le_pow_right (by decide) (by left)
 constructor
 ·rw[← e];exact m8 _
 ·rw[← e];exact_mod_cast this
def spWeights (K:c6):Sp:=λ vs H Q _=>∃ n ts v,vs=[v]/\Is K H (webD n ts) v/\ts.length<=60/\∀ l H',Same H H'->H l=none->H' l=some (.lst (pows ts.length))->Q (.ref l) H'
def spCost (K:c6):Sp:=λ vs H Q _=>∃ c x y l w,vs=[.ref c,.int l,.int w]/\H c=some (.tup [.int x,.int y])/\∀ t H',Same H H'->H' t=some (.tup [.int (x+l),.int (y+w)])->Q (.ref t) H'
def WK (K:c6)(H:Hp)(n:Int)(ts:List Tie)(ks:List Nat)(wv kv:V):Prop:=Is K H (webD n ts) wv/\WebOk n ts/\Is K H (keepD ks) kv/\KeepOk ts.length ks
theorem WK.same {K:c6}{H H':Hp}{n:Int}{ts:List Tie}{ks:List Nat}{wv kv:V}(h:WK K H n ts ks wv kv)(s:Same H H'):WK K H' n ts ks wv kv:=⟨Is.same s _ h.1,h.2.1,Is.same s _ h.2.2.1,h.2.2.2⟩
def spReached (K:c6):Sp:=λ vs H Q _=>∃ n ts ks wv kv r,vs=[wv,kv,.int r]/\WK K H n ts ks wv kv/\0<=r/\r<n /\
 ∀ p lc la cvs avs cs H',Same H H'->H' p=some (.tup [.ref lc,.ref la])->H' lc=some (.lst cvs)->H' la=some (.lst avs)->CostL H' cvs cs->Far.Good (arcs ts ks) n.toNat r.toNat cs->Far.Stab (arcs ts ks) cs->Q (.ref p) H'
def spFars (K:c6):Sp:=λ vs H Q _=>∃ n ts ks wv kv r,vs=[wv,kv,.int r]/\WK K H n ts ks wv kv/\0<=r/\r<n /\
 ∀ l D H',Same H H'->H l=none->H' l=some (.lst (D.map ov))->D.length=n.toNat->(∀ v,v<n.toNat->Far.Dst (arcs ts ks) r.toNat v (Far.get D v))->Q (.ref l) H'
end L3
namespace HT
open PySem PyProof.Rows
open Sem (wp)
section
variable {prog:m5}{w:ual}{A:uaf}{E:d6->d7->Prop}{s:d7}
end
end HT
namespace L3
open PySem PySem.Spec PyProof.Rows L2
def hAt (hs:List Int)(a:Int):Int:=hs.getD a.toNat 0
def absI (i:Int):Int:=if i<0 then -i else i
def acrossI (ts:List Tie)(hs:List Int)(k:Nat):Int:=absI (hAt hs (tieAt ts k).1-hAt hs (tieAt ts k).2.1)
def holdB (n:Int)(ts:List Tie)(ks:List Nat)(hs:List Int):Bool:=decide (hs.length=n.toNat)&&ks.all λ k=>decide (acrossI ts hs k<=(tieAt ts k).2.2)
def capO (roof:Int):Option Int->Int
 | none=>roof
 | some x=>if roof<x then roof else x
def IntT (H:Hp)(p:j9)(hs:List Int):Prop:=H p=some (.tup (hs.map V.int))/\hs.length<=1000
def AllI (xs:List V):Prop:=∃ ns:List Int,xs=ns.map V.int
theorem cD:∀ hs:List Int,PyData.canLayAll0 (hs.map .int)=true
 | []=>rfl
 | t::r=>by
  show (PyData.canLay0 (.int t)&&PyData.canLayAll0 (r.map .int))=true
  rw[cD r]
  rfl
theorem eM:∀ hs:List Int,uda (hs.map .int)<=1
 | []=>w8 _
 | t::r=>by
  show max (udj (.int t)) (uda (r.map .int))<=1
  have h1:=eM r
  have h2:udj (.int t)<=1:=uas (ueb (by rfl:udj (.int t)=0)) (by decide)
  left
section
variable {g:TG}{te:TE}{own:List Str}{js:List Nat}{σ:L2.St}{H1:Hp}{Q:VK}
end
section
variable {J:It}{g:TG}{tt:TT}{te:TE}{own:List Str}{js:List Nat}{σ:L2.St}{H1:Hp}{Q:VK}
theorem gW (n:Nat)(Sg:L2.St->Prop)(sel:Nat->Option V)(hn:n<=1000)(h0:Sg (start3 own js σ))
  (go:∀ i H',i<n->Same H1 H'->J.go i H') (stop:∀ H',Same H1 H'->J.stop n H')
  (step:∀ i x σ' H' H2,i<n->Same H1 H'->J.yld i H' x H2->Sg σ'->∀ (C:L2.St->V->Hp->Prop)(L:L2.St->Hp->Prop),(∀ σ3 v H5,Sg σ3->Same H' H5->sel i=some v->C σ3 v H5)->(∀ σ3 H5,Sg σ3->Same H' H5->sel i=none->L σ3 H5) ->
   g x σ' H2 λ σ3 H3=>tt σ3 H3 λ b H4=>if b=true then te σ3 H4 λ v H5=>C σ3 v H5 else L σ3 H4)
  (fin:∀ D H',H1 D=none->Same H1 H'->H' D=some (.lst ((c7 n).filterMap sel))->Q (.ref D) H'):CompGo own js g tt te σ Q J H1:=by
 intro D hD
 refine⟨λ i m ys σ' H'=>m=n-i/\i<=n/\Sg σ'/\Same H1 H'/\ys=(c7 i).filterMap sel,⟨n,rfl,w8 _,h0,aQ hD,rfl⟩,?_⟩
 rintro i m ys σ' H' ⟨rfl,hi,sg,sm,rfl⟩ hd
 have len:((c7 i).filterMap sel).length<=i:=by have:=uco sel (c7 i);rw[l7] at this;exact this
 by_cases hlt:i<n
 ·refine .inr ⟨go i H' hlt sm,λ x H2 hy=>?_⟩
  refine step i x σ' H' H2 hlt sm hy sg
   (λ σ3 v H5=>H5 D=some (.lst ((c7 i).filterMap sel))/\((c7 i).filterMap sel).length<v5/\∃ m',m'<n-i/\(m'=n-(i+1)/\i+1<=n/\Sg σ3/\Same H1 (upd H5 D (.lst ((c7 i).filterMap sel++[v])))/\(c7 i).filterMap sel++[v]=(c7 (i+1)).filterMap sel))
   (λ σ3 H5=>H5 D=some (.lst ((c7 i).filterMap sel))/\∃ m',m'<n-i/\(m'=n-(i+1)/\i+1<=n/\Sg σ3/\Same H1 H5/\(c7 i).filterMap sel=(c7 (i+1)).filterMap sel)) (λ σ3 v H5 sg3 s5 e=>?_) (λ σ3 H5 sg3 s5 e=>?_)
  ·refine⟨s5 _ _ hd,ubv (by left:((c7 i).filterMap sel).length<=1000) (by decide),n-(i+1),by left,rfl,hlt,sg3,λ b o z=>?_,?_⟩
   ·rw[aM (aP z hD)];exact s5 _ _ (sm _ _ z)
   ·rw[ud4,List.filterMap_append];simp [e]
  ·refine⟨s5 _ _ hd,n-(i+1),by left,rfl,hlt,sg3,sm.trans s5,?_⟩
   rw[ud4,List.filterMap_append];simp [e]
 ·have e:i=n:=by left
  subst e
  exact .inl ⟨stop H' sm,fin D H' hD sm hd⟩
theorem yI {lo:Int}{n:Nat}(Sg:L2.St->Prop)(sel:Nat->Option V)(hn:n<=1000)(h0:Sg (start3 own js σ))
  (step:∀ i σ' H',i<n->Same H1 H'->Sg σ'->∀ (C:L2.St->V->Hp->Prop)(L:L2.St->Hp->Prop),(∀ σ3 v H5,Sg σ3->Same H' H5->sel i=some v->C σ3 v H5)->(∀ σ3 H5,Sg σ3->Same H' H5->sel i=none->L σ3 H5) ->
   g (.int (lo+i)) σ' H' λ σ3 H3=>tt σ3 H3 λ b H4=>if b=true then te σ3 H4 λ v H5=>C σ3 v H5 else L σ3 H4)
  (fin:∀ D H',H1 D=none->Same H1 H'->H' D=some (.lst ((c7 n).filterMap sel))->Q (.ref D) H'):CompGo own js g tt te σ Q (Itr lo n) H1:=by
 refine gW n Sg sel hn h0 (λ i H' hi s=>hi) (λ H' s=>h9 _) (λ i x σ' H' H2 hi s hy sg C L hC hL=>?_) fin
 obtain⟨rfl,rfl⟩:=hy
 exact step i σ' _ hi s sg C L hC hL
theorem yJ {t:Bool}{K:c6}{a:j9}{xs:List V}(hx:H1 a=some (if t=true then .tup xs else .lst xs))(Sg:L2.St->Prop)(sel:Nat->Option V)(hn:xs.length<=1000)(h0:Sg (start3 own js σ))
  (step:∀ i x T σ' H',xs[i]?=some x->Same H1 H'->H' T=none->Sg σ'->∀ (C:L2.St->V->Hp->Prop)(L:L2.St->Hp->Prop),(∀ σ3 v H5,Sg σ3->Same H' H5->sel i=some v->C σ3 v H5)->(∀ σ3 H5,Sg σ3->Same H' H5->sel i=none->L σ3 H5) ->
   g (.ref T) σ' (upd H' T (.tup [.int (i:Nat),x])) λ σ3 H3=>tt σ3 H3 λ b H4=>if b=true then te σ3 H4 λ v H5=>C σ3 v H5 else L σ3 H4)
  (fin:∀ D H',H1 D=none->Same H1 H'->H' D=some (.lst ((c7 xs.length).filterMap sel))->Q (.ref D) H'):CompGo own js g tt te σ Q (Itn t K a) H1:=by
 have s1:∀ H',Same H1 H'->SqX t K H' a xs:=λ H' s=>SqX.of (s _ _ hx)
 refine gW xs.length Sg sel hn h0 (λ i H' hi s=>⟨xs,xs[i],s1 H' s,by simp [hi]⟩) (λ H' s=>⟨xs,s1 H' s,h9 _⟩) (λ i x σ' H' H2 hi s hy sg C L hC hL=>?_) fin
 obtain⟨T,y,hT,rfl,rfl,e⟩:=hy
 exact step i y T σ' H' (e _ (s1 H' s)) s hT sg C L hC hL
end
def natV (ns:List Nat):List V:=ns.map λ v:Nat=>V.int (v:Int)
def pieceD (ns:List Nat):ubr:=.tuple ((keepI ns).map .int)
theorem bZ (ns:List Nat):natV ns=(keepI ns).map V.int:=by unfold natV keepI;rw[ubo];rfl
theorem gT {K:c6}{H:Hp}{t:j9}{ns:List Nat}(h:H t=some (.tup (natV ns))):Is K H (pieceD ns) (.ref t):=⟨t,_,rfl,h,by rw[bZ];exact IsAll.ints _⟩
theorem fR (p:Nat->Bool):∀ is:List Nat,is.filterMap (λ i=>if p i=true then some (V.int (i:Int)) else none)=natV (is.filter p)
 | []=>rfl
 | i::r=>by
  rw[ub6,List.filter_cons]
  cases e:p i with
  | true=>rw[uhc rfl,uhc rfl,fR p r];rfl
  | false=>rw[uhd j6,uhd j6,fR p r]
theorem jW {a:Int}(h:0<=a)(ns:List Nat):inV (.int a) (natV ns)=decide (a.toNat∈ns):=by
 unfold inV natV
 rw[List.any_map,ubb,ucc,decide_eq_true_iff]
 constructor
 ·rintro ⟨v,hv,e⟩
  have e':((v:Int)==a)=true:=e
  have:(v:Int)=a:=by simpa using e'
  have e2:a.toNat=v:=by left
  rw[e2];exact hv
 ·intro m
  exact⟨_,m,show (((a.toNat:Nat):Int)==a)=true by rw[uar h];simp⟩
theorem gU (ns:List Nat):(natV ns).all flatV=true:=by
 unfold natV;rw[List.all_map];exact ucd.mpr λ _ _=>rfl
theorem nC {X:Cx}{own fr:List Str}{scope:ueh}{fp:List j9}{pins:List (j9 × Obj)}{s3:d7}{H3:Hp}{n:String}:CallR (cxComp X own fr scope fp pins s3 H3) (.builtin "isinstance") (call_isi_i X.K n):=oT (X:=cxComp X own fr scope fp pins s3 H3)
def spPiece (K:c6):Sp:=λ vs H Q _=>∃ n ts ks wv kv a,vs=[wv,kv,.int a]/\WK K H n ts ks wv kv/\0<=a/\a<n/\∀ p H',Same H H'->H' p=some (.tup (natV (Far.rN (arcs ts ks) n.toNat a.toNat)))->Q (.ref p) H'
end L3
namespace Srt
open PySem PySem.Spec PyProof.Rows PySem.W
section
variable {prog:m5}{w:ual}{A:uaf}{E:d6->d7->Prop}{s:d7}
end
end Srt
namespace HT
open PySem PyProof.Rows
section
variable {prog:m5}{w:ual}{A:uaf}{E:d6->d7->Prop}{s:d7}
theorem vH {Q:List d6->d7->Prop}{r:j9}{a b c:Int}{t u v:Tok}{n:Nat}(hh:A.handled=none)(hr:IsRange s.heap r a b c t u v)(hsmall:Builtin.Range.small a b c=true)
  (hn:Builtin.Range.rangeSize a b c=n) (hlen:n<=2^24)
  (hQ:∀ h' tk acc',(∀ b o,s.heap.get? b=some o->h'.get? b=some o)->ItemsOf (λ i v=>∃ t,v=.int (a+i*c) t) acc' n->Q acc'.toList { s with heap:=h',toks:=tk }) :
  j8 (v6 prog w) A (collect (.ref r)) Q E s:=by
 unfold collect
 refine a9 (ufm (ubm ufv ?_))
 rw[Around.under_plainId ufu _]
 show j8 _ A.in1 (newList [] >>= λ l=>again (.builtin "list.__iadd__" ⟨[l,.ref r],[]⟩)) _ _ s
 refine a9 (uay ?_)
 refine c8 ⟨uc9 udn _,ubm ugi ?_⟩
 rw[Around.under_plainId udn _]
 show j8 _ A.in1 (Builtin.List.listExtendWith (.ref s.heap.objs.size) (.ref r) (.ref s.heap.objs.size)) _ _ _
 have hS:(s.heap.push { cls:=.type "list",data:=.seq ([]:List d6).toArray }).get? s.heap.objs.size=some { cls:=.type "list",data:=.seq #[] }:=i6 _ rfl
 have fin' : ∀ (h' : Heap)(tk : Nat)(acc' : Array d6)(c' : Nat), (∀ b o, s.heap.get? b = some o → h'.get? b = some o) → h'.get? s.heap.objs.size = some { cls := .type "list", dict := none, data := .seq acc' c', slots := #[] } → ItemsOf (λ i v => ∃ t, v = .int (a+i*c) t) acc' n →
     j8 (v6 prog w) A (load s.heap.objs.size >>= λ o=>match o.data with | .seq xs _=>pure xs.toList | _=>unsupported "internal:collect") Q E { s with heap:=h',toks:=tk }:=λ h' tk acc' c' hk hS' hacc=>a9 (wpAny_load hS' (c8 (hQ h' tk acc' hk hacc)))
 refine ub4 (wpAny_extend_range (A:=A) (R:=λ r s'=>r=.ok (.ret (.ref s.heap.objs.size))/\∃ (h':Heap)(tk:Nat)(acc':Array d6)(c':Nat),s'={ s with heap:=h',toks:=tk }/\(∀ b o,s.heap.get? b=some o->h'.get? b=some o)/\h'.get? s.heap.objs.size=some { cls:=.type "list",dict:=none,data:=.seq acc' c',slots:=#[] }/\ItemsOf (λ i v=>∃ t,v=.int (a+i*c) t) acc' n)
  (s:={ s with heap:=s.heap.push { cls:=.type "list",data:=.seq ([]:List d6).toArray } }) hh (b9 _ hr) hsmall hn hlen s.heap.objs.size (.ref s.heap.objs.size) 0 hS λ h' tk acc' c' hk hS' hacc=>⟨rfl,h',tk,acc',c',rfl,λ b o e=>hk b o (j7 (j3 e)) (b9 _ e),hS',hacc⟩) (λ fin s' h=>?_) (λ e s' h=>?_)
 ·cases fin with
  | done f =>
   obtain⟨e,h',tk,acc',c',rfl,h1,h2,h3⟩:=h
   cases e
   exact fin' h' tk acc' c' h1 h2 h3
  | again c'=>exact⟨h.1,udh h.2 λ r s'' hr=>by obtain⟨rfl,h',tk,acc',c',rfl,h1,h2,h3⟩:=hr;exact fin' h' tk acc' c' h1 h2 h3⟩
 ·exact absurd h.1 (by simp)
end
theorem rP (r:j9)(a b c:Int)(t u v:Tok)(n:Nat)(hsmall:Builtin.Range.small a b c=true)(hn:Builtin.Range.rangeSize a b c=n)(hlen:n<=1000) :
  Meets (Builtin.«tuple.__new__» ⟨[.type "tuple",.ref r],[]⟩)
   (λ A R s=>A.handled=none/\IsRange s.heap r a b c t u v/\∀ (h':Heap)(tk:Nat)(acc':Array d6),(∀ b o',s.heap.get? b=some o'->h'.get? b=some o')->ItemsOf (λ i v=>∃ t,v=.int (a+i*c) t) acc' n->R (.ok (.ret (.ref h'.objs.size))) { s with heap:=h'.push { cls:=.type "tuple",data:=.seq acc' },toks:=tk }) :=
 .of_wp λ prog w A R s h=>by
  obtain⟨hp,g,d,tk,os⟩:=s;obtain⟨hh,hr,h⟩:=h
  have hsub:=sub_tuple_self
  have hinit:=init_tuple_lookup
  have hmh:=madeHere_tuple
  have hT:Shared.TypeIs ⟨hp,g,d,tk,os⟩ (.ref r) "range":=⟨_,hr,rfl⟩
  wp_walk using uen hT,vH (A:=A.in1) hh hr hsmall hn (uas hlen (by decide))
  intro h' tk' acc' hk hacc
  show j8 _ _ (Builtin.Tuple.tupleExact acc'.toList.toArray >>= λ v=>ret v) _ _ _
  unfold Builtin.Tuple.tupleExact
  have sz:acc'.size=n:=hacc.1
  refine a9 (uay ?_ (by show acc'.toList.toArray.size<=v5;rw[show acc'.toList.toArray=acc' by simp,sz,ubj];left))
  refine c8 ⟨_,rfl,?_⟩
  have e:acc'.toList.toArray=acc':=by simp
  rw[e]
  exact h h' tk' acc' hk hacc
section
variable {prog:m5}{w:ual}{A:uaf}{E:d6->d7->Prop}{s:d7}
theorem rW {Q:d6->d7->Prop}{r:j9}{a b c:Int}{t u v:Tok}{n:Nat}(hh:A.handled=none)(hr:IsRange s.heap r a b c t u v)(hsmall:Builtin.Range.small a b c=true)
  (hn:Builtin.Range.rangeSize a b c=n) (hlen:n<=1000)
  (hQ:∀ (h':Heap)(tk:Nat)(acc':Array d6),(∀ b o,s.heap.get? b=some o->h'.get? b=some o)->ItemsOf (λ i v=>∃ t,v=.int (a+i*c) t) acc' n->Q (.ref h'.objs.size) { s with heap:=h'.push { cls:=.type "tuple",data:=.seq acc' },toks:=tk }) :
  j8 (v6 prog w) A (call (.type "tuple") [.ref r]) Q E s :=
 callType_new PySem.F.called_tuple (by decide) (PySem.F.typeCall_tuple_1 _) (PySem.F.newCall_tuple_1 _) (λ obj=>PySem.F.args_object_init_2 obj _) PySem.F.entry_tuple_new
  (rP r a b c t u v n hsmall hn hlen) ⟨hh,hr,λ h' tk acc' hk hacc=>⟨⟨_,i6 _ rfl,rfl⟩,hQ h' tk acc' hk hacc⟩⟩
end
end HT
namespace L3
open PySem PySem.Spec PyProof.Rows L2
section
variable {X:Cx}
inductive call_tuple_rng_i  (xs:List V) (H:Hp) (Q:VK):Prop
 | mk:∀ (p:j9)(j:Int),(xs=[.ref p])->(H p=some (.rng 0 j))->(0<=j)->(j<=1000)->(∀ l H',Same H H'->H l=none->H' l=some (.tup (natV (c7 j.toNat)))->Q (.ref l) H')->call_tuple_rng_i xs H Q
theorem sV (hh:X.calm=true):CallR X (.type "tuple") (call_tuple_rng_i):=by
 intro pins s σ H xs us Q I r h
 obtain⟨p,j,rfl,hp,hj0,hj,q⟩:=h
 obtain⟨u,rfl,rx⟩:=vals1 r
 cases rx
 obtain⟨t,u,v,e⟩:=(show ObjOk X.prog X.w H s.heap p (.rng 0 j) from I.hok p _ hp)
 refine HT.rW (n:=j.toNat) (I.ok.hd hh) (show IsRange s.heap p 0 j 1 t u v from e) (small_one (by left) (by left) (by left) (by left)) (by rw[rangeSize_one];split <;> left) (by left) λ h' tk acc hk hacc=>?_
 have I1:Inv X pins σ H { s with heap:=h',toks:=tk }:=I.kept (t':=tk) hk
 have fr:H h'.objs.size=none:=I1.hok.fresh (h9 _)
 refine⟨.ref h'.objs.size,upd H h'.objs.size (.tup (natV (c7 j.toNat))),I1.laid (t':=tk) (o:=.tup (natV (c7 j.toNat))) (λ b o e=>b9 _ e) (h9 _) ⟨?_,acc.toList,?_,(by rw[show acc.toList.toArray=acc by simp];exact⟨_,i6 _ rfl,rfl,⟨_,rfl⟩,rfl⟩)⟩,rfl,q _ _ (aQ fr) fr aH⟩
 ·unfold natV;rw[c9,l7,ubj];left
 ·have go:∀ (n:Nat)(l:List d6),l.length=n->(∀ (k:Nat)(v:d6),l[k]?=some v->∃ t,v=Value.int (0+(k:Int)*1) t)->Vals ((c7 n).map λ i:Nat=>V.int (i:Int)) l:=by
   intro n l hl hv
   have gen:∀ (l:List d6)(o:Nat),(∀ (k:Nat)(v:d6),l[k]?=some v->∃ t,v=Value.int ((o+k:Nat):Int) t)->Vals ((List.range' o l.length).map λ i:Nat=>V.int (i:Int)) l:=by
    intro l
    induction l with
    | nil=>intro o _;exact .nil
    | cons x r ih =>
     intro o h
     rw[z0,List.range'_succ,ucf]
     obtain⟨t,ht⟩:=h 0 x rfl
     refine .cons ⟨t,by simpa using ht⟩ (ih (o+1) λ k v hk=>?_)
     obtain⟨t,ht⟩:=h (k+1) v (by simpa using hk)
     exact⟨t,by rw[ht];congr 1;left⟩
   have:=gen l 0 λ k v hk=>by
    obtain⟨t,ht⟩:=hv k v hk
    exact⟨t,by rw[ht];congr 1;left⟩
   rw[hl,← List.range_eq_range'] at this
   exact this
  exact go j.toNat acc.toList (by rw[z9];exact hacc.1) λ k v hv=>hacc.2 k v (by simpa using hv)
end
section
variable {g:TG}{tt:TT}{te:TE}{own:List Str}{js:List Nat}{σ:L2.St}{H1:Hp}{Q:VK}
theorem mY {K:c6}{a:j9}{xs:List V}(hx:H1 a=some (.tup xs))(Sg:L2.St->Prop)(sel:Nat->Option V)(hn:xs.length<=1000)(h0:Sg (start3 own js σ))
  (step:∀ i x σ' H',xs[i]?=some x->Same H1 H'->Sg σ'->∀ (C:L2.St->V->Hp->Prop)(L:L2.St->Hp->Prop),(∀ σ3 v H5,Sg σ3->Same H' H5->sel i=some v->C σ3 v H5)->(∀ σ3 H5,Sg σ3->Same H' H5->sel i=none->L σ3 H5) ->
   g x σ' H' λ σ3 H3=>tt σ3 H3 λ b H4=>if b=true then te σ3 H4 λ v H5=>C σ3 v H5 else L σ3 H4)
  (fin:∀ D H',H1 D=none->Same H1 H'->H' D=some (.lst ((c7 xs.length).filterMap sel))->Q (.ref D) H'):CompGo own js g tt te σ Q (Itt K a) H1:=by
 refine gW xs.length Sg sel hn h0 (λ i H' hi s=>⟨xs,xs[i],SqT.of (s _ _ hx),by simp [hi]⟩) (λ H' s=>⟨xs,SqT.of (s _ _ hx),h9 _⟩) (λ i x σ' H' H2 hi s hy sg C L hC hL=>?_) fin
 obtain⟨rfl,hy⟩:=hy
 exact step i x σ' _ (hy xs (SqT.of (s _ _ hx))) s sg C L hC hL
end
def outs (m:Nat)(ks:List Nat):List Nat:=(c7 m).filter λ k=>decide (k∉ks)
noncomputable def gO (ts:List Tie)(ks:List Nat)(k:Nat):Option Int :=
 @dite (Option Int) (∃ o,Far.Dst (arcs ts ks) (tieAt ts k).1.toNat (tieAt ts k).2.1.toNat o) (Classical.propDecidable _) (λ h=>Classical.choose h) λ _=>none
def spWhole (K:c6):Sp:=λ vs H Q _=>∃ n ts v,vs=[v]/\Is K H (webD n ts) v/\ts.length<=60/\∀ l H',Same H H'->H l=none->H' l=some (.tup (natV (c7 ts.length)))->Q (.ref l) H'
theorem bK {ns:List Nat}{i:Nat}{x:V}(h:(natV ns)[i]?=some x):∃ k,ns[i]?=some k/\x=.int (k:Int):=by
 rw[bZ] at h;exact hX h
theorem mG (ns:List Int):∀ i,i<=ns.length->preSum (λ i=>ns.getD i 0) i=(ns.take i).sum
 | 0,_=>rfl
 | i+1,h=>by
  have e:ns[i]?=some ns[i]:=d8 (by left)
  show preSum _ i+ns.getD i 0=_
  rw[mG ns i (by left),eI e,List.sum_append,g9,e]
  simp
inductive call_sumA_i  (xs:List V) (H:Hp) (Q:VK):Prop
 | mk:∀ (p:j9)(ns:List Int),(xs=[.ref p])->(H p=some (.lst (ns.map V.int)))->(Q (.int ns.sum) H)->call_sumA_i xs H Q
theorem nA {X:Cx}(hh:X.calm=true):CallR X (.builtin "sum") (call_sumA_i):=by
 intro pins s σ H xs us Q I r h
 obtain⟨p,ns,rfl,hq,q⟩:=h
 obtain⟨u,rfl,rx⟩:=vals1 r
 cases rx
 obtain⟨its,rv,pl,hz⟩:=I.list (SqL.of hq)
 have hl:=rv.length
 rw[c9] at hl
 have hI:IntsAre its ns:=cO rv
 have lt:p≠s.heap.objs.size:=by obtain⟨o,e,_⟩:=pl.isList;exact j7 (j3 e)
 refine call_sum_walkAnyS (uc1 pl.isList ?_)
 have W:=(Walks.list (prog:=X.prog) (w:=X.w) (A:=X.A.in1) (show X.A.in1.handled=none from I.ok.hd hh) s.heap.objs.size p lt its.toArray).toS
 refine⟨s.heap.objs.size,_,_,_,_,_,_,(λ i=>ns.getD i 0),rfl,W,⟨⟨_,i6 _ rfl,rfl,rfl⟩,pl.isList.push _⟩,λ b hb=>?_,λ i v hv=>?_,λ s' t' hm=>?_⟩
 ·obtain⟨o,e,_⟩:=pl.isList
  have hlt:p<s.heap.objs.size:=j3 e
  show b<(s.heap.push _).objs.size
  rw[uaz]
  simp only [j0,w6,or_false] at hb
  rcases hb with z | z
  ·rw[z];exact ua4 _
  ·rw[z];exact ube hlt
 ·exact IntsAre.int_at hI i v (by simpa using hv)
 ·rw[Moved.eq_with hm]
  refine⟨.int ns.sum,H,I.kept (t':=s'.toks) λ b o e=>hm.heap b o (λ z=>?_) (b9 _ e),⟨t',?_⟩,q⟩
  ·have:b=s.heap.objs.size:=by simpa using z
   exact absurd (j3 e) (by rw[this];exact ub1 _)
  ·rw[show its.toArray.size=ns.length by rw[i8,← hl],mG ns _ (h9 _),ua1]
def oa:Option Nat->V
 | none=>.non
 | some u=>.int (u:Int)
structure RA (H J:Hp)(lw lc la:j9)(ws:List V)(cs:List (Option (Int × Int)))(as:List (Option Nat)):Prop where
 same:Same H J
 fc:H lc=none
 fa:H la=none
 nwc:lw≠lc
 nwa:lw≠la
 nca:lc≠la
 wl:J lw=some (.lst ws)
 co:∃ cvs,J lc=some (.lst cvs)/\CostL J cvs cs
 ah:J la=some (.lst (as.map oa))
section
variable {H H' J J':Hp}{vs cvs ws:List V}{cs:List (Option (Int × Int))}{as:List (Option Nat)}{lw lc la t:j9}{k:Nat}{x y:Int}
theorem RA.step (h:RA H J lw lc la ws cs as)(s:Same J J'):RA H J' lw lc la ws cs as :=
 ⟨h.same.trans s,h.fc,h.fa,h.nwc,h.nwa,h.nca,s _ _ h.wl,let ⟨c,e,z⟩:=h.co;⟨c,s _ _ e,z.keep (pH s)⟩,s _ _ h.ah⟩
theorem RA.put (h:RA H J lw lc la ws cs as)(hc:J lc=some (.lst cvs))(hk:k<cvs.length)(ht:J t=some (.tup [.int x,.int y])):RA H (upd J lc (.lst (cvs.set k (.ref t)))) lw lc la ws (cs.set k (some (x,y))) as:=by
 obtain⟨c,e,z⟩:=h.co
 rw[hc] at e;cases e
 refine⟨λ b o eb=>?_,h.fc,h.fa,h.nwc,h.nwa,h.nca,?_,⟨_,aH,CostL.set (z.keep (gB hc)) hk ⟨t,rfl,gB hc _ _ ht⟩⟩,?_⟩
 ·rw[aM (aP eb h.fc)];exact h.same _ _ eb
 ·rw[aM h.nwc];exact h.wl
 ·rw[aM h.nca.symm];exact h.ah
theorem RA.mark {u:Nat}(h:RA H J lw lc la ws cs as):RA H (upd J la (.lst ((as.map oa).set k (.int (u:Int))))) lw lc la ws cs (as.set k (some u)):=by
 obtain⟨c,e,z⟩:=h.co
 refine⟨λ b o eb=>?_,h.fc,h.fa,h.nwc,h.nwa,h.nca,?_,⟨c,?_,z.keep (gB h.ah)⟩,?_⟩
 ·rw[aM (aP eb h.fa)];exact h.same _ _ eb
 ·rw[aM h.nwa];exact h.wl
 ·rw[aM h.nca];exact e
 ·rw[aH,List.map_set];rfl
end
theorem zcy {D:List (Option Nat)}{i:Nat}(h:i<D.length):(D.map oa)[i]?=some (oa (Far.get D i)):=by
 rw[k0,d8 h]
 unfold Far.get
 rw[g9,d8 h];rfl
def WayV (H:Hp)(A:List (Nat × Nat × Int))(a b:Nat)(v:V):Prop:=(v=.non/\Far.Dst A a b none)\/∃ t ws x,v=.ref t/\H t=some (.tup (natV ws))/\ws.length<=24/\Far.Tr A a ws b x/\Far.Dst A a b (some x)
def isTB (ts:List Tie)(u v:Nat)(k:Nat):Bool:=decide ((tieAt ts k).1=min (u:Int) v)&&decide ((tieAt ts k).2.1=max (u:Int) v)
def tbN (ts:List Tie)(u v:Nat):Option Nat:=(c7 ts.length).find? (isTB ts u v)
theorem zby {n:Int}{ts:List Tie}{ks:List Nat}(ok:WebOk n ts)(ko:KeepOk ts.length ks){u v:Nat}{l:Int}(h:(u,v,l)∈arcs ts ks):∃ k,tbN ts u v=some k/\k<ts.length/\(tieAt ts k).2.2=l:=by
 obtain⟨k,hk,m⟩:=arcs_mem.mp h
 have hkl:=ko.2 k hk
 have tk:=ok.tie _ (bI hkl).2
 have isk:isTB ts u v k=true/\(tieAt ts k).2.2=l:=by
  unfold isTB
  rcases arcs2_mem.mp m with e | e
  ·have e1:u=(tieAt ts k).1.toNat:=congrArg (·.1) e
   have e2:v=(tieAt ts k).2.1.toNat:=congrArg (·.2.1) e
   have e3:l=(tieAt ts k).2.2:=congrArg (·.2.2) e
   have eu:(u:Int)=(tieAt ts k).1:=by rw[e1];exact uar tk.1
   have ev:(v:Int)=(tieAt ts k).2.1:=by rw[e2];exact uar (ucx (ufk tk.1 tk.2.1))
   rw[eu,ev,Int.min_eq_left (ucx tk.2.1),Int.max_eq_right (ucx tk.2.1)]
   exact⟨by rw[ug8 rfl,ug8 rfl];rfl,e3.symm⟩
  ·have e1:u=(tieAt ts k).2.1.toNat:=congrArg (·.1) e
   have e2:v=(tieAt ts k).1.toNat:=congrArg (·.2.1) e
   have e3:l=(tieAt ts k).2.2:=congrArg (·.2.2) e
   have eu:(u:Int)=(tieAt ts k).2.1:=by rw[e1];exact uar (ucx (ufk tk.1 tk.2.1))
   have ev:(v:Int)=(tieAt ts k).1:=by rw[e2];exact uar tk.1
   rw[eu,ev,Int.min_eq_right (ucx tk.2.1),Int.max_eq_left (ucx tk.2.1)]
   exact⟨by rw[ug8 rfl,ug8 rfl];rfl,e3.symm⟩
 cases e:tbN ts u v with
 | none =>
  have:=ud9.mp e k (j4.mpr hkl)
  exact absurd isk.1 this
 | some k' =>
  have p:=uds e
  have hk':k'<ts.length:=j4.mp (ugu e)
  refine⟨k',rfl,hk',?_⟩
  have same:k'=k:=by
   have q1:=p
   have q2:=isk.1
   unfold isTB at q1 q2
   rw[uaj] at q1 q2
   have a1:=ug9 q1.1
   have a2:=ug9 q1.2
   have b1:=ug9 q2.1
   have b2:=ug9 q2.2
   have ri:=ucj.mp ok.rise
   have g:∀ j (hj:j<ts.length),ts[j]=tieAt ts j:=λ j hj=>by
    have:=(bI hj).1
    rw[d8 hj] at this
    exact u7 this
   rcases uel k' k with z | z | z
   ·have:=ri k' k hk' hkl z
    rw[g k' hk',g k hkl] at this
    exact (this.elim (λ z=>uf1 z (a1.trans b1.symm)) λ z=>uf1 z.2 (a2.trans b2.symm)).elim
   ·exact z
   ·have:=ri k k' hkl hk' z
    rw[g k' hk',g k hkl] at this
    exact (this.elim (λ z=>uf1 z (b1.trans a1.symm)) λ z=>uf1 z.2 (b2.trans a2.symm)).elim
  rw[same];exact isk.2
def tlen (ts:List Tie)(u v:Nat):Int:=(tieAt ts ((tbN ts u v).getD 0)).2.2
def wl (ts:List Tie):List Nat->Int
 | u::v::r=>tlen ts u v+wl ts (v::r)
 | _=>0
def linked (ts:List Tie):List Nat->Prop
 | u::v::r=>(∃ k,tbN ts u v=some k/\k<ts.length)/\linked ts (v::r)
 | _=>True
theorem zaw {A:List (Nat × Nat × Int)}{a v:Nat}{ws:List Nat}{x:Int}(h:Far.Tr A a ws v x):∃ r,ws=r++[v]:=by
 cases h with
 | one=>exact⟨[],rfl⟩
 | snoc _ _=>exact⟨_,rfl⟩
theorem oY (ts:List Tie)(u v:Nat):∀ r:List Nat,wl ts (r++[u]++[v])=wl ts (r++[u])+tlen ts u v
 | []=>by show tlen ts u v+0=0+tlen ts u v;left
 | [a]=>by show tlen ts a u+(tlen ts u v+0)=tlen ts a u+0+tlen ts u v;left
 | a::b::r=>by
  have:=oY ts u v (b::r)
  show tlen ts a b+wl ts ((b::r)++[u]++[v])=tlen ts a b+wl ts ((b::r)++[u])+tlen ts u v
  rw[this];left
theorem lG (ts:List Tie)(u v:Nat)(h:∃ k,tbN ts u v=some k/\k<ts.length):∀ r:List Nat,linked ts (r++[u])->linked ts (r++[u]++[v])
 | [],_=>⟨h,trivial⟩
 | [a],hl=>⟨hl.1,h,trivial⟩
 | a::b::r,hl=>⟨hl.1,lG ts u v h (b::r) hl.2⟩
theorem rF {n:Int}{ts:List Tie}{ks:List Nat}(ok:WebOk n ts)(ko:KeepOk ts.length ks){a v:Nat}{ws:List Nat}{x:Int}(h:Far.Tr (arcs ts ks) a ws v x):wl ts ws=x/\linked ts ws:=by
 induction h with
 | one=>exact⟨rfl,trivial⟩
 | @snoc ws u v x l t m ih =>
  obtain⟨r,rfl⟩:=zaw t
  obtain⟨k,e1,e2,e3⟩:=zby ok ko m
  refine⟨?_,lG ts u v ⟨k,e1,e2⟩ r ih.2⟩
  rw[oY,ih.1]
  unfold tlen
  rw[e1]
  show x+(tieAt ts k).2.2=x+l
  rw[e3]
theorem fN {ts:List Tie}:∀ {ws:List Nat}{i u v:Nat},linked ts ws->ws[i]?=some u->ws[i+1]?=some v->∃ k,tbN ts u v=some k/\k<ts.length
 | a::b::r,0,u,v,h,e1,e2=>by cases e1;cases e2;exact h.1
 | a::b::r,i+1,u,v,h,e1,e2=>fN (ws:=b::r) (i:=i) h.2 (by simpa using e1) (by simpa using e2)
 | [a],0,u,v,_,_,e2=>by cases e2
 | [a],i+1,u,v,_,e1,_=>by cases e1
 | [],i,u,v,_,e1,_=>by cases e1
def alongN (ts:List Tie)(ws:List Nat):List Nat:=(c7 (ws.length-1)).map λ i=>(tbN ts (ws.getD i 0) (ws.getD (i+1) 0)).getD 0
theorem wP (ts:List Tie)(u v:Nat)(r:List Nat):alongN ts (u::v::r)=(tbN ts u v).getD 0::alongN ts (v::r):=by
 unfold alongN
 show (c7 (r.length+1)).map _=_
 rw[List.range_succ_eq_map,ucf,ubo]
 rfl
theorem jA (ts:List Tie):∀ ws:List Nat,((alongN ts ws).map λ k=>(tieAt ts k).2.2).sum=wl ts ws
 | []=>rfl
 | [_]=>rfl
 | u::v::r=>by
  rw[wP,ucf,List.sum_cons,jA ts (v::r)];rfl
def spTB (K:c6):Sp:=λ vs H Q _=>∃ (n:Int)(ts:List Tie)(wv:V)(u v:Nat),vs=[wv,.int (u:Int),.int (v:Int)]/\Is K H (webD n ts) wv/\ts.length<=60/\∀ H',Same H H'->Q (oa (tbN ts u v)) H'
def spAlong (K:c6):Sp:=λ vs H Q _=>∃ (n:Int)(ts:List Tie)(wv:V)(t:j9)(ws:List Nat),vs=[wv,.ref t]/\Is K H (webD n ts) wv/\ts.length<=60/\H t=some (.tup (natV ws))/\ws.length<=24/\linked ts ws/\∀ l H',Same H H'->H' l=some (.lst (natV (alongN ts ws)))->Q (.ref l) H'
def spWLen (K:c6):Sp:=λ vs H Q _=>∃ (n:Int)(ts:List Tie)(wv:V)(t:j9)(ws:List Nat),vs=[wv,.ref t]/\Is K H (webD n ts) wv/\ts.length<=60/\H t=some (.tup (natV ws))/\ws.length<=24/\linked ts ws/\∀ H',Same H H'->Q (.int (wl ts ws)) H'
theorem gZ {ts:List Tie}{ws:List Nat}(h:linked ts ws):∀ k∈alongN ts ws,k<ts.length:=λ k hk=>by
 unfold alongN at hk
 obtain⟨i,hi,rfl⟩:=y2.mp hk
 have hi':=j4.mp hi
 have e1:ws[i]?=some (ws.getD i 0):=by rw[g9,d8 (by left)];rfl
 have e2:ws[i+1]?=some (ws.getD (i+1) 0):=by rw[g9,d8 (by left)];rfl
 obtain⟨k,e,hk⟩:=fN h e1 e2
 rw[e];exact hk
theorem jJ (a b x y:Int):ufc (.tuple (([a,b]:List Int).map .int)) (.tuple (([x,y]:List Int).map .int))=(decide (a=x)&&decide (b=y)):=by
 show (_&&(_&&true))=_
 rw[Bool.and_true]
 rfl
def but (ks:List Nat)(k:Nat):List Nat:=ks.filter λ j=>decide (j≠k)
theorem jE (p:Nat->Bool)(ks:List Nat):(c7 ks.length).filterMap (λ i=>if p (ks.getD i 0)=true then some (V.int ((ks.getD i 0:Nat):Int)) else none)=natV (ks.filter p):=by
 have e:=congrArg (ugv λ j:Nat=>if p j=true then some (V.int (j:Int)) else none) (cS ks 0)
 rw[ufe] at e
 exact e.trans (fR p ks)
def withinB (t l:Int):Option Int->Bool
 | none=>false
 | some x=>decide (x<=t*l)
def spFarsL (K:c6):Sp:=λ vs H Q _=>∃ n ts ks wv kp r,vs=[wv,.ref kp,.int r]/\Is K H (webD n ts) wv/\WebOk n ts/\H kp=some (.lst ((keepI ks).map V.int))/\KeepOk ts.length ks/\0<=r/\r<n /\
 ∀ l D H',Same H H'->H l=none->H' l=some (.lst (D.map ov))->D.length=n.toNat->(∀ v,v<n.toNat->Far.Dst (arcs ts ks) r.toNat v (Far.get D v))->Q (.ref l) H'
end L3
namespace Peel
abbrev T2:=Nat × Nat
def hit (gone:List Nat)(p:Nat)(t:T2):Bool:=(t.1==p&&!gone.contains t.2)||(t.2==p&&!gone.contains t.1)
def deg (ts:List T2)(gone:List Nat)(p:Nat):Nat:=ts.countP (hit gone p)
def may (ts:List T2)(d:Int)(gone:List Nat)(p:Nat):Bool:=!gone.contains p&&decide ((deg ts gone p:Int)<=d)
def next (n:Nat)(ts:List T2)(d:Int)(gone:List Nat):Option Nat:=(c7 n).find? (may ts d gone)
def run (n:Nat)(ts:List T2)(d:Int):Nat->List Nat->List Nat
 | 0,g=>g
 | f+1,g=>match next n ts d g with
  | none=>g
  | some p=>run n ts d f (g++[p])
section
variable {n:Nat}{ts:List T2}{d:Int}{g:List Nat}{p:Nat}
def Good (n:Nat)(g:List Nat):Prop:=g.Nodup/\∀ p∈g,p<n
theorem cV:∀ (n:Nat)(g:List Nat),g.Nodup->(∀ p∈g,p<n)->g.length<=n
 | 0,[],_,_=>h9 _
 | 0,p::_,_,h=>absurd (h p i5) (ucs _)
 | n+1,g,nd,h=>by
  have h1:=cV n (g.filter λ p=>p != n) (nd.filter _) λ p hp=>by
   have:=uac.mp hp
   have a:=h p this.1
   have b:p≠n:=by simpa using this.2
   left
  have e:g.length=(g.filter λ p=>p != n).length+g.countP (λ p=>p==n):=by
   rw[← List.countP_eq_length_filter]
   have:=List.length_eq_countP_add_countP (λ p=>p==n) (l:=g)
   have e2:g.countP (λ p=>decide ¬(p==n)=true)=g.countP λ p=>p != n:=List.countP_congr λ x _=>by simp
   rw[e2] at this
   left
  have c:g.countP (λ p=>p==n)<=1:=by
   have:=List.nodup_iff_count.mp nd n
   exact this
  left
def gone (n:Nat)(ts:List T2)(d:Int):List Nat:=run n ts d n []
end
end Peel
namespace L3
open PySem PySem.Spec PyProof.Rows L2
def nb1 (ts:List Tie)(p:Int)(k:Nat):Option Nat:=if (tieAt ts k).1=p then some (tieAt ts k).2.1.toNat else none
def nb2 (ts:List Tie)(p:Int)(k:Nat):Option Nat:=if (tieAt ts k).2.1=p then some (tieAt ts k).1.toNat else none
def nbN (ts:List Tie)(ks:List Nat)(p:Int):List Nat:=ks.filterMap (nb1 ts p)++ks.filterMap (nb2 ts p)
def spNeigh (K:c6):Sp:=λ vs H Q _=>∃ n ts ks wv kv p,vs=[wv,kv,.int p]/\WK K H n ts ks wv kv/\∀ l H',Same H H'->H l=none->H' l=some (.lst (natV (nbN ts ks p)))->Q (.ref l) H'
def t2s (ts:List Tie)(ks:List Nat):List Peel.T2:=ks.map λ k=>((tieAt ts k).1.toNat,(tieAt ts k).2.1.toNat)
section
variable {g:TG}{tt:TT}{te:TE}{own:List Str}{js:List Nat}{σ:L2.St}{H1:Hp}{Q:VK}
theorem iZ {K:c6}{a:j9}{xs:List V}(hx:H1 a=some (.lst xs))(Sg:L2.St->Prop)(sel:Nat->Option V)(hn:xs.length<=1000)(h0:Sg (start3 own js σ))
  (step:∀ i x σ' H',xs[i]?=some x->Same H1 H'->Sg σ'->∀ (C:L2.St->V->Hp->Prop)(L:L2.St->Hp->Prop),(∀ σ3 v H5,Sg σ3->Same H' H5->sel i=some v->C σ3 v H5)->(∀ σ3 H5,Sg σ3->Same H' H5->sel i=none->L σ3 H5) ->
   g x σ' H' λ σ3 H3=>tt σ3 H3 λ b H4=>if b=true then te σ3 H4 λ v H5=>C σ3 v H5 else L σ3 H4)
  (fin:∀ D H',H1 D=none->Same H1 H'->H' D=some (.lst ((c7 xs.length).filterMap sel))->Q (.ref D) H'):CompGo own js g tt te σ Q (Itl K a) H1:=by
 refine gW xs.length Sg sel hn h0 (λ i H' hi s=>⟨xs,xs[i],SqL.of (s _ _ hx),by simp [hi]⟩) (λ H' s=>⟨xs,SqL.of (s _ _ hx),h9 _⟩) (λ i x σ' H' H2 hi s hy sg C L hC hL=>?_) fin
 obtain⟨rfl,hy⟩:=hy
 exact step i x σ' _ (hy xs (SqL.of (s _ _ hx))) s sg C L hC hL
end
theorem mF {α β:Type}(f:α->Option β)(d:α):∀ ks:List α,(c7 ks.length).filterMap (λ i=>f (ks.getD i d))=ks.filterMap f:=λ ks=>by
 have e:=congrArg (ugv f) (cS ks d)
 rw[ufe] at e
 exact e
section
variable {own:List Str}{js:List Nat}{g:TG}{te:TE}{σ:L2.St}{Q:VK}{H1:Hp}
end
structure Bes (H:Hp)(l:j9)(as:List j9)(rows:Nat->List V):Prop where
 top:H l=some (.lst (as.map V.ref))
 nd:as.Nodup
 own:l∉as
 row:∀ i a,as[i]?=some a->H a=some (.lst (rows i))
def Uniq (ts:List Tie)(ks:List Nat)(j m:Nat):Prop:=∃ cs:List Nat,cs.Nodup/\cs.length=m/\∀ c∈cs,∃ k∈ks,∃ l,(j,c,l)∈arcs2 (tieAt ts k)
section
variable {X:Cx}
inductive rExtendB_i  (x:V) (vs:List V) (H:Hp) (Q:VK):Prop
 | mk:∀ l b xs zs,(x=.ref l)->(vs=[.ref b])->(H l=some (.lst xs))->(H b=some (.lst zs))->(xs.length+zs.length<=10^7)->(∀ H',But l H H'->H' l=some (.lst (xs++zs))->Q .non H')->rExtendB_i x vs H Q
def rExtendB :V->List V->Hp->VK->Prop:=λ x vs H Q=>rExtendB_i x vs H Q
theorem vX:MtM X "list.extend" rExtendB:=by
 intro pins s σ H x vs v us Q I rx rv h
 obtain⟨l,b,xs,zs,rfl,rfl,hH,hB,hz,q⟩:=h
 exact mR (X:=X) pins s σ H _ _ v us Q I rx rv ⟨l,b,xs,zs,rfl,rfl,hH,hB,uas hz (by decide),q _ But.upd aH⟩
end
end L3
namespace Far
variable {B:List Arc}{A:List (Nat × Nat × Int)}{n s:Nat}
structure Run (B:List Arc)(s:Nat)(cs:List (Option (Int × Int)))(as:List (Option Nat)):Prop where
 len:as.length=cs.length
 start:get cs s=some (0,0)
 root:get as s=none
 has:∀ v c,get cs v=some c->v≠s->get as v≠none
 arc:∀ v u,get as v=some u->∃ l k cu cv,(u,v,l,k)∈B/\get cs u=some cu/\get cs v=some cv/\¬ lt2 cv (cu.1+l,cu.2+2^k)
theorem Run.step {u v:Nat}{l:Int}{k:Nat}{cs:List (Option (Int × Int))}{as:List (Option Nat)}{c:Int × Int}(P:Pos A)(g:Good A n s cs)(a:Run B s cs as)(m:(u,v,l)∈A)(mB:(u,v,l,k)∈B)(hv:v<n)(hu:get cs u=some c)
  (h:get cs v=none\/∃ c',get cs v=some c'/\lt2 (c.1+l,c.2+2^k) c'):Run B s (cs.set v (some (c.1+l,c.2+2^k))) (as.set v (some u)):=by
 have hc:v<cs.length:=by rw[g.len];exact hv
 have ha:v<as.length:=by rw[a.len];exact hc
 have l1:=P _ _ _ m
 have c0:=(g.walk _ _ hu).nonneg P
 have vs:v≠s:=λ z=>by
  rw[z] at h
  rcases h with h | ⟨c',h,hl⟩
  ·rw[a.start] at h;cases h
  ·rw[a.start] at h;cases h
   unfold lt2 at hl;simp only at hl;left
 have uv:u≠v:=λ z=>by
  rcases h with h | ⟨c',h,hl⟩
  ·rw[← z,hu] at h;cases h
  ·rw[← z,hu] at h;cases h
   unfold lt2 at hl;simp only at hl;left
 refine⟨by rw[ubs,ubs];exact a.len,by rw[bF hc,uhd (Ne.symm vs)];exact a.start,?_,λ x d e hx=>?_,λ x y e=>?_⟩
 ·rw[bF ha,uhd (Ne.symm vs)];exact a.root
 ·rw[bF ha]
  split
  ·exact λ z=>by cases z
  ·rename_i xv
   rw[bF hc,uhd xv] at e
   exact a.has x d e hx
 ·rw[bF ha] at e
  split at e
  ·rename_i z;subst z;cases e
   refine⟨l,k,c,_,mB,by rw[bF hc,uhd uv];exact hu,by rw[bF hc,uhc rfl],λ z=>?_⟩
   unfold lt2 at z;left
  ·rename_i xv
   obtain⟨l',k',cu,cv,m',e1,e2,hle⟩:=a.arc x y e
   by_cases yv:y=v
   ·subst yv
    refine⟨l',k',_,cv,m',by rw[bF hc,uhc rfl],by rw[bF hc,uhd xv];exact e2,λ z=>?_⟩
    rcases h with h | ⟨c',h,hl⟩
    ·rw[h] at e1;cases e1
    ·rw[h] at e1;cases e1
     unfold lt2 at hl hle z
     simp only at hl hle z
     left
   ·exact⟨l',k',cu,cv,m',by rw[bF hc,uhd yv];exact e1,by rw[bF hc,uhd xv];exact e2,hle⟩
theorem Run.first (hs:s<n):Run B s ((o6 n none).set s (some (0,0))) (o6 n none):=by
 have hl:s<(o6 n (none:Option (Int × Int))).length:=by rw[uai];exact hs
 refine⟨by rw[ubs,uai,uai],by rw[bF hl,uhc rfl],dN _ _,λ v c e hv=>?_,λ v u e=>?_⟩
 ·rw[bF hl,uhd hv,dN] at e;cases e
 ·rw[dN] at e;cases e
def Stab2 (B:List Arc)(cs:List (Option (Int × Int))):Prop:=∀ u v l k c,(u,v,l,k)∈B->get cs u=some c->∃ c',get cs v=some c'/\¬ lt2 (c.1+l,c.2+2^k) c'
def PS2 (c0:List (Option (Int × Int)))(R:Arc->Prop)(cs:List (Option (Int × Int)))(ag:Bool):Prop :=
 (ag=false/\cs=c0/\∀ u v l k c,R (u,v,l,k)->get c0 u=some c->∃ c',get c0 v=some c'/\¬ lt2 (c.1+l,c.2+2^k) c')\/(ag=true/\mu cs<mu c0)
def plusA (R:Arc->Prop)(a:Arc):Arc->Prop:=λ b=>R b\/b=a
section
variable {c0 cs:List (Option (Int × Int))}{R R':Arc->Prop}{ag:Bool}{u v k:Nat}{l:Int}
theorem PS2.less (h:PS2 c0 R cs ag)(z:∀ a,R' a->R a):PS2 c0 R' cs ag:=h.elim (λ ⟨a,b,c⟩=>.inl ⟨a,b,λ u v l k c' y=>c u v l k c' (z _ y)⟩) .inr
theorem PS2.no (h:PS2 c0 R cs ag)(hu:get cs u=none):PS2 c0 (plusA R (u,v,l,k)) cs ag:=by
 rcases h with ⟨a,b,c⟩ | h
 ·refine .inl ⟨a,b,λ u' v' l' k' c' z e=>?_⟩
  rcases z with z | z
  ·exact c _ _ _ _ _ z e
  ·cases z;rw[← b,hu] at e;cases e
 ·exact .inr h
theorem PS2.old (h:PS2 c0 R cs ag){c d:Int × Int}(hu:get cs u=some c)(hv:get cs v=some d)(hn:¬ lt2 (c.1+l,c.2+2^k) d):PS2 c0 (plusA R (u,v,l,k)) cs ag:=by
 rcases h with ⟨a,b,z⟩ | h
 ·refine .inl ⟨a,b,λ u' v' l' k' c' y e=>?_⟩
  rcases y with y | y
  ·exact z _ _ _ _ _ y e
  ·cases y
   subst b
   rw[hu] at e;cases e
   exact⟨d,hv,hn⟩
 ·exact .inr h
theorem PS2.put (h:PS2 c0 R cs ag){cs':List (Option (Int × Int))}(hm:mu cs'<mu cs):PS2 c0 (plusA R (u,v,l,k)) cs' true:=by
 rcases h with ⟨a,b,c⟩ | h
 ·exact .inr ⟨rfl,by rw[← b];exact hm⟩
 ·exact .inr ⟨rfl,Nat.lt_trans hm h.2⟩
end
theorem Run.best {cs:List (Option (Int × Int))}{as:List (Option Nat)}(P:Pos A)(g:Good A n s cs)(r:Run B s cs as)(st:Stab2 B cs):Best B n s cs as:=by
 refine⟨g.len,by rw[r.len];exact g.len,r.start,r.root,r.has,λ v c e=>(g.walk v c e).nonneg P,st,λ v u e=>?_⟩
 obtain⟨l,k,cu,cv,m,e1,e2,n1⟩:=r.arc v u e
 obtain⟨c',e3,n2⟩:=st _ _ _ _ _ m e1
 rw[e2] at e3;cases e3
 refine⟨l,k,cu,m,e1,?_⟩
 rw[e2]
 congr 1
 unfold lt2 at n1 n2
 simp only at n1 n2
 exact Prod.ext (by show cv.1=cu.1+l;left) (by show cv.2=cu.2+2^k;left)
end Far
namespace L3
open PySem PySem.Spec PyProof.Rows L2
def arcs2B (t:Tie)(k:Nat):List Far.Arc:=[(t.1.toNat,t.2.1.toNat,t.2.2,k),(t.2.1.toNat,t.1.toNat,t.2.2,k)]
def arcsB (ts:List Tie)(ks:List Nat):List Far.Arc:=ks.flatMap λ k=>arcs2B (tieAt ts k) k
theorem arcsB_mem {ts:List Tie}{ks:List Nat}{a:Far.Arc}:a∈arcsB ts ks↔∃ k,k∈ks/\a∈arcs2B (tieAt ts k) k:=by
 unfold arcsB;rw[ufy]
theorem arcs2B_mem {t:Tie}{k:Nat}{a:Far.Arc}:a∈arcs2B t k↔a=(t.1.toNat,t.2.1.toNat,t.2.2,k)\/a=(t.2.1.toNat,t.1.toNat,t.2.2,k):=by
 unfold arcs2B;simp
theorem wO {ts:List Tie}{ks:List Nat}{i k:Nat}(h:ks[i]?=some k){a:Far.Arc}(m:a∈arcsB ts (ks.take (i+1))):a∈arcsB ts (ks.take i)\/a∈arcs2B (tieAt ts k) k:=by
 obtain⟨j,hj,m⟩:=arcsB_mem.mp m
 rw[eI h] at hj
 rcases o9.mp hj with hj | hj
 ·exact .inl (arcsB_mem.mpr ⟨j,hj,m⟩)
 ·rw[j5.mp hj] at m;exact .inr m
theorem gL {n:Int}{ts:List Tie}{ks:List Nat}(ok:WebOk n ts)(ko:KeepOk ts.length ks):Far.Keys (arcsB ts ks):=by
 have at_:∀ {u v l k},(u,v,l,k)∈arcsB ts ks->k<ts.length/\((u=(tieAt ts k).1.toNat/\v=(tieAt ts k).2.1.toNat)\/(u=(tieAt ts k).2.1.toNat/\v=(tieAt ts k).1.toNat))/\l=(tieAt ts k).2.2/\k∈ks:=λ {u v l k} h=>by
  obtain⟨j,hj,m⟩:=arcsB_mem.mp h
  rcases arcs2B_mem.mp m with e | e <;> cases e
  ·exact⟨ko.2 _ hj,.inl ⟨rfl,rfl⟩,rfl,hj⟩
  ·exact⟨ko.2 _ hj,.inr ⟨rfl,rfl⟩,rfl,hj⟩
 refine⟨λ u v l k h=>?_,λ u v l u' v' l' k h h'=>?_,λ u v l k h=>?_,λ u v l k h=>?_,λ u v l k h=>?_⟩
 ·obtain⟨_,e,rfl,hk⟩:=at_ h
  refine arcsB_mem.mpr ⟨k,hk,arcs2B_mem.mpr ?_⟩
  rcases e with ⟨rfl,rfl⟩ | ⟨rfl,rfl⟩
  ·exact .inr rfl
  ·exact .inl rfl
 ·obtain⟨_,e,rfl,_⟩:=at_ h
  obtain⟨_,e',rfl,_⟩:=at_ h'
  refine⟨rfl,?_⟩
  rcases e with ⟨rfl,rfl⟩ | ⟨rfl,rfl⟩ <;> rcases e' with ⟨rfl,rfl⟩ | ⟨rfl,rfl⟩
  ·exact .inl ⟨rfl,rfl⟩
  ·exact .inr ⟨rfl,rfl⟩
  ·exact .inr ⟨rfl,rfl⟩
  ·exact .inl ⟨rfl,rfl⟩
 ·obtain⟨hk,e,_,_⟩:=at_ h
  have:=ok.tie _ (bI hk).2
  rcases e with ⟨rfl,rfl⟩ | ⟨rfl,rfl⟩ <;> left
 ·obtain⟨hk,_,e,_⟩:=at_ h
  have:=ok.tie _ (bI hk).2
  left
 ·obtain⟨hk,_⟩:=at_ h
  have:=ok.few
  left
theorem zas {n:Int}{ts:List Tie}{ks:List Nat}(ok:WebOk n ts)(ko:KeepOk ts.length ks){u v k:Nat}{l:Int}(h:(u,v,l,k)∈arcsB ts ks):u<n.toNat/\v<n.toNat:=by
 obtain⟨j,hj,m⟩:=arcsB_mem.mp h
 have:=ok.tie _ (bI (ko.2 j hj)).2
 rcases arcs2B_mem.mp m with e | e <;> cases e <;> left
def spReachedB (K:c6):Sp:=λ vs H Q _=>∃ n ts ks wv kv r,vs=[wv,kv,.int r]/\WK K H n ts ks wv kv/\0<=r/\r<n /\
 ∀ (p lc la:j9)(cvs:List V)(as:List (Option Nat))(cs:List (Option (Int × Int)))(H':Hp),Same H H'->H' p=some (.tup [.ref lc,.ref la])->H' lc=some (.lst cvs)->H' la=some (.lst (as.map oa))->CostL H' cvs cs->Far.Best (arcsB ts ks) n.toNat r.toNat cs as->Q (.ref p) H'
def spTreeB (K:c6):Sp:=λ vs H Q _=>∃ n ts ks wv kv r,vs=[wv,kv,.int r]/\WK K H n ts ks wv kv/\0<=r/\r<n /\
 ∀ (p:j9)(as:List (Option Nat))(cs:List (Option (Int × Int)))(H':Hp),Same H H'->H' p=some (.tup (as.map oa))->Far.Best (arcsB ts ks) n.toNat r.toNat cs as->Q (.ref p) H'
def WayB (H:Hp)(B:List Far.Arc)(n a b:Nat)(v:V):Prop:=∃ cs as,Far.Best B n b cs as/\((v=.non/\Far.get cs a=none)\/∃ t ws c,v=.ref t/\H t=some (.tup (natV ws))/\ws.length<=24/\Far.get cs a=some c/\Far.TPw as b ws.reverse a)
def spWayB (K:c6):Sp:=λ vs H Q _=>∃ n ts ks wv kv a b,vs=[wv,kv,.int a,.int b]/\WK K H n ts ks wv kv/\0<=a/\a<n/\0<=b/\b<n/\∀ v H',Same H H'->WayB H' (arcsB ts ks) n.toNat a.toNat b.toNat v->Q v H'
end L3
namespace HT
open PySem PyProof.Rows
section
variable {prog:m5}{w:ual}{A:uaf}{E:d6->d7->Prop}{s:d7}
abbrev setS (ns:List Int)(m:Nat):Int->Bool:=λ x=>(firstMet (λ i=>ns.getD i 0) m).any λ y=>y==x
abbrev setN (ns:List Int)(m:Nat):Nat:=(firstMet (λ i=>ns.getD i 0) m).length
theorem zC {h:Heap}{t:j9}{xs:Array d6}(it:h.IsTuple t xs)(o:Obj):(h.push o).IsTuple t xs:=let ⟨ob,e,r⟩:=it;⟨ob,b9 _ e,r⟩
end
end HT
namespace L3
open PySem PySem.Spec PyProof.Rows L2
section
variable {X:Cx}
end
theorem fV (ts:List Tie)(ks:List Nat):Far.arcsF (arcsB ts ks)=arcs ts ks:=by
 unfold arcs Far.arcsF arcsB
 rw[List.map_flatMap]
 rfl
theorem nK {n:Int}{ts:List Tie}{ks:List Nat}(ok:WebOk n ts)(ko:KeepOk ts.length ks):Far.Sym (arcs ts ks):=λ u v l h=>by
 rw[← fV] at h ⊢
 obtain⟨k,m⟩:=Far.arcsF_mem.mp h
 exact Far.arcsF_mem.mpr ⟨k,(gL ok ko).sym _ _ _ _ m⟩
def spReachedC (K:c6):Sp:=λ vs H Q _=>∃ n ts ks wv kv r,vs=[wv,kv,.int r]/\WK K H n ts ks wv kv/\0<=r/\r<n /\
 ∀ (p lc la:j9)(cvs:List V)(as:List (Option Nat))(cs:List (Option (Int × Int)))(H':Hp),Same H H'->H' p=some (.tup [.ref lc,.ref la])->H' lc=some (.lst cvs)->H' la=some (.lst (as.map oa))->CostL H' cvs cs->Far.Best (arcsB ts ks) n.toNat r.toNat cs as->Far.Good (arcs ts ks) n.toNat r.toNat cs->Far.Stab (arcs ts ks) cs->Q (.ref p) H'
theorem xC {K:c6}(vs:List V)(H:Hp)(Q:VK)(E:XK)(h:spReachedB K vs H Q E):spReachedC K vs H Q E:=by
 obtain⟨n,ts,ks,wv,kv,r,e,wk,r0,r1,q⟩:=h
 exact⟨n,ts,ks,wv,kv,r,e,wk,r0,r1,λ p lc la cvs as cs H' S h1 h2 h3 cl B _ _=>q p lc la cvs as cs H' S h1 h2 h3 cl B⟩
theorem xB {K:c6}(vs:List V)(H:Hp)(Q:VK)(E:XK)(h:spReached K vs H Q E):spReachedC K vs H Q E:=by
 obtain⟨n,ts,ks,wv,kv,r,e,wk,r0,r1,q⟩:=h
 exact⟨n,ts,ks,wv,kv,r,e,wk,r0,r1,λ p lc la cvs as cs H' S h1 h2 h3 cl _ g st=>q p lc la cvs _ cs H' S h1 h2 h3 cl g st⟩
theorem za0 {ts:List Tie}{ks:List Nat}{cs:List (Option (Int × Int))}(h:Far.Stab2 (arcsB ts ks) cs):Far.Stab (arcs ts ks) cs:=λ u v l c m e=>by
 rw[← fV] at m
 obtain⟨k,m⟩:=Far.arcsF_mem.mp m
 obtain⟨c',e',n'⟩:=h _ _ _ _ _ m e
 refine⟨c',e',?_⟩
 unfold Far.lt2 at n'
 simp only at n'
 left
theorem zay {n:Int}{ts:List Tie}{ks:List Nat}(ok:WebOk n ts)(ko:KeepOk ts.length ks){u v k:Nat}{l:Int}(h:(u,v,l,k)∈arcsB ts ks):ks.filter (isTB ts u v)=[k]:=by
 have hk:k∈ks/\isTB ts u v k=true:=by
  obtain⟨j,hj,m⟩:=arcsB_mem.mp h
  have tk:=ok.tie _ (bI (ko.2 j hj)).2
  unfold isTB
  rcases arcs2B_mem.mp m with e | e <;> cases e
  ·exact⟨hj,by rw[ug8 (by left),ug8 (by left)];rfl⟩
  ·exact⟨hj,by rw[ug8 (by left),ug8 (by left)];rfl⟩
 have one:∀ j∈ks,isTB ts u v j=true->j=k:=λ j hj p=>by
  have q:=hk.2
  have hjl:=ko.2 j hj
  have hkl:=ko.2 k hk.1
  unfold isTB at p q
  rw[uaj] at p q
  have a1:=ug9 p.1
  have a2:=ug9 p.2
  have b1:=ug9 q.1
  have b2:=ug9 q.2
  exact zG ok hjl hkl (a1.trans b1.symm) (a2.trans b2.symm)
 have nd:ks.Nodup:=ko.1.imp λ h=>j7 h
 have nf:(ks.filter (isTB ts u v)).Nodup:=nd.sublist List.filter_sublist
 have mk:k∈ks.filter (isTB ts u v):=uac.mpr hk
 have all:∀ j∈ks.filter (isTB ts u v),j=k:=λ j hj=>one j (uac.mp hj).1 (uac.mp hj).2
 match e:ks.filter (isTB ts u v) with
 | []=>rw[e] at mk;cases mk
 | [j]=>rw[all j (by rw[e];exact i5)]
 | i::j::r =>
  rw[e] at nf all
  have h1:=all i i5
  have h2:=all j (i7 _ i5)
  exact absurd (h1.trans h2.symm) (λ z=>(ua2.mp nf).1 (by rw[z];exact i5))
section
variable {own:List Str}{js:List Nat}{g:TG}{te:TE}{σ:L2.St}{Q:VK}{H1:Hp}
end
end L3
namespace HT
open PySem PyProof.Rows
section
variable {prog:m5}{w:ual}{A:uaf}{R:Result->d7->Prop}{I:j9}{fp wr:List j9}{G:Array GenState->Array GenState->Prop}{St:Nat->d7->Prop}{its:List d6}{ns:List Int}
abbrev two8 (b:Int)(t:Tok)(c:Nat):Obj:={ cls:=.type "list",dict:=none,data:=.seq #[.int b t,.int b t] c,slots:=#[] }
def BotOf (ns:List Int)(j:Nat)(b:Int):Prop:=b∈ns/\∀ i,i<=j->i<ns.length->b<=ns.getD i 0
theorem xL (W:WalksS prog w A.in1 I fp wr G its.length (λ i v=>its[i]?=some v) St)(hI:IntsAre its ns)(S:j9)(hSf:S∉fp)(kw:List (Str × d6)):∀ (k j:Nat)(s:d7)(b:Int)(t:Tok)(c:Nat),
  its.length-(j+1)=k->j+1<=its.length->St (j+1) s->BotOf ns j b->s.heap.get? S=some (two8 b t c) ->
  (∀ (b:Int)(t:Tok)(s':d7),b∈ns->(∀ x∈ns,b<=x)->Moved (S::wr) G s s'->R (.ok (.ret (.int b t))) s')->codeAny (v6 prog w) A (.builtin "min.loop" ⟨[.ref I,.none,.ref S],kw⟩) R s:=by
 have nw:S∉wr:=λ h=>hSf (W.sub _ h)
 have up:∀ b∈wr,b∈S::wr:=λ b hb=>.tail _ hb
 have nm:(toString "min"++toString ".loop":String)="min.loop":=by decide
 have off:∀ {b:j9},b∉S::wr->S≠b:=λ hb h=>hb (h ▸ i5)
 have hl:=hI.length
 intro k
 induction k with
 | zero =>
  intro j s b t c hk hj hst top hS hR
  have hin:j+1=its.length:=by left
  refine ubm uek ?_;rw[Around.under_plainId ubx _]
  show j8 _ A.in1 (seqItems? (.ref S) >>= _) _ _ _;refine a9 (ubl hS rfl ?_)
  show j8 _ A.in1 (tryCatch (pyNext (.ref I)) _ >>= _) _ _ _;refine a9 (ueo (W.done s _ _ (hin ▸ hst) λ s1 hm=>?_))
  have hS1:=hm.heap S _ nw hS
  show j8 _ A.in1 (updateSeq S (λ _=>#[]) >>= _) _ _ s1;refine a9 (uef hS1 rfl (a9 (udt (c8 ?_))))
  refine hR b t _ top.1 (λ x hx=>?_) ((hm.mono up).then_heap (tk:=s1.toks) (h9 _) λ b o hb e=>(v8 _ _ (off hb)).trans e)
  obtain⟨i,hi,e⟩:=ud5 hx
  have:=top.2 i (by left) hi
  rw[g9,d8 hi] at this
  rw[← e];exact this
 | succ k ih =>
  intro j s b t c hk hj hst top hS hR
  have hlt:j+1<its.length:=by left
  refine ubm uek ?_;rw[Around.under_plainId ubx _]
  show j8 _ A.in1 (seqItems? (.ref S) >>= _) _ _ _;refine a9 (ubl hS rfl ?_)
  show j8 _ A.in1 (tryCatch (pyNext (.ref I)) _ >>= _) _ _ _;refine a9 (ueo (W.item (j+1) s _ _ hlt hst λ v s1 hP hst1 hm=>?_))
  have hS1:=hm.heap S _ nw hS
  obtain⟨u,rfl⟩:=IntsAre.int_at hI (j+1) v hP
  show j8 _ A.in1 (tryCatch (holding [_,_] (richCompare .Lt _ _ >>= _)) _ >>= _) _ _ s1
  refine a9 (ueo (uam (a9 (lt_int (A:=A.in1) (a9 (uam (ucy (a9 (udt (c8 ?_))))))))))
  have next:∀ m,m<=ns.getD (j+1) 0->m<=b->m∈ns->BotOf ns (j+1) m:=λ m h1 h2 h3=>⟨h3,λ i hi hi2=>by
   rcases ufw i (j+1) with z | z
   ·exact uf2 h2 (top.2 i (by left) hi2)
   ·have:i=j+1:=by left
    subst this;exact h1⟩
  by_cases hb:ns.getD (j+1) 0<b
  ·rw[ug8 hb];simp only [if_true]
   refine a9 (uef hS1 rfl (a9 (udt ?_)));rw[nm]
   have mem:ns.getD (j+1) 0∈ns:=by
    have:j+1<ns.length:=by left
    rw[g9,d8 this];exact udl this
   refine c8 ⟨uc9 ubx _,ih (j+1) _ _ u _ (by left) hlt (W.frame _ s1 _ s1.toks hst1 (h9 _) λ b hbf o e=>(v8 _ _ (λ h:S=b=>hSf (h ▸ hbf))).trans e) (next _ (uav _) (by left) mem) (ua7 _ hS1 rfl) λ b' t' s2 h1 h2 hm2=>?_⟩
   exact hR b' t' s2 h1 h2 (Moved.trans W.gtrans ((hm.mono up).then_heap (tk:=s1.toks) (h9 _) λ b o hb e=>(v8 _ _ (off hb)).trans e) hm2)
  ·rw[uha hb];simp only [ua0,if_false]
   refine a9 (udt ?_);rw[nm]
   refine c8 ⟨uc9 ubx _,ih (j+1) _ b t c (by left) hlt hst1 (next b (by left) (uav _) top.1) hS1 λ b' t' s2 h1 h2 hm2=>?_⟩
   exact hR b' t' s2 h1 h2 (Moved.trans W.gtrans (hm.mono up) hm2)
end
section
variable {prog:m5}{w:ual}{A:uaf}{E:d6->d7->Prop}{s:d7}
theorem zE {id:String}{b:Builtin}{args:Args}{Q:d6->d7->Prop}(hk:builtinKind id=none)(hp:plainId id=true)(hb:entryFor table id=some b)(ha:argsOk id args)
  (hc:j8 (v6 prog w) A.in1 (b args) (λ fin s'=>match fin with
   | .done f=>(match (Except.ok f:Result) with | .ok (.ret v)=>Q v s' | .ok _=>False | .error e=>E e s')
   | .again c'=>c'.quiet=true/\codeAny (v6 prog w) A c' (λ r s'=>match r with | .ok (.ret v)=>Q v s' | .ok _=>False | .error e=>E e s') s') E s):j8 (v6 prog w) A (call (.builtin id) args.pos args.kw) Q E s:=by
 refine ugf (ufh hp hb ?_);simp only [checkBuiltinCall,hk]
 cases hsig:Manifest.signature? id with
 | none=>exact c8 hc
 | some sig =>
  have z:Bind.checkArgs id sig args=pure ():=by simpa only [argsOk,hsig] using ha
  simp only [z];exact c8 hc
theorem xK (a v:d6):argsOk "min" ⟨[a],[(o8 "default",v)]⟩:=by unfold argsOk;kernel_rfl
theorem yM {l:j9}{its:List d6}{ns:List Int}{d:d6}{Q:d6->d7->Prop}(hh:A.in1.handled=none)(hl:s.heap.IsList l its.toArray)(hI:IntsAre its ns)
  (h0:ns=[]->∀ (h':Heap)(tk:Nat),(∀ b o,s.heap.get? b=some o->h'.get? b=some o)->Q d { s with heap:=h',toks:=tk })
  (h1:∀ (b:Int)(t:Tok)(h':Heap)(tk:Nat),b∈ns->(∀ x∈ns,b<=x)->(∀ b o,s.heap.get? b=some o->h'.get? b=some o)->Q (.int b t) { s with heap:=h',toks:=tk }) :
  j8 (v6 prog w) A (call (.builtin "min") [.ref l] [(o8 "default",d)]) Q E s:=by
 have nm:(toString "min"++toString ".loop":String)="min.loop":=by decide
 refine zE (args:=⟨[.ref l],[(o8 "default",d)]⟩) PySem.F.kind_min PySem.F.plain_min PySem.F.entry_min (xK _ _) ?_
 show j8 _ A.in1 (Builtin.Builtins.bindParams "min" ["key","default"] 0 ⟨[],[(o8 "default",d)]⟩ >>= _) _ _ s
 refine a9 (wpAny_of_eq (show Builtin.Builtins.bindParams "min" ["key","default"] 0 ⟨[],[(o8 "default",d)]⟩=pure [none,some d] from rfl) (a9 (c8 ?_)))
 refine a9 (uc1 hl ?_)
 have lt:l<s.heap.objs.size:=by obtain⟨o,e,_⟩:=hl;exact j3 e
 have ne:l≠s.heap.objs.size:=j7 lt
 have W:=(Walks.list (prog:=prog) (w:=w) (A:=A.in1) hh s.heap.objs.size l ne its.toArray).toS
 have nS:s.heap.objs.size+1∉[s.heap.objs.size,l]:=by
  simp only [j0,w6,or_false,not_or];exact⟨uch (ua4 _),uch (ube lt)⟩
 have esz:its.toArray.size=its.length:=i8
 rw[esz] at W
 have eP:(λ (i:Nat) (v:d6)=>its.toArray[i]?=some v)=λ i v=>its[i]?=some v:=by funext i v;simp
 rw[eP] at W
 refine a9 (udw ?_ (w8 _));rw[nm]
 have sz:∀ o:Obj,(s.heap.push o).objs.size=s.heap.objs.size+1:=λ o=>uaz ..
 refine c8 ⟨uc9 ubx _,?_⟩
 rw[sz]
 generalize hg:((s.heap.push { cls:=Value.type "list_iterator",data:=Data.fields #[.ref l,.int 0 0] }).push { cls:=Value.type "list",data:=Data.seq #[] })=g
 have kg:∀ b o,s.heap.get? b=some o->g.get? b=some o:=λ b o e=>by rw[← hg];exact b9 _ (b9 _ e)
 have hS:g.get? (s.heap.objs.size+1)=some { cls:=.type "list",dict:=none,data:=.seq #[] 0,slots:=#[] }:=by rw[← hg,← sz];exact i6 _ rfl
 have st0:g.IsListIter s.heap.objs.size l 0/\g.IsList l its.toArray:=by
  rw[← hg];exact⟨⟨_,b9 _ (i6 _ rfl),rfl,rfl⟩,(hl.push _).push _⟩
 have keep:∀ {s':d7},Moved ((s.heap.objs.size+1)::[s.heap.objs.size]) (λ a b=>b=a) { s with heap:=g } s'->∀ b o,s.heap.get? b=some o->s'.heap.get? b=some o:=λ hm b o e=>by
  have lb:=j3 e
  refine hm.heap b o (λ z=>?_) (kg b o e)
  simp only [j0,w6,or_false] at z
  rcases z with z | z
  ·exact absurd lb (by rw[z];exact Nat.not_lt.mpr (ub8 _))
  ·exact absurd lb (by rw[z];exact ub1 _)
 have hIl:=hI.length
 show codeAny (v6 prog w) A (.builtin "min.loop" ⟨[.ref s.heap.objs.size,.none,.ref (s.heap.objs.size+1)],[(o8 "default",d)]⟩) _ { s with heap:=g }
 refine ubm uek ?_;rw[Around.under_plainId ubx _]
 show j8 _ A.in1 (seqItems? (.ref (s.heap.objs.size+1)) >>= _) _ _ _;refine a9 (ubl hS rfl ?_)
 show j8 _ A.in1 (tryCatch (pyNext (.ref s.heap.objs.size)) _ >>= _) _ _ _
 by_cases e:its.length=0
 ·refine a9 (ueo (W.done { s with heap:=g } _ _ (by rw[e];exact st0) λ s1 hm=>?_))
  have en:ns=[]:=udp.mp (by left)
  rw[Moved.eq_with hm]
  refine a9 (uc0 (c8 ?_))
  exact h0 en _ _ (keep (hm.mono λ b hb=>.tail _ hb))
 ·refine a9 (ueo (W.item 0 { s with heap:=g } _ _ (by left) st0 λ v s1 hP hst1 hm=>?_))
  have nw:s.heap.objs.size+1∉[s.heap.objs.size]:=λ z=>absurd (j5.mp z) (uch (ua4 _))
  have hS1:=hm.heap _ _ nw hS
  obtain⟨u,rfl⟩:=IntsAre.int_at hI 0 v hP
  show j8 _ A.in1 (updateSeq (s.heap.objs.size+1) _ >>= _) _ _ s1
  refine a9 (uef hS1 rfl ?_);rw[nm]
  have off:∀ {b:j9},b∉(s.heap.objs.size+1)::[s.heap.objs.size]->s.heap.objs.size+1≠b:=λ hb h=>hb (h ▸ i5)
  have mem:ns.getD 0 0∈ns:=by
   have:0<ns.length:=by left
   rw[g9,d8 this];exact udl this
  refine c8 ⟨uc9 ubx _,xL W hI _ nS _ _ 0 _ (ns.getD 0 0) u _ rfl (by left) (W.frame _ s1 _ s1.toks hst1 (h9 _) λ b hbf o e=>(v8 _ _ (λ h:s.heap.objs.size+1=b=>nS (by rw[h];exact hbf))).trans e) ⟨mem,λ i hi _=>?_⟩ (ua7 _ hS1 rfl) λ b t s2 q1 q2 hm2=>?_⟩
  ·have:i=0:=by left
   subst this;exact uav _
  ·have hm3:=Moved.trans W.gtrans ((hm.mono λ b hb=>.tail _ hb).then_heap (tk:=s1.toks) (h9 _) λ b o hb e=>(v8 _ _ (off hb)).trans e) hm2
   rw[Moved.eq_with hm3]
   exact h1 b t _ _ q1 q2 (keep hm3)
end
end HT
namespace L3
open PySem PySem.Spec PyProof.Rows L2
def tMinD (t tk:TA):TE:=λ σ H Q=>t σ H λ vs H1=>tk σ H1 λ ws H2=>∃ (p:j9)(ns:List Int)(y:V),vs=[.ref p]/\ws=[y]/\H2 p=some (.lst (ns.map V.int))/\(ns=[]->Q y H2)/\∀ b,b∈ns->(∀ x∈ns,b<=x)->Q (.int b) H2
theorem zbb {X:Cx}{p pos kpos:Pos}{e d:ucg}{t tk:TA}(hc:X.calm=true)(hg:Gl X "min")(hm:X.mg "min"=none)(he:PA X [e] t)(hd:PK X [⟨some (o8 "default"),d,kpos⟩] tk)(hs:ubd [e] X.env=[(false,eval e X.env)]:=by rfl)
  (hall:(backToKw pos (keywordEach [⟨some (o8 "default"),d,kpos⟩] X.env)).filterMap (·.1)=[o8 "default"]:=by rfl):PE X (.Call (.Name "min" p) [e] [⟨some (o8 "default"),d,kpos⟩] pos) (tMinD t tk):=by
 intro pins s σ H Q I h
 refine udx (dE I hg hm (u:=.builtin "min") (by symm) ?_)
 refine callWith_kw (e:=e) (rest:=[]) (thn (he pos pins s σ H _ I h) λ us s1 ⟨vs,H1,I1,r1,q1⟩=>?_) ?a ?b ?c ?d
 case a=>rw[hs];rfl
 case b=>rw[hs];rfl
 case c=>rfl
 case d=>rfl
 refine thn (hd pos pins s1 σ H1 _ I1 q1) λ ws s2 ⟨zs,H2,I2,r2,q2⟩=>?_
 obtain⟨p,ns,y,rfl,rfl,hp,q0,q1⟩:=q2
 obtain⟨u,rfl,ru⟩:=r1.one
 obtain⟨v,rfl,rv⟩:=r2.one
 cases ru
 rw[hall]
 obtain⟨its,rI,pl,hz⟩:=I2.list (SqL.of hp)
 refine HT.yM (show X.A.in1.handled=none from I2.ok.hd hc) pl.isList (cO rI) (λ e h' tk hk=>?_) (λ b t h' tk h1 h2 hk=>?_)
 ·exact⟨y,H2,I2.kept (t':=tk) hk,rv,q0 e⟩
 ·exact⟨.int b,H2,I2.kept (t':=tk) hk,⟨t,rfl⟩,q1 b h1 h2⟩
section
variable {own:List Str}{js:List Nat}{g:TG}{tt:TT}{te:TE}{σ:L2.St}{Q:VK}{H1:Hp}
end
def lvl (ls:List (List Nat))(i:Nat):List Nat:=ls.getD i []
structure LevOk (n:Nat)(ls:List (List Nat)):Prop where
 one:1<=ls.length
 six:ls.length<=6
 first:lvl ls 0=c7 n
 rise:∀ i,(lvl ls i).Pairwise (·<·)
 inn:∀ i,∀ p∈lvl ls i,p<n
 down:∀ i,∀ p∈lvl ls (i+1),p∈lvl ls i
def IsTop (ls:List (List Nat))(w b:Nat):Prop:=b<ls.length/\w∈lvl ls b/\∀ i,i<ls.length->w∈lvl ls i->i<=b
def Bun (ls:List (List Nat))(D:List (Option Int))(w:Nat):Prop:=∃ x,Far.get D w=some x/\∀ b p y,IsTop ls w b->p∈lvl ls (b+1)->Far.get D p=some y->x<y
noncomputable def bunB (ls:List (List Nat))(D:List (Option Int))(w:Nat):Bool:=@decide (Bun ls D w) (Classical.propDecidable _)
def FarsOf (ts:List Tie)(n s:Nat)(D:List (Option Int)):Prop:=D.length=n/\∀ u,u<n->Far.Dst (arcs ts (c7 ts.length)) s u (Far.get D u)
def FarsT (H:Hp)(p lf:j9)(n:Nat)(ts:List Tie):Prop:=∃ ys,H lf=some (.lst ys)/\lf≠p/\ys.length=n/\∀ i v,ys[i]?=some v->∃ l D,v=.ref l/\l≠p/\H l=some (.lst (D.map ov))/\FarsOf ts n i D
end L3
namespace HT
open PySem PyProof.Rows
section
variable {prog:m5}{w:ual}{A:uaf}{R:Result->d7->Prop}{I:j9}{fp wr:List j9}{G:Array GenState->Array GenState->Prop}{St:Nat->d7->Prop}{its:List d6}{ks:List (List Int)}
end
section
variable {prog:m5}{w:ual}{A:uaf}{E:d6->d7->Prop}{s:d7}
end
end HT
namespace L3
open PySem PySem.Spec PyProof.Rows L2
def Adj (ts:List Tie)(ks:List Nat)(u v:Nat):Prop:=∃ k∈ks,(u,v,(tieAt ts k).2.2)∈arcs2 (tieAt ts k)
def en (ts:List Tie)(k:Nat):Nat × Nat:=((tieAt ts k).1.toNat,(tieAt ts k).2.1.toNat)
section
variable {n:Int}{ts:List Tie}{ks:List Nat}{u v k:Nat}
theorem a2_iff {t:Tie}:(u,v,t.2.2)∈arcs2 t↔(u=t.1.toNat/\v=t.2.1.toNat)\/(u=t.2.1.toNat/\v=t.1.toNat):=by
 rw[arcs2_mem]
 refine or_congr ⟨λ e=>?_,λ e=>by rw[e.1,e.2]⟩ ⟨λ e=>?_,λ e=>by rw[e.1,e.2]⟩ <;> (injection e with e1 e2;injection e2 with e2 _;exact⟨e1,e2⟩)
theorem zcu (ok:WebOk n ts)(ko:KeepOk ts.length ks)(u v:Nat)(h:Adj ts ks u v):v<n.toNat:=by
 obtain⟨k,hk,m⟩:=h
 exact (qK ok ko _ _ _ (arcs_mem.mpr ⟨k,hk,m⟩)).2
theorem qS (ok:WebOk n ts)(ko:KeepOk ts.length ks)(p q:Nat):q∈nbN ts ks (p:Int)↔Adj ts ks p q:=by
 unfold nbN
 rw[o9,udo,udo]
 have e1:∀ k∈ks,(nb1 ts (p:Int) k=some q↔p=(tieAt ts k).1.toNat/\q=(tieAt ts k).2.1.toNat):=λ k hk=>by
  have tk:=ok.tie _ (bI (ko.2 k hk)).2
  unfold nb1
  by_cases c:(tieAt ts k).1=(p:Int)
  ·rw[uhc c]
   exact⟨λ z=>⟨by left,(u7 z).symm⟩,λ z=>by rw[z.2]⟩
  ·rw[uhd c]
   exact⟨λ z=>(by cases z),λ z=>absurd (by left) c⟩
 have e2:∀ k∈ks,(nb2 ts (p:Int) k=some q↔p=(tieAt ts k).2.1.toNat/\q=(tieAt ts k).1.toNat):=λ k hk=>by
  have tk:=ok.tie _ (bI (ko.2 k hk)).2
  unfold nb2
  by_cases c:(tieAt ts k).2.1=(p:Int)
  ·rw[uhc c]
   exact⟨λ z=>⟨by left,(u7 z).symm⟩,λ z=>by rw[z.2]⟩
  ·rw[uhd c]
   exact⟨λ z=>(by cases z),λ z=>absurd (by left) c⟩
 constructor
 ·rintro (⟨k,hk,h⟩ | ⟨k,hk,h⟩)
  ·exact⟨k,hk,a2_iff.mpr (.inl ((e1 k hk).mp h))⟩
  ·exact⟨k,hk,a2_iff.mpr (.inr ((e2 k hk).mp h))⟩
 ·rintro ⟨k,hk,h⟩
  rcases a2_iff.mp h with z | z
  ·exact .inl ⟨k,hk,(e1 k hk).mpr z⟩
  ·exact .inr ⟨k,hk,(e2 k hk).mpr z⟩
end
theorem gQ {K:c6}{H:Hp}{p:j9}{ks:List Nat}(h:H p=some (.tup (natV ks))):Is K H (keepD ks) (.ref p):=⟨p,_,rfl,h,by rw[bZ];exact IsAll.ints _⟩
def IsLR (ts:List Tie)(ks:List Nat)(h:Nat)(tl:List Nat):Prop:=Lr.Rg (Adj ts ks) h tl/\Lr.Cano h tl/\(∀ h' tl',Lr.Rg (Adj ts ks) h' tl'->tl.length<=tl'.length)/\∀ h' tl',Lr.Rg (Adj ts ks) h' tl'->Lr.Cano h' tl'->tl'.length=tl.length->Lr.lle (h::tl) (h'::tl')
noncomputable def topN (ls:List (List Nat))(w:Nat):Nat:=@dite _ (∃ b,IsTop ls w b) (Classical.propDecidable _) (λ h=>Classical.choose h) (λ _=>0)
structure IsPiv (ls:List (List Nat))(m:Nat)(D:List (Option Int))(o:Option Nat):Prop where
 no:o=none->∀ q∈lvl ls m,Far.get D q=none
 yes:∀ p,o=some p->p∈lvl ls m/\∃ x,Far.get D p=some x/\∀ q∈lvl ls m,∀ y,Far.get D q=some y->x<=y/\(y=x->topN ls q<=topN ls p/\(topN ls q=topN ls p->p<=q))
def tupI (k:List Int):ubr:=.tuple (k.map .int)
section
variable {own:List Str}{js:List Nat}{g:TG}{tt:TT}{te:TE}{σ:L2.St}{Q:VK}{H1:Hp}
end
noncomputable def pivN (ls:List (List Nat))(m:Nat)(D:List (Option Int)):Nat:=@dite _ (∃ p,IsPiv ls m D (some p)) (Classical.propDecidable _) (λ h=>Classical.choose h) (λ _=>0)
noncomputable def clN (ls:List (List Nat)):Nat->Nat->Nat->Nat->List (Option Int)->List (Option Int)->Int->List (List Int)
 | 0,w,a,b,_,_,x=>[[(w:Int),(a:Int),(b:Int),x]]
 | f+1,w,a,b,Da,Db,x=>[(w:Int),(a:Int),(b:Int),x]::(if bunB ls Db w=true then [] else clN ls f (pivN ls (topN ls w+1) Db) b a Db Da ((Far.get Db (pivN ls (topN ls w+1) Db)).getD 0))
structure Cs (ts:List Tie)(n:Nat)(ls:List (List Nat))(d:Int)(j w a b:Nat)(Da Db:List (Option Int))(x:Int):Prop where
 fa:FarsOf ts n a Da
 fb:FarsOf ts n b Db
 wn:w<n
 an:a<n
 bn:b<n
 xa:Far.get Da w=some x
 lim:x<=j*d
 ab:Far.get Da b=some d
 ba:Far.get Db a=some d
 yb:∃ y,Far.get Db w=some y
 tp:j<=topN ls w
 bu:bunB ls Da w=true
section
variable {n:Int}{ts:List Tie}{ls:List (List Nat)}{d x:Int}{j w a b:Nat}{Da Db:List (Option Int)}
theorem allOk (ts:List Tie):KeepOk ts.length (c7 ts.length):=⟨uaw,λ k hk=>j4.mp hk⟩
end
structure RowsOk (ls:List (List Nat))(n:Nat)(d:Int)(Du Dv:List (Option Int))(rows:List (List Int)):Prop where
 few:rows.length<=ls.length
 lim:∀ (i:Nat)(r:List Int),rows[i]?=some r->∃ p a b x:Int,r=[p,a,b,x]/\x<=i*d
 last:∃ (pre:List (List Int))(w:Nat)(a b x:Int),rows=pre++[[(w:Int),a,b,x]]/\w<n/\bunB ls Du w=true/\bunB ls Dv w=true
def ClimbV (K:c6)(H:Hp)(ls:List (List Nat))(n u v:Nat)(Du Dv:List (Option Int))(r:V):Prop:=(r=.non/\Far.get Du v=none)\/∃ t ys d,r=.ref t/\Far.get Du v=some d/\H t=some (.tup ys)/\IsAll K H ((clN ls ls.length u u v Du Dv 0).map tupI) ys/\RowsOk ls n d Du Dv (clN ls ls.length u u v Du Dv 0)
def FarsM (H:Hp)(lf:j9)(n:Nat)(ts:List Tie):Prop:=∃ ys,H lf=some (.lst ys)/\ys.length=n/\∀ i v,ys[i]?=some v->∃ l D,v=.ref l/\H l=some (.lst (D.map ov))/\FarsOf ts n i D
structure Clb (ts:List Tie)(n:Int)(ls:List (List Nat))(d:Int)(u v:Nat)(Du Dv:List (Option Int))(pre:List (List Int))(w a b:Nat)(Da Db:List (Option Int))(x:Int):Prop where
 cs:Cs ts n.toNat ls d pre.length w a b Da Db x
 sides:(Da=Du/\Db=Dv)\/(Da=Dv/\Db=Du)
 lim:∀ (i:Nat)(r:List Int),(pre++[[(w:Int),(a:Int),(b:Int),x]])[i]?=some r->∃ p a b x:Int,r=[p,a,b,x]/\x<=i*d
 rest:pre++clN ls (ls.length-pre.length) w a b Da Db x=clN ls ls.length u u v Du Dv 0
section
variable {n:Int}{ts:List Tie}{ls:List (List Nat)}{d x:Int}{u v w a b:Nat}{Du Dv Da Db:List (Option Int)}{pre:List (List Int)}
end
section
variable {K:c6}{J J':Hp}{ls:List (List Nat)}{n u v:Nat}{Du Dv:List (Option Int)}{r r1 r2:V}
end
end L3
namespace PySem.SeqAt
open PySem.Spec PySem.MeetsSeq PySem.MeetsSeq2 PySem.MeetsSeq3 PySem.SeqRoads2
open AutoSeq1 (wpAny_loadPart')
end PySem.SeqAt
namespace L3
open PySem PySem.Spec PyProof.Rows L2
section
variable {X:Cx}{o e:ucg}{es:List ucg}{to:TE}{t:TA}{name:Str}{apos cpos:Pos}{id:String}{r:V->List V->Hp->VK->Prop}
end
def bk (hi:Option Int)(n j:Nat):Prop:=(hi=none/\j=0)\/(hi=some 0/\j=1/\1<=n)
section
variable {prog:m5}{w:ual}{A:uaf}{E:d6->d7->Prop}{s:d7}
end
section
variable {X:Cx}{e st:ucg}{te ts:TE}{lo hi:Option ucg}{th:TO}{pos p2:Pos}
end
def WayM (H:Hp)(ts:List Tie)(ks:List Nat)(a b:Nat)(v:V):Prop:=(v=.non/\Far.Dst (arcs ts ks) a b none)\/∃ t ws x,v=.ref t/\H t=some (.tup (natV ws))/\ws.length<=24/\Far.MinW (arcsB ts ks) a b ws/\Far.Tr (arcs ts ks) a ws b x/\Far.Dst (arcs ts ks) a b (some x)
theorem zbx {H:Hp}{n:Int}{m:Nat}{ts:List Tie}{ks:List Nat}{a b:Nat}{v:V}(ok:WebOk n ts)(ko:KeepOk ts.length ks)(h:WayB H (arcsB ts ks) m a b v):WayM H ts ks a b v:=by
 obtain⟨cs,as,B,h⟩:=h
 have KB:=gL ok ko
 have d:=B.dst1 KB a
 rw[fV] at d
 rcases h with ⟨rfl,e⟩ | ⟨t,ws,c,rfl,ht,l24,e,tp⟩
 ·rw[e] at d
  exact .inl ⟨rfl,d.back (nK ok ko)⟩
 ·rw[e] at d
  obtain⟨S,u⟩:=B.uni KB tp e
  have tr:=u.rt.tr
  rw[fV] at tr
  exact .inr ⟨t,ws,c.1,rfl,ht,l24,B.minw KB tp e,tr,d.back (nK ok ko)⟩
def spWayM (K:c6):Sp:=λ vs H Q _=>∃ n ts ks wv kv a b,vs=[wv,kv,.int a,.int b]/\WK K H n ts ks wv kv/\0<=a/\a<n/\0<=b/\b<n/\∀ v H',Same H H'->WayM H' ts ks a.toNat b.toNat v->Q v H'
theorem zcv {K:c6}(vs:List V)(H:Hp)(Q:VK)(E:XK)(h:spWayM K vs H Q E):spWayB K vs H Q E:=by
 obtain⟨n,ts,ks,wv,kv,a,b,e,wk,a0,a1,b0,b1,q⟩:=h
 exact⟨n,ts,ks,wv,kv,a,b,e,wk,a0,a1,b0,b1,λ v H' S h=>q v H' S (zbx wk.2.1 wk.2.2.2 h)⟩
theorem pL {n:Int}{ts:List Tie}{ks:List Nat}(ok:WebOk n ts)(ko:KeepOk ts.length ks){u v k:Nat}{l:Int}(h:(u,v,l,k)∈arcsB ts ks):tbN ts u v=some k:=by
 have h2:(u,v,l,k)∈arcsB ts (c7 ts.length):=by
  obtain⟨k',hk',m⟩:=arcsB_mem.mp h
  exact arcsB_mem.mpr ⟨k',j4.mpr (ko.2 k' hk'),m⟩
 have e:=zay ok (allOk ts) h2
 unfold tbN
 rw[← List.head?_filter,e];rfl
def WaysL (J:Hp)(ts:List Tie)(ks:List Nat)(ys:List V):Prop:=∀ v∈ys,∃ t W a b,v=.ref t/\J t=some (.tup (natV W))/\W.length<=24/\Far.MinW (arcsB ts ks) a b W
theorem sb2 {H J J':Hp}{l:j9}(s:Same H J)(b:But l J J')(f:H l=none):Same H J':=λ c o e=>b _ _ (aP e f) (s _ _ e)
def WKL (K:c6)(H:Hp)(n:Int)(ts:List Tie)(ks:List Nat)(wv:V)(kp:j9):Prop:=Is K H (webD n ts) wv/\WebOk n ts/\H kp=some (.lst ((keepI ks).map V.int))/\KeepOk ts.length ks
def adjK (ts:List Tie)(ks:List Nat)(u v:Nat):Prop:=∃ k,k∈ks/\tbN ts u v=some k
theorem pK (ts:List Tie)(u v:Nat):tbN ts u v=tbN ts v u:=by
 unfold tbN
 congr 1
 funext k
 unfold isTB
 rw[Int.min_comm,Int.max_comm]
theorem adjK.sym {ts:List Tie}{ks:List Nat}(u v:Nat)(h:adjK ts ks u v):adjK ts ks v u:=by
 obtain⟨k,hk,e⟩:=h
 exact⟨k,hk,by rw[pK];exact e⟩
theorem pI {ts:List Tie}{ks:List Nat}{k:Nat}(hk:k∈ks):((tieAt ts k).1.toNat,(tieAt ts k).2.1.toNat,(tieAt ts k).2.2,k)∈arcsB ts ks:=arcsB_mem.mpr ⟨k,hk,arcs2B_mem.mpr (.inl rfl)⟩
def spAlongW (K:c6):Sp:=λ vs H Q _=>∃ (n:Int)(ts:List Tie)(wv:V)(t:j9)(ws:List Nat),vs=[wv,.ref t]/\Is K H (webD n ts) wv/\ts.length<=60/\H t=some (.tup (natV ws))/\ws.length<=25/\linked ts ws/\∀ l H',Same H H'->H' l=some (.lst (natV (alongN ts ws)))->Q (.ref l) H'
def Turn (h:Nat)(tl:List Nat):Prop:=(∀ x∈tl,h<=x)/\∀ u v p q,tl=u::p->tl=q++[v]->u<=v
end L3
namespace Shr
def geo (d:Nat):Nat->Nat
 | 0=>0
 | k+1=>geo d k*d+1
def spr (d k:Nat):Nat:=1+(d+1)*geo d k
def Share (n k d:Nat):Prop:=n<spr d k/\∀ e,e<d->spr e k<=n
end Shr
namespace Lr
open Far (chn dL eO fZ gC RingOf)
section
variable {R:Nat->Nat->Prop}{nb:Nat->List Nat}
end
end Lr
namespace Peel
section
variable {n:Nat}{ts:List T2}{d:Int}
end
end Peel
namespace L3
open PySem PySem.Spec PyProof.Rows L2
section
variable {J:It}{g:TG}{tt:TT}{te:TE}{own:List Str}{js:List Nat}{σ:L2.St}{H1:Hp}{Q:VK}
end
section
variable {g:TG}{te:TE}{own:List Str}{js:List Nat}{σ:L2.St}{H1:Hp}{Q:VK}
end
def RgP (ts:List Tie)(ks w:List Nat)(size:Nat)(r:List Nat):Prop:=∃ h tl,r=h::tl/\Lr.Rg (Adj ts ks) h tl/\Lr.Cano h tl/\r.length=size/\w <+: r
def RowS (ts:List Tie)(ks:List Nat)(j:Nat)(rs:List Nat):Prop:=rs.Pairwise (·<·)/\∀ c,c∈rs↔Adj ts ks j c
def BesS (H:Hp)(l:j9)(n:Nat)(ts:List Tie)(ks:List Nat):Prop:=∃ vs:List V,H l=some (.lst vs)/\vs.length=n/\∀ j,j<n->∃ a rs,vs[j]?=some (.ref a)/\H a=some (.lst (natV rs))/\RowS ts ks j rs
def FewD (n:Int)(ts:List Tie)(ks:List Nat)(k:Nat)(x:Str)(ns:List Nat):Prop:=∃ d,Shr.Share n.toNat k d/\((x="few"/\ns=Peel.gone n.toNat (t2s ts ks) (d:Int)/\∀ q,q<n.toNat->q∈Peel.gone n.toNat (t2s ts ks) (d:Int))\/(x="ring"/\(∃ q,q<n.toNat/\q∉Peel.gone n.toNat (t2s ts ks) (d:Int))/\∃ h tl,ns=h::tl/\IsLR ts ks h tl/\(h::tl).length<=2*k))
end L3
namespace Far
section
variable {A B:List (Nat × Nat × Int)}{s u v:Nat}{x y:Int}
end
end Far
namespace Far
section
variable {G:Nat->Option Int}{len:Nat->Int}
end
end Far
namespace Far
section
variable {A:List (Nat × Nat × Int)}{s:Nat}
end
end Far
namespace L3
open PySem PySem.Spec PyProof.Rows L2
def allIn (ts:List Tie)(ks:List Nat)(t:Int):Prop:=∀ k,k∈outs ts.length ks->withinB t (tieAt ts k).2.2 (gO ts ks k)=true
section
variable {n:Int}{ts:List Tie}{ks:List Nat}{prs:List (Option Int × Int)}
end
section
variable {P:m5}{w:ual}{K:c6}{mg:Str->Option d6}{base:Heap}
def cxL (P:m5)(w:ual)(K:c6)(mg:Str->Option d6)(base:Heap)(N:List Str)(qual:Str)(scope:ueh)(f:j9)(cd:d6)(cl:List (Str × j9))(A:uaf)(outer:List Env)(s:d7)(H:Hp):Cx where
 prog:=P
 w:=w
 K:=K
 mg:=mg
 base:=base
 A:=A.deeper (ugw qual scope s.heap.objs.size f cd cl)
 N:=N
 s₀:=s
 H₀:=H
 env:=ugw qual scope s.heap.objs.size f cd cl
 outer:=outer
 stack:=ugw qual scope s.heap.objs.size f cd cl::outer
 ex:=[]
 fn:=λ _=>false
 calm:=true
 pn:=[]
 xe:=λ _ _=>False
structure LamScope (x y:Str)(sc:ueh):Prop where
 kind:sc.kind=.function
 co:sc.isCoroutine=false
 gen:sc.isGenerator=false
 px:sc.names.lookup x=some .local
 py:sc.names.lookup y=some .free
 nocell:∀ z∈sc.names,z.2≠.cell
 only:∀ z,sc.names.lookup z=some .free->z=y
 ne:x≠y
theorem zbm {x y:Str}{qual:Str}{scope:ueh}{f c:j9}{cd:d6}{A:uaf}{outer:List Env}{s:d7}{H:Hp}{h1:Heap}{u uy:d6}{vx vy:V}{tk:Nat}(S:LamScope x y scope)(hd:A.handled=none)(e0:Env0 P w K mg base A outer s H)
  (hns:h1.Ns s.heap.objs.size (λ z=>[(x,u)].reverse.lookup z)) (hk:∀ b o,s.heap.get? b=some o->h1.get? b=some o) (hc:s.heap.IsCell c (some uy)) (hH:H c=none) (rx:RelV vx u) (ry:RelV vy uy) :
  Inv (cxL P w K mg base [x,y] qual scope f cd [(y,c)] A outer s H) [] [some vx,some vy] H { s with heap:=h1,toks:=tk }:=by
 have look:∀ z c',[(y,c)].lookup z=some c'->z=y/\c'=c:=λ z c' h=>by
  rw[ubc] at h
  cases e:z==y with
  | true=>rw[e] at h;cases h;exact⟨eq_of_beq e,rfl⟩
  | false=>rw[e] at h;cases h
 have hcy:[(y,c)].lookup y=some c:=by rw[ubc];simp
 have hc1:h1.IsCell c (some uy):=let ⟨o,e,r⟩:=hc;⟨o,hk _ _ e,r⟩
 have lc:c<s.heap.objs.size:=by obtain⟨o,e,r⟩:=hc;exact j3 e
 have noA:∀ b:j9,b∉(cxL P w K mg base [x,y] qual scope f cd [(y,c)] A outer s H).ex:=λ b z=>absurd (show b∈([]:List j9) from z) (by simp)
 refine⟨⟨e0.mod,S.kind,rfl,rfl,h9 _,λ z z' c' a b=>(look z c' a).1.trans (look z' c' b).1.symm,λ z hz=>?_,λ z c' hf=>?_,λ _=>hd,Around.frames_deeper e0.frames,.inr ⟨rfl,rfl⟩,λ b z=>absurd z (noA b),e0.bs,e0.bsz,λ b _ _=>noA b,λ b z=>absurd z (noA b),e0.funs,e0.frf⟩,
  rfl,e0.bare,Un.kept hk,⟨_,hns,λ i z v a b hv=>?_⟩,λ z c' a=>?_,e0.hok.fresh (h9 _),λ z c' a=>?_,λ p hp=>absurd (show p∈([]:List (j9 × Obj)) from hp) (by simp),e0.hok.kept hk,rfl⟩
 ·have hz:scope.names.lookup z=some .cell\/scope.names.lookup z=some .free:=hz
  rcases hz with hz | hz
  ·exact absurd rfl (S.nocell _ (ubk hz))
  ·rw[S.only z hz];exact⟨c,hcy⟩
 ·exact absurd (show false=true from hf) j6
 ·match i,a,b with
  | 0,a,b =>
   have ez:x=z:=u7 a
   have ev:vx=v:=u7 (u7 b)
   subst ez ev
   exact⟨u,rx,.inl ⟨S.px,by show [(x,u)].reverse.lookup x=some u;simp⟩⟩
  | 1,a,b =>
   have ez:y=z:=u7 a
   have ev:vy=v:=u7 (u7 b)
   subst ez ev
   exact⟨uy,ry,.inr ⟨.inr S.py,c,hcy,hc1⟩⟩
  | i+2,a,b=>exact absurd (show ([]:List Str)[i]?=some z from a) (by simp)
 ·rw[(look z c' a).2];exact⟨_,hc1⟩
 ·rw[(look z c' a).2];exact hH
theorem zbl {x y:Str}{name qual:Str}{params:Arguments}{body:ucg}{scope:ueh}{f c c':j9}{pm ctv:d6}{A:uaf}{outer:List Env}{s:d7}{H:Hp}{u uy:d6}{vx vy:V}{t:TE}{Q:VK}{k:Nat}(S:LamScope x y scope)(hr:Room (k+1) A)(e0:Env0 P w K mg base A outer s H)
  (ho:s.heap.get? f=some (ubg name qual params body scope [(y,c)] pm c' ctv)) (hcd:s.heap.CodeRec (.ref c') qual) (hb:bindArgs (PySem.W.kla_fn name qual params body scope [(y,c)] pm (.ref c') ctv) ⟨[u],[]⟩=pure [(x,u)])
  (hc:s.heap.IsCell c (some uy)) (hH:H c=none) (rx:RelV vx u) (ry:RelV vy uy) (ht:PE (cxL P w K mg base [x,y] qual scope f (.ref c') [(y,c)] A outer s H) body t) (hq:t [some vx,some vy] H Q) :
  codeAny (v6 P w) A (.call (.ref f) ⟨[u],[]⟩) (CR CX0 outer P w H s Q E0) s:=by
 have lim:s.heap.NoLimit:=e0.mod.nolimit.keeps λ b o e=>(e0.bs b o e).1
 refine PySem.W.kla_callFunE hr.depth ho rfl S.co S.gen rfl hcd ?_
 rw[hb]
 refine c8 (wpAny_newFunctionEnv S.nocell (λ z hz=>?_) (λ h1 hns hsb=>⟨lim.fresh _ hsb,?_⟩) S.kind)
 ·rw[j5.mp hz];exact S.px
 have hk:∀ b o,s.heap.get? b=some o->h1.get? b=some o:=λ b o e=>hsb.extBut b o (j7 (j3 e)) (b9 _ e)
 have I:=zbm (P:=P) (w:=w) (K:=K) (mg:=mg) (base:=base) (qual:=qual) (f:=f) (cd:=.ref c') (tk:=s.toks+1) S hr.hd e0 hns hk hc hH rx ry
 refine PySem.W.kla_codeExpr (ub4 (ht [] _ _ H Q I hq) (λ v s' h=>?_) λ _ _ h=>h.elim)
 obtain⟨v',H',J,rv,q⟩:=h
 exact⟨v',H',J.os,J.bare,J.base,J.hok,rv,q⟩
end
section
variable {X:Cx}{pins:List (j9 × Obj)}{σ:L2.St}{A:uaf}{E:d6->d7->Prop}
def KeyV (H:Hp)(v:V)(k:List Int):Prop:=∃ t,v=.ref t/\H t=some (.tup (k.map V.int))
theorem KeyV.same {H H':Hp}{v:V}{k:List Int}(h:KeyV H v k)(S:Same H H'):KeyV H' v k:=let ⟨t,e,q⟩:=h;⟨t,e,S _ _ q⟩
theorem KeyV.but {H H':Hp}{v:V}{k:List Int}{p:j9}{xs:List V}(h:KeyV H v k)(S:But p H H')(hp:H p=some (.lst xs)):KeyV H' v k:=let ⟨t,e,q⟩:=h;⟨t,e,S _ _ (λ z=>by rw[z,hp] at q;cases q) q⟩
abbrev still (a:j9)(e1:Nat):HO:=.ext λ h=>h.get? a=some (seqObj "list" #[] e1)
theorem xQ {a kS f:j9}{vs:List d6}{xs:List V}{ks:List (List Int)}{e1:Nat}{Hs H0:Hp}{s0:d7}{Pf:PySem.Fin->d7->Prop}(I0:Inv X pins σ H0 s0)(S0:Same Hs H0)(fk:Hs kS=none)(hk0:H0 kS=some (.lst []))(rv:Vals xs vs)(hl:ks.length=vs.length)(h64:vs.length<64)
  (turn:∀ (i:Nat)(x:V)(u:d6)(k:List Int)(H':Hp)(s':d7),xs[i]?=some x->RelV x u->ks[i]?=some k->Inv X pins σ H' s'->Same Hs H'->j8 (v6 X.prog X.w) A (call (.ref f) [u]) (λ r s''=>∃ H'' v,Inv X pins σ H'' s''/\Same H' H''/\RelV v r/\KeyV H'' v k) (λ _ _=>False) s')
  (fin:∀ kvs kA H' s',Inv X pins σ H' s'->Same Hs H'->H' kS=some (.lst kvs)->Vals kvs kA->Paired (KeyV H') kvs ks->j8 (v6 X.prog X.w) A (ksk_end a false vs.toArray e1 (.ref kS) kA.toArray) Pf E s') :
  j8 (v6 X.prog X.w) A (ksk_rest a (.ref f) false vs.toArray e1 (.ref kS)) Pf E s0:=by
 unfold ksk_rest
 refine a9 (uc0 ?_);rw[List.forIn_toArray]
 have lxv:=rv.length
 refine a9 (ksk_fold (λ i s'=>∃ H' kvs,Inv X pins σ H' s'/\Same Hs H'/\H' kS=some (.lst kvs)/\Paired (KeyV H') kvs (ks.take i)) vs 0 s0 ⟨H0,[],I0,S0,hk0,by simpa using Paired.nil⟩ ?step ?done)
 case step =>
  rintro j u s' hu ⟨H',kvs,I,S,hk,hp⟩
  simp only [Nat.zero_add] at hp ⊢
  have hj:j<vs.length:=(m9.mp hu).1
  have hx:xs[j]?=some xs[j]:=d8 (by left)
  obtain⟨u',hu',ru⟩:=rv.get hx
  rw[hu] at hu';cases hu'
  have hkj:ks[j]?=some ks[j]:=d8 (by left)
  refine a9 (uc8 (ub4 (turn j _ u _ H' s' hx ru hkj I S) (λ r s2 h=>?_) λ _ _ h=>h.elim))
  obtain⟨H2,v,I2,S2,rr,kv⟩:=h
  have hk2:=S2 _ _ hk
  obtain⟨z,its,n,r2,hl2,e2⟩:=I2.lstM hk2
  have lk:kvs.length<=j:=by have:=hp.length;rw[uc3] at this;left
  have fits:kvs.length+1<=v5:=by rw[ubj];left
  dsimp only
  refine a9 (listUpdate_at e2 rfl ?_ (by rw[i8,← hl2];exact z) (by rw[Array.size_push,i8,← hl2];exact uas fits (ub8 _)))
  have J:=I2.lset (t':=s2.toks) (f:=(·.push r)) (its':=its++[r]) (ys:=kvs++[v]) hk2 e2 (by simp) (r2.append (.cons rr .nil)) (by rw[i9];exact fits)
  refine c8 ⟨rfl,_,kvs++[v],J,λ b o e=>?_,aH,?_⟩
  ·rw[aM (aP e fk)];exact S2 _ _ (S _ _ e)
  ·rw[eI hkj]
   have bb:But kS H2 (upd H2 kS (.lst (kvs++[v]))):=But.upd
   exact Paired.snoc (Paired.mapP hp λ y k h=>(h.same S2).but bb hk2) (kv.but bb hk2)
 case done =>
  rintro s' ⟨H',kvs,I,S,hk,hp⟩
  rw[show ks.take (0+vs.length)=ks from ub9 (by left)] at hp
  obtain⟨z,its,n,r2,hl2,e2⟩:=I.lstM hk
  refine a9 (listItems_at e2 rfl ?_)
  exact fin kvs its H' s' I S hk r2 hp
abbrev rk (ks:List (List Int)):Nat->Int:=Srt.rank ks.length λ i j=>Srt.lexI (ks.getD i []) (ks.getD j [])
theorem vD {a kS:j9}{vs:List d6}{kvs:List V}{kA:List d6}{ks:List (List Int)}{e1:Nat}{H:Hp}{s:d7}{Pf:PySem.Fin->d7->Prop}(I:Inv X pins σ H s)(ha:H a=some (still a e1))(hk:H kS=some (.lst kvs))(rk:Vals kvs kA)(hp:Paired (KeyV H) kvs ks)(hne:∀ k∈ks,k≠[])(hl:ks.length=vs.length)(h64:vs.length<64)
  (fin:∀ (p:Array Nat)(H':Hp)(s':d7)(c:Nat),Srt.Gd vs.length p->Srt.Up (L3.rk ks) p vs.length->Inv X pins σ H' s'->But kS H H'->s'.heap.get? a=some (seqObj "list" #[] e1) ->
   Pf (.done (.ret .none)) { s' with heap:=s'.heap.update a (Obj.mapSeq λ _=>(Srt.outOf vs p).toArray) }) :
  j8 (v6 X.prog X.w) A (ksk_end a false vs.toArray e1 (.ref kS) kA.toArray) Pf E s:=by
 obtain⟨ga,_,_⟩:=(show ObjOk X.prog X.w H s.heap a (still a e1) from I.hok a _ ha)
 obtain⟨z,its,n,r2,hl2,e2⟩:=I.lstM hk
 have lkv:kvs.length=ks.length:=hp.length
 have lkA:kA.length=vs.length:=by rw[← rk.length,lkv,hl]
 have hT:∀ {ys:List V}{ks:List (List Int)}{us:List d6},Paired (KeyV H) ys ks->Vals ys us->Paired (Srt.TupI s.heap) us ks:=by
  intro ys ks us hp
  induction hp generalizing us with
  | nil=>intro rv;cases rv;exact .nil
  | cons r t ih =>
   intro rv
   cases rv with
   | cons r1 r2 =>
    obtain⟨a,rfl,qa⟩:=r
    cases r1
    obtain⟨its',rv',⟨o,e1,e2,n,e3⟩,_⟩:=I.tuple (SqT.of qa)
    exact .cons ⟨a,o,its'.toArray,n,rfl,e1,e2,e3,by simpa using cO rv'⟩ (ih r2)
 have tp:=hT hp rk
 have ne:kS≠a:=λ z=>by rw[z,ha] at hk;cases hk
 have line:(64:Nat)<=v5:=by rw[ubj];decide
 have tail:∀ (st:SortSt)(p:Array Nat),(arrOf st).map (·.2)=(Srt.outOf vs p).toArray->failedOf st=none->Srt.Gd vs.length p->Srt.Up (L3.rk ks) p vs.length->j8 (v6 X.prog X.w) A (ksk_tail a false e1 (.ref kS) st) Pf E s:=by
  intro st p ho hf g u
  unfold ksk_tail
  dsimp only
  refine a9 (listUpdate_at e2 rfl ?_ (by rw[i8,← hl2];exact z) (w8 _))
  have J:=I.lset (t':=s.toks) (f:=λ _=>(#[]:Array d6)) (its':=[]) (ys:=[]) hk e2 rfl .nil (w8 _)
  have ga2:(s.heap.update kS (Obj.mapSeq λ _=>(#[]:Array d6))).get? a=some (seqObj "list" #[] e1):=(v8 s.heap _ ne).trans ga
  refine a9 (udt (a9 (seqEpoch_at ga2 rfl ?_)))
  rw[ho]
  have lo:(Srt.outOf vs p).length=vs.length:=Srt.kG g
  refine a9 (listUpdate_at ga2 rfl ?_ (w8 _) (by simp only [ua0,if_false];rw[i8,lo];left))
  rw[hf]
  simp only [bne_self_eq_false,ua0,if_false]
  exact c8 (fin p _ _ 0 g u J But.upd ga2)
 unfold ksk_end
 simp only [ua0,if_false]
 by_cases h2:vs.length<2
 ·have h2':vs.toArray.size<2:=by rw[i8];exact h2
  simp only [uhc h2']
  refine a9 (c8 ?_)
  rw[StateT.run_pure]
  refine a9 (c8 ?_)
  refine tail (SortSt.mk' general' (kA.toArray.zip vs.toArray) #[] 7 none) (ueu (c7 vs.length)) ?_ rfl (uff _) (λ i j hij hj=>?_)
  ·rw[Srt.mK]
   apply Array.toList_inj.mp
   show ((kA.toArray.zip vs.toArray).map (·.2)).toList=_
   rw[Array.toList_map]
   simp only [Array.toList_zip,List.toList_toArray]
   exact ufz (by left)
  ·have:i=j:=by left
   subst this;exact uav _
 ·have h2':¬ vs.toArray.size<2:=by rw[i8];exact h2
  simp only [uhd h2']
  refine a9 (Srt.nP tp hne (by left) ?_)
  have ask:∀ (i j:Nat)(C:Bool->d7->Prop),i<vs.length->j<vs.length->C (decide (L3.rk ks i<L3.rk ks j)) s->PySem.W.kas_ask X.prog X.w A (tuples' true) kA i j C s:=λ i j C hi hj q=>Srt.pG tp (by left) (by left) (by
   rw[Srt.hO (lt:=λ i j=>Srt.lexI (ks.getD i []) (ks.getD j [])) (λ i=>Srt.eR _) (λ _ _ _ _ _ _=>Srt.fL _ _ _) (λ _ _ _ _ _ _=>Srt.fU _ _ _) (by left) (by left)] at q;exact q)
  refine a9 (ub4 (PySem.W.kat_run (ks:=kA) (vs:=vs) (Q:=λ st' s'=>∃ p:Array Nat,arrOf st'=p.map (PySem.W.kas_item (kA.toArray.zip vs.toArray))/\failedOf st'=none/\s'=s/\Srt.Gd vs.length p/\Srt.Up (L3.rk ks) p vs.length)
   (G:=λ p s'=>s'=s/\Srt.Gd vs.length p/\Srt.Up (L3.rk ks) p vs.length) lkA (by left) h64 (λ p st' s' _ b2 b3 b4=>⟨p,b2,b3,b4.1,b4.2.1,b4.2.2⟩)
   (Srt.pM (r:=L3.rk ks) (λ i j C hi hj q=>ask i j C hi hj q) (by left) λ p g1 u1=>⟨rfl,g1,u1⟩)) ?_ λ _ _ e=>e)
  rintro ⟨⟨⟩,st'⟩ s' ⟨p,har,hf,rfl,g1,u1⟩
  exact tail st' p (PySem.W.kat_snds lkA har) hf g1 u1
theorem zar {H:Hp}{s:d7}{a:j9}{e1:Nat}{xs:List V}(I:Inv X pins σ H s)(ha:H a=some (.lst xs))(e:s.heap.get? a=some (seqObj "list" #[] e1)):Inv X pins σ (upd H a (still a e1)) s :=
 I.write (x:=a) (e:=a) (h':=s.heap) (t':=s.toks) (by rw[ha];exact trivial) (.inl rfl) (λ b u _ q=>q) ⟨_,e⟩ ⟨e,⟨_,e⟩,λ h1 h2 q k=>k _ q⟩
theorem wG {H:Hp}{s:d7}{p f:j9}{xs:List V}{ks:List (List Int)}{Q:VK}(I:Inv X pins σ H s)(hp:H p=some (.tup xs))(h64:xs.length<64)(hl:ks.length=xs.length)(hne:∀ k∈ks,k≠[])
  (turn:∀ (i:Nat)(x:V)(u:d6)(k:List Int)(H':Hp)(s':d7),xs[i]?=some x->RelV x u->ks[i]?=some k->Inv X pins σ H' s'->Same H H'->j8 (v6 X.prog X.w) X.A.in1.in1 (call (.ref f) [u]) (λ r s''=>∃ H'' v,Inv X pins σ H'' s''/\Same H' H''/\RelV v r/\KeyV H'' v k) (λ _ _=>False) s')
  (q:∀ qs:List (V × List Int),qs.Perm (xs.zip ks)->qs.Pairwise (λ a b=>Srt.lexI b.2 a.2=false)->∀ l H',Same H H'->H l=none->H' l=some (.lst (qs.map (·.1)))->Q (.ref l) H') :
  j8 (v6 X.prog X.w) X.A (call (.builtin "sorted") [.ref p] [(o8 "key",.ref f)]) (EP X pins σ Q) E s:=by
 have line:(64:Nat)<=v5:=by rw[ubj];decide
 obtain⟨vs,rv,pl,hz⟩:=I.tuple (SqT.of hp)
 have lv:=rv.length
 obtain⟨o,ho,hc,n,hd⟩:=id pl
 refine call_function_entry_kw kind_sorted plain_sorted entry_sorted (ksk_s1 _ _) ?_
 unfold Builtin.«sorted»
 refine a9 (m:=checkCount "sorted" 1 1 _) (c8 (a9 (wpAny_collect_seq p (.inr rfl) ho hc hd (λ g kg=>?_) (by rw[i8];left))))
 refine a9 (udw ?_ (by rw[z9,i8];left))
 have I1:Inv X pins σ H { s with heap:=g }:=I.kept (t':=s.toks) kg
 have fa:H g.objs.size=none:=I1.hok.fresh (h9 _)
 have eo:(g.push { cls:=.type "list",data:=.seq vs.toArray }).get? g.objs.size=some (seqObj "list" vs.toArray 0):=i6 _ rfl
 have I2:Inv X pins σ (upd H g.objs.size (.lst xs)) { s with heap:=g.push { cls:=.type "list",data:=.seq vs.toArray } }:=I1.laid (t':=s.toks) (λ b u e=>b9 _ e) (h9 _) ⟨by left,vs,0,rv,eo⟩
 have ta:vs.toArray.toList.toArray=vs.toArray:=by simp
 rw[ta]
 show j8 _ _ _ _ _ { s with heap:=g.push { cls:=.type "list",data:=.seq vs.toArray } }
 generalize hg2:g.push { cls:=Value.type "list",data:=Data.seq vs.toArray }=g2 at eo I2
 generalize hga:g.objs.size=a at eo I2 fa
 refine a9 (uam (wpAny_call_entry_kw slot_list_sort ⟨_,eo,rfl⟩ entry_list_sort ?body (ksk_l1 _ _)))
 case body =>
  show j8 (v6 X.prog X.w) X.A.in1.in1 _ _ _ _
  rw[ksk_t1]
  unfold ksk_tree
  refine a9 (listItems_at eo rfl (a9 (listUpdate_at eo rfl ?_ (by rw[i8];left) (w8 _))))
  have J3:=I2.lset (t':=s.toks) (f:=λ _=>(#[]:Array d6)) (its':=[]) (ys:=[]) aH eo rfl .nil (w8 _)
  obtain⟨e1,e3⟩:∃ e1,(g2.update a (Obj.mapSeq λ _=>(#[]:Array d6))).get? a=some (seqObj "list" #[] e1):=⟨_,get?_update_seq eo λ _=>#[]⟩
  have J4:=zar J3 aH e3
  have E4:upd (upd (upd H a (.lst xs)) a (.lst [])) a (still a e1)=upd H a (still a e1):=by rw[oZ,oZ]
  rw[E4] at J4
  refine a9 (seqEpoch_at e3 rfl (a9 (ufn ?_ (by show vs.length<=_;left))))
  refine a9 (udw ?_ (w8 _))
  refine uam ?_
  have J5:Inv X pins σ (upd H a (still a e1)) { s with heap:=(g2.update a (Obj.mapSeq λ _=>(#[]:Array d6))).push (seqObj "tuple" vs.toArray 0) }:=J4.kept (t':=s.toks) λ b u e=>b9 _ e
  generalize hg5:(g2.update a (Obj.mapSeq λ _=>(#[]:Array d6))).push (seqObj "tuple" vs.toArray 0)=g5 at J5
  have f5:(upd H a (still a e1)) g5.objs.size=none:=J5.hok.fresh (h9 _)
  have J6:Inv X pins σ (upd (upd H a (still a e1)) g5.objs.size (.lst [])) { s with heap:=g5.push { cls:=.type "list",data:=.seq #[] } }:=J5.laid (t':=s.toks) (λ b u e=>b9 _ e) (h9 _) ⟨w8 _,[],0,.nil,i6 _ rfl⟩
  have sa:Same H (upd H a (still a e1)):=aQ fa
  refine xQ (f:=f) (ks:=ks) J6 (aQ f5) f5 aH rv (by left) (by left) (λ i x u k H' s' h1 h2 h3 h4 h5=>turn i x u k H' s' h1 h2 h3 h4 (sa.trans h5)) λ kvs kA H' s' I7 S7 hk7 rk7 hp7=>?_
  refine vD I7 (S7 _ _ aH) hk7 rk7 hp7 hne (by left) (by left) λ pp H8 s8 c g1 u1 I8 b8 e8=>⟨_,rfl,?_⟩
  have na:a≠g5.objs.size:=λ z=>by rw[← z,aH] at f5;cases f5
  have ha8:H8 a=some (still a e1):=b8 _ _ na (S7 _ _ aH)
  have out:=get?_update_seq e8 λ _=>(Srt.outOf vs pp).toArray
  have lo:(Srt.outOf vs pp).length=vs.length:=Srt.kG g1
  have pm:(pp.toList.map λ i=>(xs.getD i .non,ks.getD i [])).Perm (xs.zip ks):=by
   have h1:=iA g1 λ i=>(xs.getD i V.non,ks.getD i [])
   have e1:(c7 vs.length).map (λ i=>(xs.getD i V.non,ks.getD i []))=xs.zip ks:=by
    refine uc5 (by simp;left) λ i h1 h2=>?_
    have hi:i<vs.length:=by simpa using h1
    have a1:i<xs.length:=by left
    have a2:i<ks.length:=by left
    simp [uc4,a1,a2]
   rw[e1] at h1
   exact h1
  have pw:(pp.toList.map λ i=>(xs.getD i V.non,ks.getD i [])).Pairwise (λ a b=>Srt.lexI b.2 a.2=false):=by
   rw[uao]
   refine hG g1 u1 λ i j hi hj z=>?_
   have w:=Srt.hO (n:=ks.length) (lt:=λ i j=>Srt.lexI (ks.getD i []) (ks.getD j [])) (λ i=>Srt.eR _) (λ _ _ _ _ _ _=>Srt.fL _ _ _) (λ _ _ _ _ _ _=>Srt.fU _ _ _) (show j<ks.length by left) (show i<ks.length by left)
   rw[uha (Int.not_lt.mpr z)] at w
   exact w.symm
  have ev:(pp.toList.map λ i=>(xs.getD i V.non,ks.getD i [])).map (·.1)=pp.toList.map λ i=>xs.getD i V.non:=by rw[ubo];rfl
  have I9:Inv X pins σ (upd H8 a (.lst ((pp.toList.map λ i=>(xs.getD i V.non,ks.getD i [])).map (·.1)))) { s8 with heap:=s8.heap.update a (Obj.mapSeq λ _=>(Srt.outOf vs pp).toArray) }:=by
   refine I8.write (x:=a) (e:=a) (t':=s8.toks) (by rw[ha8];exact trivial) (.inl rfl) (λ b u hb hu=>(v8 s8.heap _ (Ne.symm hb)).trans hu) ⟨_,out⟩ ⟨?_,Srt.outOf vs pp,_,?_,out⟩
   ·have:=pm.length_eq
    rw[c9,this,uex];left
   ·rw[ev]
    exact fQ rv pp.toList λ i hi=>by have:=dU g1 i hi;left
  refine c8 ⟨_,rfl,.ref a,_,I9,rfl,q _ pm pw a _ (λ b o e=>?_) fa aH⟩
  have nb:b≠a:=aP e fa
  have e5:=sa _ _ e
  have nb5:b≠g5.objs.size:=aP e5 f5
  rw[aM nb]
  exact b8 _ _ nb5 (S7 _ _ e5)
end
section
variable {X:Cx}{pins:List (j9 × Obj)}{σ:L2.St}{H:Hp}{s:d7}
theorem uU {Pt:j9}{ps more:Array d6}{h':Heap}{t':Nat}{H':Hp}(I:Inv X pins σ H s)(hP:H Pt=some (.tbl ps))(hx:ud2 Pt s.heap h')(hn:h'.get? Pt=some (ues (ps++more)))(hP':H' Pt=some (.tbl (ps++more)))
  (low:∀ b,b<s.heap.objs.size->b≠Pt->H' b=H b) (new:∀ b u,s.heap.objs.size<=b->H' b=some u->ObjOk X.prog X.w H' h' b u):Inv X pins σ H' { s with heap:=h',toks:=t' }:=by
 have ne:∀ {b:j9}{o:HO},H b=some o->(∀ qs,o≠.tbl qs)->b≠Pt:=λ e n z=>by rw[z,hP] at e;cases e;exact n _ rfl
 have nn:∀ {b:j9},H b=none->b≠Pt:=λ e z=>by rw[z,hP] at e;cases e
 have stays:∀ {b:j9}{o:HO},H b=some o->(∀ qs,o≠.tbl qs)->H' b=some o:=λ e n=>by rw[low _ (I.hok.lt e) (ne e n)];exact e
 refine I.un ⟨λ b o e n _ _=>hx b o (nn n) e,λ b o e n _ _=>⟨o.slots,hx b o (nn n) e⟩,λ b o e n _=>by rw[low b (j3 e) (nn n)];exact n,λ b o e _=>?_,λ b xs e=>stays e λ _ z=>(by cases z),λ b o u e=>stays e λ _ z=>(by cases z),λ b qs e=>?_⟩ λ b u e=>?_
 ·by_cases z:b=Pt
  ·subst z;exact⟨_,hn⟩
  ·exact⟨o,hx b o z e⟩
 ·by_cases z:b=Pt
  ·subst z;rw[hP] at e;cases e;exact⟨more,hP'⟩
  ·exact⟨#[],by rw[low b (I.hok.lt e) z,e];simp⟩
 ·by_cases z:b=Pt
  ·subst z;rw[hP'] at e;cases e;exact hn
  ·rcases ufw b s.heap.objs.size with l | l
   ·rw[low b l z] at e
    refine (I.hok b u e).stay (λ c v hc q=>hx c v (λ y=>?_) q) (λ c q=>stays q λ _ z=>(by cases z)) λ c xs q=>stays q λ _ z=>(by cases z)
    rcases hc with hc | hc
    ·exact z (hc.symm.trans y)
    ·exact ne hc (λ _ z=>by cases z) y
   ·exact new b u l e
structure LamHd (mg:Str->Option d6)(base:Heap)(c Pt:j9):Prop where
 code:ud6 base c Pt
 bm:∃ bm ob,mg "__builtins__"=some (.ref bm)/\bm≠builtinsNs/\base.get? bm=some ob/\ob.cls=.type "module"/\ob.dict=some builtinsNs/\ob.data=.plain
def Tb (Pt:j9)(lpos:Pos)(qual:Str)(H:Hp):Prop:=∃ ps,H Pt=some (.tbl ps)/\(ps=#[]\/∃ c',ps=#[rawInt lpos.line,rawInt lpos.col,.ref c']/\H c'=some (.ext λ h=>h.CodeRec (.ref c') qual))
def Tf (Pt:j9)(lpos:Pos)(qual:Str)(H:Hp):Prop:=∃ c',H Pt=some (.tbl #[rawInt lpos.line,rawInt lpos.col,.ref c'])/\H c'=some (.ext λ h=>h.CodeRec (.ref c') qual)
theorem Tf.tb {Pt:j9}{lpos:Pos}{qual:Str}(h:Tf Pt lpos qual H):Tb Pt lpos qual H:=let ⟨c',e,r⟩:=h;⟨_,e,.inr ⟨c',rfl,r⟩⟩
theorem Tf.same {Pt:j9}{lpos:Pos}{qual:Str}{H':Hp}(h:Tf Pt lpos qual H)(S:Same H H'):Tf Pt lpos qual H':=let ⟨c',e,r⟩:=h;⟨c',S _ _ e,S _ _ r⟩
theorem Tb.same {Pt:j9}{lpos:Pos}{qual:Str}{H':Hp}(h:Tb Pt lpos qual H)(S:Same H H'):Tb Pt lpos qual H' :=
 let ⟨ps,e,r⟩:=h;⟨ps,S _ _ e,r.imp id λ ⟨c',e1,e2⟩=>⟨c',e1,S _ _ e2⟩⟩
theorem Tb.but {Pt p:j9}{lpos:Pos}{qual:Str}{H':Hp}{xs:List V}(h:Tb Pt lpos qual H)(S:But p H H')(hp:H p=some (.lst xs)):Tb Pt lpos qual H' :=
 let ⟨ps,e,r⟩:=h;⟨ps,S _ _ (λ z=>by rw[z,hp] at e;cases e) e,r.imp id λ ⟨c',e1,e2⟩=>⟨c',e1,S _ _ (λ z=>by rw[z,hp] at e2;cases e2) e2⟩⟩
theorem zW {c Pt:j9}{params:Arguments}{body:ucg}{scope:ueh}{lpos:Pos}{clos:List (Str × j9)}{E:d6->d7->Prop}{Q:d6->d7->Prop}(I:Inv X pins σ H s)(L:LamHd X.mg X.base c Pt)(hcode:X.env.code=.ref c)(hdef:defaultsOf params X.env=([],[]))(hcl:closureFor scope X.env=pure clos)
  (T:Tb Pt lpos (X.env.qual++"<lambda>") H)
  (h:∀ f c' pm ctv H' s',Inv X pins σ H' s'->But Pt H H'->Tf Pt lpos (X.env.qual++"<lambda>") H'->(Tf Pt lpos (X.env.qual++"<lambda>") H->Same H H')->H f=none->H' f=some (.ext λ g=>g.get? f=some (ubg "<lambda>" (X.env.qual++"<lambda>") params body scope clos pm c' ctv)) ->
   H' c'=some (.ext λ g=>g.CodeRec (.ref c') (X.env.qual++"<lambda>"))->Q (.ref f) s'):j8 (v6 X.prog X.w) X.A (eval (.Lambda params body scope lpos) X.env) Q E s:=by
 obtain⟨ps,hP,hps⟩:=T
 have gP:s.heap.get? Pt=some (ues ps):=I.hok Pt _ hP
 have hg:s.heap.Ns p8 X.mg:=I.ok.mod.glob.keeps I.bk
 have C:ud6 s.heap c Pt:=L.code.keeps I.bk
 have hgP:p8≠Pt:=λ z=>by
  obtain⟨o,es,ep,e,hd,_⟩:=hg
  rw[z,gP] at e;cases e;cases hd
 obtain⟨bm,ob,b1,b2,b3,b4,b5,b6⟩:=L.bm
 have hbP:bm≠Pt:=λ z=>by
  have e:=I.bk _ _ b3
  rw[z,gP] at e;cases e;cases b4
 have hbG:bm≠p8:=λ z=>by
  obtain⟨o,es,ep,e,hd,_⟩:=hg
  have e':=I.bk _ _ b3
  rw[z,e] at e';cases e';rw[hd] at b6;cases b6
 have B:s.heap.BuiltinsAt X.mg Pt:=⟨bm,ob,b1,b2,hbG,hbP,I.bk _ _ b3,b4,b5,b6⟩
 refine PySem.W.kla_eval hdef ?_
 rcases hps with rfl | ⟨c',rfl,hc'⟩
 ·refine PySem.W.kla_makeFunction (mg:=X.mg) hcl I.ok.glob hg hcode C gP trivial rfl hgP B λ c' ctv h' tk hx hge hlt hrec htb=>?_
  have fc:H c'=none:=I.hok.fresh hge
  have lP:Pt<s.heap.objs.size:=j3 gP
  have hsz:s.heap.objs.size<=h'.objs.size:=uea (ubv hge hlt)
  have ff:H h'.objs.size=none:=I.hok.fresh hsz
  have nfc:c'≠h'.objs.size:=j7 hlt
  have nPc:Pt≠c':=j7 (m7 lP hge)
  have nPf:Pt≠h'.objs.size:=j7 (m7 lP hsz)
  have hrec':∀ o:Obj,(h'.push o).CodeRec (.ref c') (X.env.qual++"<lambda>"):=λ o=>let ⟨c2,oc,vs,t,e1,e2,r⟩:=hrec;⟨c2,oc,vs,t,e1,b9 _ e2,r⟩
  have eP:upd (upd (upd H Pt (.tbl #[rawInt lpos.line,rawInt lpos.col,.ref c'])) c' (.ext λ g=>g.CodeRec (.ref c') (X.env.qual++"<lambda>"))) h'.objs.size (.ext λ g=>g.get? h'.objs.size=some (ubg "<lambda>" (X.env.qual++"<lambda>") params body scope clos ((X.mg "__name__").getD .none) c' ctv)) Pt=some (.tbl #[rawInt lpos.line,rawInt lpos.col,.ref c']):=by rw[aM nPf,aM nPc,aH]
  have ec:upd (upd (upd H Pt (.tbl #[rawInt lpos.line,rawInt lpos.col,.ref c'])) c' (.ext λ g=>g.CodeRec (.ref c') (X.env.qual++"<lambda>"))) h'.objs.size (.ext λ g=>g.get? h'.objs.size=some (ubg "<lambda>" (X.env.qual++"<lambda>") params body scope clos ((X.mg "__name__").getD .none) c' ctv)) c'=some (.ext λ g=>g.CodeRec (.ref c') (X.env.qual++"<lambda>")):=by rw[aM nfc,aH]
  refine h h'.objs.size c' _ ctv _ _ (uU (ps:=#[]) (more:=#[rawInt lpos.line,rawInt lpos.col,.ref c']) (t':=tk) I hP (hx.push _) (b9 _ htb) (by rw[eP];simp) (λ b l nb=>?_) (λ b u l e=>?_)) (λ b o nb e=>?_) ⟨c',eP,ec⟩ (λ z=>?_) ff aH ec
  ·rw[aM (j7 (m7 l hsz)),aM (j7 (m7 l hge)),aM nb]
  ·by_cases z:b=h'.objs.size
   ·subst z
    rw[aH] at e;cases e
    have g:(h'.push (ubg "<lambda>" (X.env.qual++"<lambda>") params body scope clos ((X.mg "__name__").getD .none) c' ctv)).get? h'.objs.size=some (ubg "<lambda>" (X.env.qual++"<lambda>") params body scope clos ((X.mg "__name__").getD .none) c' ctv):=i6 _ rfl
    exact⟨g,⟨_,g⟩,λ h1 h2 q k=>k _ q⟩
   ·rw[aM z] at e
    by_cases z2:b=c'
    ·subst z2
     rw[aH] at e;cases e
     obtain⟨c2,oc,vs,t,e1,e2,r⟩:=hrec' (ubg "<lambda>" (X.env.qual++"<lambda>") params body scope clos ((X.mg "__name__").getD .none) b ctv)
     cases e1
     refine⟨⟨_,oc,vs,t,rfl,e2,r⟩,⟨oc,e2⟩,λ h1 h2 q k=>?_⟩
     obtain⟨c2,oc,vs,t,e1,e2,r⟩:=q
     cases e1
     exact⟨_,oc,vs,t,rfl,k _ e2,r⟩
    ·rw[aM z2,aM (λ y=>absurd l (by rw[y];exact Nat.not_le.mpr lP))] at e
     rw[I.hok.fresh l] at e;cases e
  ·rw[aM (aP e ff),aM (aP e fc),aM nb];exact e
  ·obtain⟨c2,z,_⟩:=z
   rw[hP] at z;cases z
 ·refine PySem.W.kla_makeFunctionHit (mg:=X.mg) (cv:=.ref c') hcl I.ok.glob hg hcode C gP (by simp [TriplesOk,rawInt]) (by simp [codeAmong,rawInt]) B λ ctv h' tk hk hsz=>?_
  have J0:Inv X pins σ H { s with heap:=h',toks:=tk }:=I.kept hk
  have ff:H h'.objs.size=none:=J0.hok.fresh (h9 _)
  have g:(h'.push (ubg "<lambda>" (X.env.qual++"<lambda>") params body scope clos ((X.mg "__name__").getD .none) c' ctv)).get? h'.objs.size=some (ubg "<lambda>" (X.env.qual++"<lambda>") params body scope clos ((X.mg "__name__").getD .none) c' ctv):=i6 _ rfl
  have J:=J0.laid (t':=tk) (a:=h'.objs.size) (h':=h'.push (ubg "<lambda>" (X.env.qual++"<lambda>") params body scope clos ((X.mg "__name__").getD .none) c' ctv)) (o:=.ext λ g=>g.get? h'.objs.size=some (ubg "<lambda>" (X.env.qual++"<lambda>") params body scope clos ((X.mg "__name__").getD .none) c' ctv)) (λ b u e=>b9 _ e) (h9 _) ⟨g,⟨_,g⟩,λ h1 h2 q k=>k _ q⟩
  have S:Same H _:=aQ (o:=.ext λ g=>g.get? h'.objs.size=some (ubg "<lambda>" (X.env.qual++"<lambda>") params body scope clos ((X.mg "__name__").getD .none) c' ctv)) ff
  exact h h'.objs.size c' _ ctv _ _ J (Same.but S) ⟨c',S _ _ hP,S _ _ hc'⟩ (λ _=>S) ff aH (S _ _ hc')
def tSortK (Pt:j9)(lpos:Pos)(qual:Str)(i:Nat)(t:TA)(tb:TE):TE:=λ σ H Q=>t σ H λ vs H1=>∃ (p:j9)(xs:List V)(ks:List (List Int))(vy:V),vs=[.ref p]/\H1 p=some (.tup xs)/\xs.length<64/\ks.length=xs.length/\(∀ k∈ks,k≠[])/\σ[i]?=some (some vy)/\Tb Pt lpos qual H1 /\
 (∀ (j:Nat)(x:V)(k:List Int),xs[j]?=some x->ks[j]?=some k->∀ H2,But Pt H1 H2->tb [some x,some vy] H2 λ v H3=>Same H2 H3/\KeyV H3 v k) /\
 ∀ qs:List (V × List Int),qs.Perm (xs.zip ks)->qs.Pairwise (λ a b=>Srt.lexI b.2 a.2=false)->∀ l H',But Pt H1 H'->Tf Pt lpos qual H'->(Tf Pt lpos qual H1->Same H1 H')->H1 l=none->H' l=some (.lst (qs.map (·.1)))->Q (.ref l) H'
theorem zR {c Pt cy:j9}{x y:Str}{i:Nat}{e body:ucg}{params:Arguments}{scope:ueh}{lpos p pos kpos:Pos}{t:TA}{tb:TE}(L:LamHd X.mg X.base c Pt)(hcode:X.env.code=.ref c)(hr:Room 3 X.A)(hg:Gl X "sorted")(hm:X.mg "sorted"=none)(ha:PA X [e] t)
  (S:LamScope x y scope) (hN:X.N[i]?=some y) (hcy:X.env.cells.lookup y=some cy) (hky:X.env.scope.names.lookup y=some .cell) (hcl:closureFor scope X.env=pure [(y,cy)])
  (hb:∀ (pm ctv:d6)(c':j9)(u:d6),bindArgs (PySem.W.kla_fn "<lambda>" (X.env.qual++"<lambda>") params body scope [(y,cy)] pm (.ref c') ctv) ⟨[u],[]⟩=pure [(x,u)])
  (hbody:∀ (A:uaf)(s:d7)(H:Hp)(f c':j9),PE (cxL X.prog X.w X.K X.mg X.base [x,y] (X.env.qual++"<lambda>") scope f (.ref c') [(y,cy)] A X.stack s H) body tb)
  (hdef:defaultsOf params X.env=([],[]):=by rfl) (hs:ubd [e] X.env=[(false,eval e X.env)]:=by rfl)
  (hall:(backToKw pos (keywordEach [⟨some (o8 "key"),.Lambda params body scope lpos,kpos⟩] X.env)).filterMap (·.1)=[o8 "key"]:=by rfl) :
  PE X (.Call (.Name "sorted" p) [e] [⟨some (o8 "key"),.Lambda params body scope lpos,kpos⟩] pos) (tSortK Pt lpos (X.env.qual++"<lambda>") i t tb):=by
 intro pins s σ H Q I h
 refine udx (dE I hg hm (u:=.builtin "sorted") (by symm) ?_)
 refine callWith_kw (e:=e) (rest:=[]) (thn (ha pos pins s σ H _ I h) λ us s1 ⟨vs,H1,I1,r1,q1⟩=>?_) ?a ?b ?c ?d
 case a=>rw[hs];rfl
 case b=>rw[hs];rfl
 case c=>rfl
 case d=>rfl
 obtain⟨pp,xs,ks,vy,rfl,hp,h64,hl,hne,hσ,T,rd,q⟩:=q1
 obtain⟨u,rfl,ru⟩:=r1.one
 cases ru
 refine kws_cons (zW I1 L hcode hdef hcl T λ f c' pm ctv H2 s2 I2 b2 T2 sm2 ff hf hc'=>kws_nil ?_)
 rw[hall]
 have npp:pp≠Pt:=λ z=>by
  obtain⟨ps,e,_⟩:=T
  rw[z,e] at hp;cases hp
 have hp2:=b2 _ _ npp hp
 have T1:=T
 refine wG (ks:=ks) I2 hp2 h64 hl hne (λ j x' u k H' s' hx rx hk I' S'=>?_) λ qs pq wq l H' S' fl el=>q qs pq wq l H' (b2.trans (Same.but S')) (T2.same S') (λ z=>(sm2 z).trans S') ?_ el
 ·have gf:s'.heap.get? f=some _:=(show ObjOk X.prog X.w H' s'.heap f _ from I'.hok f _ (S' _ _ hf)).1
  have gc:s'.heap.CodeRec (.ref c') _:=(show ObjOk X.prog X.w H' s'.heap c' _ from I'.hok c' _ (S' _ _ hc')).1
  obtain⟨m,hns,lk⟩:=I'.loc
  obtain⟨uy,ry,ly⟩:=lk i y vy hN hσ (.inr (.inl hky))
  have cell:s'.heap.IsCell cy (some uy):=by
   rcases ly with ⟨z,_⟩ | ⟨_,c2,e2,ic⟩
   ·have z':X.env.scope.names.lookup y=some .local:=z
    rw[hky] at z';cases z'
   ·rw[hcy] at e2;cases e2;exact ic
  refine ugf (udh (zbl (k:=0) S (hr.in1).in1 I'.env0.in1.in1 gf gc (hb _ _ _ _) cell (I'.freeC y cy hcy) rx ry (hbody _ _ _ _ _) (rd j x' k hx hk H' (b2.trans (Same.but S')))) λ r s3 hq=>?_)
  cases r with
  | error e=>exact hq.elim
  | ok fl =>
   cases fl with
   | ret u3 =>
    obtain⟨v,H3,J3,rv,qv⟩:=I'.after hq
    exact⟨H3,v,J3,qv.1,rv,qv.2⟩
   | next=>exact False.elim hq
   | brk=>exact False.elim hq
   | cont=>exact False.elim hq
 ·cases e:H1 l with
  | none=>rfl
  | some o =>
   by_cases z:l=Pt
   ·subst z
    obtain⟨c2,e',_⟩:=T2
    rw[fl] at e';cases e'
   ·rw[b2 _ _ z e] at fl;cases fl
end
def lamOf:ude->Option (ueh × Pos)
 | .Return (some (.Call _ [.Call _ _ [⟨_,.Lambda _ _ sc p,_⟩] _] _ _)) _=>some (sc,p)
 | _=>none
def lamScopeOf (st:ude):ueh:=match defBody st with
 | [r]=>((lamOf r).map (·.1)).getD (defScope st)
 | _=>defScope st
def lamPosOf (st:ude):Pos:=match defBody st with
 | [r]=>((lamOf r).map (·.2)).getD ⟨0,0,0,0⟩
 | _=>⟨0,0,0,0⟩
def DefOkC (K:c6)(mg:Str->Option d6)(x:Str)(st:ude)(ps:List Str)(c:j9):Prop :=
 ∃ (f:j9)(fd:ub7)(oc:d6)(od:Option j9)(kV doc pm:d6)(an:Option j9)(ct:d6)(osl:Array (Option d6)),fd=ubf x x (defArgs st) (defBody st) (defScope st) .none kV doc pm an (.ref c) ct/\K.lookup f=some ⟨oc,od,.func fd,osl⟩/\ucu K (.ref c) x=true/\ub3 K (.ref f)=true/\Binds K fd ps []/\mg x=some (.ref f)
section
variable {P:m5}{w:ual}{K:c6}{mg:Str->Option d6}{base:Heap}{x:Str}{ps N:List Str}{sp:Sp}{k:Nat}{st:ude}{c:j9}
theorem zcj (D:DefOkC K mg x st ps c)(S:FnScope N ps (defScope st))(len:∀ vs H Q E,sp vs H Q E->vs.length=ps.length)
  (hbody:∀ (f:j9)(A:uaf)(outer:List Env)(s:d7)(H:Hp)(vs:List V)(Q:VK)(E:XK),Room k (A.deeper (envOfC x (defScope st) s.heap.objs.size f (.ref c)))->sp vs H Q E ->
   ∃ t,PSs (cxOf CX0 P w K mg base N x (defScope st) f (.ref c) A outer s H E).nox (defBody st) t/\t { nx:=λ _ H'=>Q .non H',rt:=Q } (start N vs) H):Ok P w K mg base (k+1) x ps sp:=by
 obtain⟨f,fd,oc,od,kV,doc,pm,an,ct,osl,rfl,lk,hcd,kp,b,m⟩:=D
 refine⟨f,_,rH lk hcd S len λ A outer s H vs Q E hr hsp=>?_,b,kp,m⟩
 obtain⟨t,h,q⟩:=hbody f A outer s H vs Q E hr hsp
 exact⟨t,h.nox,q⟩
end
theorem jS {X:Cx}{K:c6}(h:X.K=K):IxR X (rIxT K):=by subst h;exact aU
def okey (ts:List Tie)(k:Nat):List Int:=[(tieAt ts k).2.2,(k:Int)]
def OrdOk (ts:List Tie)(os:List Nat):Prop:=os.Perm (c7 ts.length)/\os.Pairwise λ a b=>Srt.lexI (okey ts b) (okey ts a)=false
def outK (q:V × List Int):Nat:=match q.2 with
 | [_,k]=>k.toNat
 | _=>0
theorem zcb {ts:List Tie}{qs:List (V × List Int)}(p:qs.Perm ((natV (c7 ts.length)).zip ((c7 ts.length).map (okey ts))))(w:qs.Pairwise λ a b=>Srt.lexI b.2 a.2=false):OrdOk ts (qs.map outK):=by
 have ez:(natV (c7 ts.length)).zip ((c7 ts.length).map (okey ts))=(c7 ts.length).map λ k:Nat=>(V.int (k:Int),okey ts k):=by unfold natV;rw[List.zip_map']
 rw[ez] at p
 have mem:∀ q∈qs,q=(V.int ((outK q:Nat):Int),okey ts (outK q)):=λ q hq=>by
  obtain⟨k,_,rfl⟩:=y2.mp (p.mem_iff.mp hq)
  have:outK (V.int (k:Int),okey ts k)=k:=by show ((k:Int)).toNat=k;left
  rw[this]
 refine⟨?_,?_⟩
 ·have:=p.map outK
  rw[ubo] at this
  have e:(c7 ts.length).map (outK ∘ λ k:Nat=>(V.int (k:Int),okey ts k))=c7 ts.length:=by
   rw[show (outK ∘ λ k:Nat=>(V.int (k:Int),okey ts k))=id from funext λ k=>by show ((k:Int)).toNat=k;left]
   exact List.map_id _
  rw[e] at this
  exact this
 ·rw[uao]
  refine w.imp_of_mem λ {a b} ha hb z=>?_
  rw[mem a ha,mem b hb] at z
  exact z
theorem zT {ts:List Tie}{qs:List (V × List Int)}(p:qs.Perm ((natV (c7 ts.length)).zip ((c7 ts.length).map (okey ts)))):qs.map (·.1)=natV (qs.map outK):=by
 have ez:(natV (c7 ts.length)).zip ((c7 ts.length).map (okey ts))=(c7 ts.length).map λ k:Nat=>(V.int (k:Int),okey ts k):=by unfold natV;rw[List.zip_map']
 rw[ez] at p
 unfold natV
 rw[ubo]
 refine udm λ q hq=>?_
 obtain⟨k,_,rfl⟩:=y2.mp (p.mem_iff.mp hq)
 show V.int (k:Int)=V.int (((k:Int).toNat:Nat):Int)
 rfl
abbrev lamQ:Str:=("order_of"++".<locals>.")++"<lambda>"
def spOrd (K:c6)(Pt:j9)(lp:Pos):Sp:=λ vs H Q _=>∃ n ts v,vs=[v]/\Is K H (webD n ts) v/\WebOk n ts/\Tb Pt lp lamQ H/\∀ l os H',OrdOk ts os->But Pt H H'->Tf Pt lp lamQ H'->(Tf Pt lp lamQ H->Same H H')->H l=none->H' l=some (.tup (natV os))->Q (.ref l) H'
end L3
namespace Frs
abbrev T2:=Nat × Nat
inductive Cn (E:List T2)(u:Nat):Nat->Prop
 | nil:Cn E u u
 | snoc {v w:Nat}:Cn E u v->((v,w)∈E\/(w,v)∈E)->Cn E u w
section
variable {E F:List T2}{u v w a b:Nat}
theorem Cn.app (h:Cn E u v)(k:Cn E v w):Cn E u w:=by
 induction k with
 | nil=>exact h
 | snoc _ m ih=>exact .snoc ih m
theorem Cn.back (h:Cn E u v):Cn E v u:=by
 induction h with
 | nil=>exact .nil
 | snoc _ m ih=>exact (Cn.snoc .nil m.symm).app ih
theorem Cn.more (h:Cn E u v)(k:∀ t∈E,t∈F):Cn F u v:=by
 induction h with
 | nil=>exact .nil
 | snoc _ m ih=>exact .snoc ih (m.imp (k _) (k _))
theorem Cn.iff (k:∀ t,t∈E↔t∈F):Cn E u v↔Cn F u v:=⟨λ h=>h.more λ t m=>(k t).mp m,λ h=>h.more λ t m=>(k t).mpr m⟩
theorem Cn.one (m:(a,b)∈E):Cn E a b:=.snoc .nil (.inl m)
theorem cn_more:Cn (E++[(a,b)]) u v↔Cn E u v\/(Cn E u a/\Cn E b v)\/(Cn E u b/\Cn E a v):=by
 have up:∀ {x y},Cn E x y->Cn (E++[(a,b)]) x y:=λ h=>h.more λ t m=>uag _ m
 have ab:Cn (E++[(a,b)]) a b:=.one (r8 _ i5)
 constructor
 ·intro h
  induction h with
  | nil=>exact .inl .nil
  | @snoc v w _ m ih =>
   have split:((v,w)∈E\/(w,v)∈E)\/(v=a/\w=b)\/(v=b/\w=a):=by
    rcases m with m | m
    ·rcases o9.mp m with m | m
     ·exact .inl (.inl m)
     ·have:=j5.mp m;cases this;exact .inr (.inl ⟨rfl,rfl⟩)
    ·rcases o9.mp m with m | m
     ·exact .inl (.inr m)
     ·have:=j5.mp m;cases this;exact .inr (.inr ⟨rfl,rfl⟩)
   rcases split with m | ⟨rfl,rfl⟩ | ⟨rfl,rfl⟩
   ·rcases ih with h | ⟨h1,h2⟩ | ⟨h1,h2⟩
    ·exact .inl (.snoc h m)
    ·exact .inr (.inl ⟨h1,.snoc h2 m⟩)
    ·exact .inr (.inr ⟨h1,.snoc h2 m⟩)
   ·rcases ih with h | ⟨h1,h2⟩ | ⟨h1,h2⟩
    ·exact .inr (.inl ⟨h,.nil⟩)
    ·exact .inr (.inl ⟨h1,.nil⟩)
    ·exact .inl h1
   ·rcases ih with h | ⟨h1,h2⟩ | ⟨h1,h2⟩
    ·exact .inr (.inr ⟨h,.nil⟩)
    ·exact .inl h1
    ·exact .inr (.inr ⟨h1,.nil⟩)
 ·rintro (h | ⟨h1,h2⟩ | ⟨h1,h2⟩)
  ·exact up h
  ·exact (up h1).app (ab.app (up h2))
  ·exact (up h1).app (ab.back.app (up h2))
end
def Mk (n:Nat)(E:List T2)(M:List Nat):Prop:=M.length=n/\∀ u v,u<n->v<n->(M.getD u 0=M.getD v 0↔Cn E u v)
def join (M:List Nat)(p q:Nat):List Nat:=M.map λ m=>if m=q then p else m
theorem join_at {M:List Nat}{p q u:Nat}(h:u<M.length):(join M p q).getD u 0=if M.getD u 0=q then p else M.getD u 0:=by
 unfold join
 rw[g9,k0,g9,d8 h];rfl
section
variable {n:Nat}{E:List T2}{M:List Nat}{a b:Nat}
theorem Mk.first:Mk n [] (c7 n):=by
 refine⟨l7,λ u v hu hv=>?_⟩
 have e:∀ {x},x<n->(c7 n).getD x 0=x:=λ h=>by rw[g9,uba h];rfl
 rw[e hu,e hv]
 constructor
 ·rintro rfl;exact .nil
 ·intro h
  cases h with
  | nil=>rfl
  | snoc _ m=>rcases m with m | m <;> cases m
theorem Mk.same (h:Mk n E M)(ha:a<n)(hb:b<n)(e:M.getD a 0=M.getD b 0):Mk n (E++[(a,b)]) M:=by
 refine⟨h.1,λ u v hu hv=>(h.2 u v hu hv).trans ?_⟩
 rw[cn_more]
 have ab:=(h.2 a b ha hb).mp e
 exact⟨.inl,λ z=>z.elim id λ z=>z.elim (λ z=>z.1.app (ab.app z.2)) λ z=>z.1.app (ab.back.app z.2)⟩
theorem Mk.join (h:Mk n E M)(ha:a<n)(hb:b<n)(ne:M.getD a 0≠M.getD b 0):Mk n (E++[(a,b)]) (join M (M.getD a 0) (M.getD b 0)):=by
 refine⟨by unfold Frs.join;rw[c9];exact h.1,λ u v hu hv=>?_⟩
 rw[join_at (by rw[h.1];exact hu),join_at (by rw[h.1];exact hv),cn_more,← h.2 u v hu hv,← h.2 u a hu ha,← h.2 b v hb hv,← h.2 u b hu hb,← h.2 a v ha hv]
 by_cases c1:M.getD u 0=M.getD b 0 <;> by_cases c2:M.getD v 0=M.getD b 0
 ·rw[uhc c1,uhc c2]
  exact⟨λ _=>.inl (c1.trans c2.symm),λ _=>rfl⟩
 ·rw[uhc c1,uhd c2]
  constructor
  ·intro z;exact .inr (.inr ⟨c1,z⟩)
  ·rintro (z | ⟨_,z⟩ | ⟨_,z⟩)
   ·exact absurd (z.symm.trans c1) c2
   ·exact absurd z.symm c2
   ·exact z
 ·rw[uhd c1,uhc c2]
  constructor
  ·intro z;exact .inr (.inl ⟨z,c2.symm⟩)
  ·rintro (z | ⟨z,_⟩ | ⟨z,_⟩)
   ·exact absurd (z.trans c2) c1
   ·exact z
   ·exact absurd z c1
 ·rw[uhd c1,uhd c2]
  constructor
  ·exact .inl
  ·rintro (z | ⟨_,z⟩ | ⟨z,_⟩)
   ·exact z
   ·exact absurd z.symm c2
   ·exact absurd z c1
end
end Frs
namespace L3
open PySem PySem.Spec PyProof.Rows L2
theorem rM {n:Int}{t:Tie}(tk:0<=t.1/\t.1<t.2.1/\t.2.1<n/\1<=t.2.2/\t.2.2<=10^18):t.1.toNat<n.toNat:=by left
theorem rL {n:Int}{t:Tie}(tk:0<=t.1/\t.1<t.2.1/\t.2.1<n/\1<=t.2.2/\t.2.2<=10^18):t.2.1.toNat<n.toNat:=by left
theorem rO {n:Int}{t:Tie}(tk:0<=t.1/\t.1<t.2.1/\t.2.1<n/\1<=t.2.2/\t.2.2<=10^18):0<=t.2.1:=ucx (ufk tk.1 tk.2.1)
def t2 (ts:List Tie)(k:Nat):Frs.T2:=((tieAt ts k).1.toNat,(tieAt ts k).2.1.toNat)
noncomputable def cnB (ts:List Tie)(ks:List Nat)(k:Nat):Bool:=@decide (Frs.Cn (ks.map (t2 ts)) (t2 ts k).1 (t2 ts k).2) (Classical.propDecidable _)
theorem cnB_iff {ts:List Tie}{ks:List Nat}{k:Nat}:cnB ts ks k=true↔Frs.Cn (ks.map (t2 ts)) (t2 ts k).1 (t2 ts k).2:=by unfold cnB;exact @decide_eq_true_iff _ (Classical.propDecidable _)
noncomputable def rgN (ts:List Tie)(done:List Nat):List Nat->List Nat
 | []=>[]
 | k::r=>if cnB ts done k=true then rgN ts (done++[k]) r else k::rgN ts (done++[k]) r
theorem qO {ts:List Tie}{k:Nat}:∀ {rest done:List Nat},k∈rgN ts done rest↔∃ l r,rest=l++k::r/\cnB ts (done++l) k=false
 | [],done=>⟨λ h=>(by cases h),λ ⟨l,r,e,_⟩=>(by cases l <;> cases e)⟩
 | j::r,done=>by
  have ih:=qO (ts:=ts) (k:=k) (rest:=r) (done:=done++[j])
  have key:k∈rgN ts done (j::r)↔(cnB ts done j=false/\k=j)\/k∈rgN ts (done++[j]) r:=by
   show k∈(if cnB ts done j=true then _ else _)↔_
   by_cases c:cnB ts done j=true
   ·rw[uhc c];exact⟨.inr,λ h=>h.elim (λ z=>by rw[c] at z;cases z.1) id⟩
   ·rw[uhd c,j0]
    exact⟨λ h=>h.imp (λ e=>⟨by simpa using c,e⟩) id,λ h=>h.imp (λ e=>e.2) id⟩
  rw[key,ih]
  constructor
  ·rintro (⟨h,rfl⟩ | ⟨l,r',e,h⟩)
   ·exact⟨[],r,rfl,by simpa using h⟩
   ·exact⟨j::l,r',by rw[e];rfl,by simpa using h⟩
  ·rintro ⟨l,r',e,h⟩
   cases l with
   | nil=>cases e;exact .inl ⟨by simpa using h,rfl⟩
   | cons j' l=>cases e;exact .inr ⟨l,r',rfl,by simpa using h⟩
theorem rg_sub {ts:List Tie}:∀ {rest done:List Nat},(rgN ts done rest).Sublist rest
 | [],_=>.slnil
 | j::r,done=>by
  show (if cnB ts done j=true then _ else _:List Nat).Sublist _
  split
  ·exact .cons _ rg_sub
  ·exact .cons_cons _ rg_sub
def aheadN (ts:List Tie)(k:Nat):List Nat:=(c7 ts.length).filter λ j=>Srt.lexI (okey ts j) (okey ts k)
noncomputable def forestN (ts:List Tie):List Nat:=(c7 ts.length).filter λ k=>!cnB ts (aheadN ts k) k
theorem OrdOk.nodup {ts:List Tie}{os:List Nat}(h:OrdOk ts os):os.Nodup:=h.1.nodup_iff.mpr udk
theorem mL {ts:List Tie}{l r:List Nat}{k:Nat}(h:OrdOk ts (l++k::r))(j:Nat):j∈l↔j∈aheadN ts k:=by
 have nd:=h.nodup
 have pw:=ud0.mp h.2
 have pc:=uce.mp pw.2.1
 have mem:∀ i,i∈l++k::r↔i<ts.length:=λ i=>(h.1.mem_iff).trans j4
 unfold aheadN
 rw[uac,j4]
 constructor
 ·intro hj
  refine⟨(mem j).mp (uag _ hj),?_⟩
  have z:=pw.2.2 j hj k i5
  cases e:Srt.lexI (okey ts j) (okey ts k) with
  | true=>rfl
  | false =>
   have t:=Srt.nZ _ _ e z
   unfold okey at t
   injection t with _ t
   injection t with t
   have:j=k:=by left
   subst this
   exact absurd rfl ((ucm.mp nd).2.2 j hj j i5)
 ·rintro ⟨hj,lt⟩
  rcases o9.mp ((mem j).mpr hj) with z | z
  ·exact z
  ·rcases j0.mp z with rfl | z
   ·rw[Srt.eR] at lt;cases lt
   ·rw[pc.1 j z] at lt;cases lt
theorem qG {ts:List Tie}{ks ks':List Nat}(h:∀ j,j∈ks↔j∈ks')(k:Nat):cnB ts ks k=cnB ts ks' k:=by
 have:∀ t,t∈ks.map (t2 ts)↔t∈ks'.map (t2 ts):=λ t=>by
  rw[y2,y2]
  exact⟨λ ⟨j,a,b⟩=>⟨j,(h j).mp a,b⟩,λ ⟨j,a,b⟩=>⟨j,(h j).mpr a,b⟩⟩
 rw[ubb,cnB_iff,cnB_iff]
 exact Frs.Cn.iff this
theorem wB {ts:List Tie}{os:List Nat}(h:OrdOk ts os)(k:Nat):k∈rgN ts [] os↔k∈forestN ts:=by
 unfold forestN
 rw[qO,uac,j4]
 constructor
 ·rintro ⟨l,r,rfl,e⟩
  refine⟨j4.mp (h.1.mem_iff.mp (r8 _ i5)),?_⟩
  rw[← qG (mL h) k]
  rw[ucn] at e
  rw[e];rfl
 ·rintro ⟨hk,e⟩
  obtain⟨l,r,rfl⟩:=List.append_of_mem (h.1.mem_iff.mpr (j4.mpr hk))
  refine⟨l,r,rfl,?_⟩
  rw[ucn,qG (mL h) k]
  simpa using e
theorem iP (ts:List Tie):(forestN ts).Pairwise (·<·):=uaw.sublist List.filter_sublist
theorem kW {ts:List Tie}{os:List Nat}(h:OrdOk ts os){ms:List Int}(p:ms.Perm (keepI (rgN ts [] os)))(w:ms.Pairwise (·<=·)):ms=keepI (forestN ts):=by
 have nd:(rgN ts [] os).Nodup:=h.nodup.sublist rg_sub
 have pf:(rgN ts [] os).Perm (forestN ts):=(ud7 nd ((iP ts).imp λ h=>j7 h)).mpr λ k=>wB h k
 refine List.Perm.eq_of_pairwise (le:=(·<=·)) (λ a b _ _ h1 h2=>Int.le_antisymm h1 h2) w ?_ (p.trans (by unfold keepI;exact pf.map _))
 unfold keepI
 rw[uao]
 exact (iP ts).imp λ h=>by left
mutual
theorem Is.tbl {K:c6}{H H':Hp}{p:j9}{ps:Array d6}(e:But p H H')(hp:H p=some (.tbl ps)):∀ (d:ubr){v:V},tupD d=true->Is K H d v->Is K H' d v
 | .none,_,_,h=>h
 | .bool _,_,_,h=>h
 | .int _,_,_,h=>h
 | .str _,_,_,h=>h
 | .tuple ds,_,t,h=>let ⟨q,vs,q1,q2,q3⟩:=h;⟨q,vs,q1,e _ _ (λ z=>by subst z;rw[hp] at q2;cases q2) q2,IsAll.tbl e hp ds t q3⟩
 | .list ds,_,t,h=>by cases t
 | .dict _,_,t,h=>by cases t
theorem IsAll.tbl {K:c6}{H H':Hp}{p:j9}{ps:Array d6}(e:But p H H')(hp:H p=some (.tbl ps)):∀ (ds:List ubr){vs:List V},tupAll ds=true->IsAll K H ds vs->IsAll K H' ds vs
 | [],_,_,h=>h
 | d::ds,_,t,h=>by
  have t':(tupD d&&tupAll ds)=true:=t
  rw[uaj] at t'
  obtain⟨v,r,q1,q2,q3⟩:=h
  exact⟨v,r,q1,Is.tbl e hp d t'.1 q2,IsAll.tbl e hp ds t'.2 q3⟩
end
theorem oE {K:c6}{H H':Hp}{Pt:j9}{lp:Pos}{qn:Str}(b:But Pt H H')(t:Tb Pt lp qn H)(d:ubr){v:V}(td:tupD d=true)(h:Is K H d v):Is K H' d v:=let ⟨_,e,_⟩:=t;Is.tbl b e d td h
def spRingless (K:c6):Sp:=λ vs H Q _=>∃ n ts os wv,∃ o:j9,vs=[wv,.ref o]/\Is K H (webD n ts) wv/\WebOk n ts/\(∀ k∈os,k<ts.length)/\os.length<=60/\H o=some (.tup (natV os))/\∀ l H',Same H H'->H l=none->H' l=some (.lst (natV (rgN ts [] os)))->Q (.ref l) H'
def spForest (K:c6)(Pt:j9)(lp:Pos):Sp:=λ vs H Q _=>∃ n ts v,vs=[v]/\Is K H (webD n ts) v/\WebOk n ts/\Tb Pt lp lamQ H/\∀ l H',But Pt H H'->Tf Pt lp lamQ H'->(Tf Pt lp lamQ H->Same H H')->H l=none->H' l=some (.tup (natV (forestN ts)))->Q (.ref l) H'
inductive Trl (ts:List Tie)(u:Nat):Nat->List Nat->Prop
 | nil:Trl ts u u []
 | snoc {v w k:Nat} {es:List Nat}:Trl ts u v es->(v,w,(tieAt ts k).2.2)∈arcs2 (tieAt ts k)->Trl ts u w (es++[k])
def lenE (ts:List Tie)(es:List Nat):Int:=(es.map λ k=>(tieAt ts k).2.2).sum
theorem Trl.append {ts:List Tie}{u v w:Nat}{a b:List Nat}(h:Trl ts u v a)(k:Trl ts v w b):Trl ts u w (a++b):=by
 induction k with
 | nil=>rw[ubi];exact h
 | snoc _ m ih=>rw[← ubp];exact .snoc ih m
structure Pth (ts:List Tie)(ks:List Nat)(s v:Nat)(way es:List Nat):Prop where
 trl:Trl ts s v es
 head:way[0]?=some s
 last:way[way.length-1]?=some v
 nd:way.Nodup
 len:way.length=es.length+1
 ends:∀ e∈es,∀ a b l,(a,b,l)∈arcs2 (tieAt ts e)->a∈way/\b∈way
 nde:es.Nodup
 sub:∀ e∈es,e∈ks
 one:∀ e∈es,∀ b l,(s,b,l)∈arcs2 (tieAt ts e)->way[1]?=some b
end L3
namespace Stb
open PySem
def Asc (xs:Array Nat):Prop:=∀ i j,i<j->j<xs.size->xs.getD i 0<xs.getD j 0
theorem jX (xs:Array Nat)(j:Nat)(asc:Asc xs):∀ (fuel lo hi:Nat),lo<=hi->hi<=xs.size->hi-lo<=fuel->(∀ i,i<lo->xs.getD i 0<j)->(∀ i,hi<=i->i<xs.size->j<=xs.getD i 0) ->
  (∀ i,i<SetTable.below.go xs j fuel lo hi->xs.getD i 0<j)/\(∀ i,SetTable.below.go xs j fuel lo hi<=i->i<xs.size->j<=xs.getD i 0)/\SetTable.below.go xs j fuel lo hi<=xs.size
 | 0,lo,hi,h1,h2,h3,a,b=>by
  have e:lo=hi:=by left
  subst e
  exact⟨a,b,h2⟩
 | fuel+1,lo,hi,h1,h2,h3,a,b=>by
  unfold SetTable.below.go
  by_cases c:lo<hi
  ·rw[uhc c]
   have hm:(lo+hi) / 2<xs.size:=by left
   have eg:xs.getD ((lo+hi) / 2) j=xs.getD ((lo+hi) / 2) 0:=by rw[uau,uau,ubh hm];rfl
   by_cases d:xs.getD ((lo+hi) / 2) j<j
   ·simp only [uhc d]
    refine jX xs j asc fuel _ hi (by left) h2 (by left) (λ i hi'=>?_) b
    rcases ufi (Nat.le_of_lt_succ hi') with z | z
    ·have:=asc i _ z hm;left
    ·rw[z];left
   ·simp only [uhd d]
    refine jX xs j asc fuel lo _ (by left) (by left) (by left) a (λ i hi' hs=>?_)
    rcases ufi hi' with z | z
    ·have:=asc _ i z hs;left
    ·rw[← z];left
  ·rw[uhd c]
   have e:lo=hi:=by left
   subst e
   exact⟨a,b,h2⟩
theorem iV (xs:Array Nat)(j:Nat)(asc:Asc xs):(∀ i,i<SetTable.below xs j->xs.getD i 0<j)/\(∀ i,SetTable.below xs j<=i->i<xs.size->j<=xs.getD i 0)/\SetTable.below xs j<=xs.size:=by
 unfold SetTable.below
 exact jX xs j asc _ 0 xs.size (w8 _) (h9 _) (by left) (λ i h=>by left) (λ i h1 h2=>by left)
theorem wK (xs:Array Nat)(asc:Asc xs){i p:Nat}(h:xs[i]?=some p):SetTable.below xs (p+1)=i+1:=by
 obtain⟨hi,e⟩:=ugd.mp h
 have eg:xs.getD i 0=p:=by rw[uau,h];rfl
 obtain⟨h1,h2,h3⟩:=iV xs (p+1) asc
 rcases uel (SetTable.below xs (p+1)) (i+1) with z | z | z
 ·have:=h2 i (by left) hi;left
 ·exact z
 ·have a:=h1 (i+1) z
  have b:=asc i (i+1) (by left) (by left)
  left
theorem wJ (xs:Array Nat)(asc:Asc xs):SetTable.below xs 0=0:=by
 obtain⟨h1,_,_⟩:=iV xs 0 asc
 rcases ufj (SetTable.below xs 0) with z | z
 ·exact z
 ·have:=h1 0 z;left
theorem Asc.list {xs:Array Nat}:Asc xs↔xs.toList.Pairwise (·<·):=by
 rw[ucj]
 have g:∀ i (h:i<xs.toList.length),xs.getD i 0=xs.toList[i]:=λ i h=>by
  have h':i<xs.size:=by simpa using h
  rw[uau,ubh h'];simp
 constructor
 ·intro a i j hi hj ij
  have:=a i j ij (by simpa using hj)
  rw[g i hi,g j hj] at this
  exact this
 ·intro a i j ij hj
  have hj':j<xs.toList.length:=by simpa using hj
  have:=a i j (by left) hj' ij
  rw[g i (by left),g j hj']
  exact this
theorem wN {xs:Array Nat}{j:Nat}(asc:Asc xs)(new:xs[SetTable.below xs j]?≠some j):Asc (SetTable.insertAt xs (SetTable.below xs j) j):=by
 obtain⟨h1,h2,h3⟩:=iV xs j asc
 rw[Asc.list,SetTable.toList_insertAt]
 have al:=Asc.list.mp asc
 have g:∀ i (h:i<xs.size),xs.getD i 0=xs[i]:=λ i h=>by rw[uau,ubh h];rfl
 have lo:∀ x∈xs.toList.take (SetTable.below xs j),x<j:=λ x hx=>by
  obtain⟨i,hi,e⟩:=ud5 hx
  rw[uc3] at hi
  have hs:i<xs.size:=by simp at hi;left
  have:=h1 i (by left)
  rw[g i hs] at this
  rw[List.getElem_take] at e
  have e':xs[i]=x:=by simpa using e
  left
 have hi:∀ x∈xs.toList.drop (SetTable.below xs j),j<x:=λ x hx=>by
  obtain⟨i,hi,e⟩:=ud5 hx
  rw[uby] at hi
  have hs:SetTable.below xs j+i<xs.size:=by simp at hi;left
  have:=h2 (SetTable.below xs j+i) (by left) hs
  rw[g _ hs] at this
  rw[List.getElem_drop] at e
  have e':xs[SetTable.below xs j+i]=x:=by simpa using e
  rcases ufi this with z | z
  ·left
  ·exfalso
   rcases ufj i with i0 | i0
   ·subst i0
    apply new
    rw[ubh (by left)]
    simp at z
    rw[← z]
   ·have b0:SetTable.below xs j<xs.size:=by left
    have q1:=h2 (SetTable.below xs j) (h9 _) b0
    have q2:=asc (SetTable.below xs j) (SetTable.below xs j+i) (by left) hs
    rw[g _ hs] at q2
    left
 refine ud0.mpr ⟨al.sublist (ufq _ _),uce.mpr ⟨λ x hx=>hi x hx,al.sublist (List.drop_sublist _ _)⟩,λ a ha b hb=>?_⟩
 rcases j0.mp hb with z | z
 ·rw[z];exact lo a ha
 ·have:=lo a ha;have:=hi b z;left
theorem yR (n:Nat):Asc (Array.range n):=by
 rw[Asc.list]
 simpa using uaw
def TI (b:Bool)(t:SetTable):Prop:=Asc t.place/\t.led=b
theorem zJ (b:Bool):TI b (.fresh 0 0 b):=⟨λ i j _ h=>by simp [SetTable.fresh] at h,rfl⟩
theorem gI {b:Bool}{t:SetTable}(h:TI b t)(n:Nat):TI b (t.standIn n):=⟨yR n,h.2⟩
theorem zcx {b:Bool}{t:SetTable}(h:TI b t)(n:Nat):TI b (t.orStandIn n):=by
 unfold SetTable.orStandIn
 split
 ·exact h
 ·exact gI h n
theorem zI {b:Bool}{t:SetTable}(h:TI b t):TI b { t with plain:=false }:=h
theorem nU {t:SetTable}{j:Nat}(h:t.slot j=.empty\/t.slot j=.dummy):t.place[SetTable.below t.place j]?≠some j:=λ e=>by
 unfold SetTable.slot at h
 have c:(t.place[SetTable.below t.place j]?==some j)=true:=by rw[e];simp
 simp only [c,if_true] at h
 rcases h with h | h <;> cases h
theorem iR (t:SetTable)(hashAt:Nat->Int)(h:Int):∀ (f:Nat)(p:SetTable.Probe),(∀ d,p.dummy=some d->t.slot d=.dummy)->∀ j dm,SetTable.probe.go t hashAt h f p=some (.empty j dm)->t.slot j=.empty/\∀ d,dm=some d->t.slot d=.dummy
 | 0,p,_,j,dm,e=>by cases e
 | f+1,p,hp,j,dm,e=>by
  have adv:∀ q:SetTable.Probe,(t.advance q).dummy=q.dummy:=λ q=>by
   unfold SetTable.advance
   split <;> rfl
  unfold SetTable.probe.go at e
  split at e
  ·rename_i hs
   injection e with e
   injection e with e1 e2
   subst e1;subst e2
   exact⟨hs,hp⟩
  ·rename_i hs
   refine iR t hashAt h f _ (λ d hd=>?_) j dm e
   rw[adv] at hd
   have:p.j=d:=by simpa using hd
   rw[← this];exact hs
  ·split at e
   ·cases e
   ·refine iR t hashAt h f _ (λ d hd=>?_) j dm e
    rw[adv] at hd
    exact hp d hd
theorem zae {t:SetTable}{h:Int}{s:Nat}{w:Bool}(e:t.freeSlot h=some (s,w)):t.place[SetTable.below t.place s]?≠some s:=by
 unfold SetTable.freeSlot at e
 split at e
 ·rename_i j dm hm
  unfold SetTable.probe at hm
  obtain⟨h1,h2⟩:=iR t _ h _ _ (λ d hd=>by cases hd) j dm hm
  injection e with e
  injection e with e1 _
  cases dm with
  | none=>exact nU (.inl (by rw[← e1];exact h1))
  | some d=>exact nU (.inr (by rw[← e1];exact h2 d rfl))
 ·cases e
theorem wX {b:Bool}{t:SetTable}(h:TI b t)(es:Array (Int × d6))(k:Int)(x:d6):TI b (layNew t es k x).2.1:=by
 unfold layNew
 split
 ·rename_i s w e
  exact zcx (t:=(t.put s).1) ⟨wN h.1 (zae e),h.2⟩ _
 ·exact gI h _
theorem kI {f:Nat->Option Nat}(hf:∀ j y,f j=some y->y=j):∀ l:List Nat,(l.filterMap f).Sublist l
 | []=>.slnil
 | j::l=>by
  rw[ub6]
  cases e:f j with
  | none=>exact (kI hf l).cons j
  | some y=>rw[hf j y e];exact (kI hf l).cons₂ j
theorem zH {b:Bool}{t:SetTable}(h:TI b t)(es:Array (Int × d6))(wanted:Nat):TI b (relayAll t es wanted).2.1:=by
 unfold relayAll
 split
 ·rename_i t' order e
  dsimp only
  split
  ·unfold SetTable.relaid SetTable.laid at e
   simp only [Option.bind_eq_bind,Option.bind_eq_some_iff] at e
   obtain⟨owner,_,e⟩:=e
   injection e with e
   injection e with e1 _
   rw[← e1]
   refine⟨?_,h.2⟩
   rw[Asc.list]
   simp only [List.map_filterMap]
   refine uaw.sublist (kI (λ j y hy=>?_) _)
   cases c:owner.getD j none with
   | none=>rw[c] at hy;cases hy
   | some z=>rw[c] at hy;exact (u7 hy).symm
  ·exact gI h _
 ·exact gI h _
end Stb
namespace Stb
open PySem PyProof.Rows
def ledOf (w:ual):Bool:=!w.params.followText "set-order"
def TIat (w:ual)(h:Heap)(a:j9):Prop:=∃ o es ep t,h.get? a=some o/\o.data=.set es ep t/\TI (ledOf w) t
abbrev SetT (P:m5)(w:ual)(h:Heap)(a:j9)(S:Int->Bool)(n:Nat):Prop:=h.SetOf (intKind P w) a S n/\TIat w h a
section
variable {prog:m5}{w:ual}{A:uaf}{E:d6->d7->Prop}{s:d7}
theorem SetT.keep {h h':Heap}{a:j9}{S:Int->Bool}{n:Nat}(x:SetT prog w h a S n)(k:∀ o,h.get? a=some o->h'.get? a=some o):SetT prog w h' a S n:=by
 obtain⟨⟨o,es,ep,t,ho,r⟩,o',es',ep',t',ho',r'⟩:=x
 exact⟨⟨o,es,ep,t,k _ ho,r⟩,o',es',ep',t',k _ ho',r'⟩
theorem oA {g:Bool->Sem Unit}(gp:∀ (b:Bool) (z:d7) (U:Unit->d7->Prop),U () z->j8 (v6 prog w) A (g b) U E z){S':Int->Bool}
  {a:j9} {o:Obj} {es es1:Array (Int × d6)} {ep:Nat} {t t2:SetTable} (ho:s.heap.get? a=some o) (ox:o.ExactSet) (od:o.data=.set es ep t)
  (el:ElemsOf (intKind prog w) es1.toList) (me:∀ k,S' k=true↔∃ e∈es1.toList,(intKind prog w).is k e.2=true) (small:es1.size<scanBound) (fit:t2.fits es1.size=true) (ti:TI (ledOf w) t2) {dum:Bool} {R:Option Bool->d7->Prop}
  (fin:∀ h',Heap.SameBut a s.heap h'->SetT prog w h' a S' es1.size->R (some true) { s with heap:=h' }) :
  j8 (v6 prog w) A (do
      storeSet a es1 t2
      if (!dum&&t2.tooFull) = true then do
          g (relayAll t2 es1 (SetTable.grown es1.size)).2.2
          storeSet a (relayAll t2 es1 (SetTable.grown es1.size)).1 (relayAll t2 es1 (SetTable.grown es1.size)).2.1
          pure (some true)
        else pure (some true)) R E s:=by
 refine a9 (ucz ho od ?_ (uc2 small))
 obtain⟨g1,s1⟩:=ue0 (knd:=intKind prog w) ho ox od el me small fit
 have sb:=uax s.heap a (Obj.putSet es1 t2)
 split
 ·have pm:=relayAll_perm t2 es1 (SetTable.grown es1.size)
  have fr:=relayAll_fits t2 es1 (SetTable.grown es1.size)
  have tr:=zH ti es1 (SetTable.grown es1.size)
  generalize relayAll t2 es1 (SetTable.grown es1.size)=Rl at pm fr tr ⊢
  obtain⟨es2,t3,gv⟩:=Rl
  dsimp only at pm fr tr ⊢
  have sz:es2.size=es1.size:=by rw[← z9,pm.length_eq,z9]
  have sm2:es2.size<scanBound:=sz ▸ small
  refine a9 (gp _ _ _ (a9 (ucz g1 rfl ?_ (uc2 sm2))))
  obtain⟨g2,s2⟩:=ue0 (knd:=intKind prog w) g1 ox rfl (el.perm pm) (λ k=>(me k).trans ⟨λ ⟨e,he,q⟩=>⟨e,pm.mem_iff.mpr he,q⟩,λ ⟨e,he,q⟩=>⟨e,pm.mem_iff.mp he,q⟩⟩) sm2 fr
  rw[sz] at s2
  exact c8 (fin _ (sb.trans (uax _ a _)) ⟨s2,_,_,_,_,g2,rfl,tr⟩)
 ·exact c8 (fin _ sb ⟨s1,_,_,_,_,g1,rfl,ti⟩)
theorem rK {a:j9}{S:Int->Bool}{n:Nat}{k:Int}{x:d6}{Q:Bool->d7->Prop}(kx:(intKind prog w).is k x=true)(sx:x.scannable=true)(st:SetT prog w s.heap a S n)(room:n+1<scanBound)
  (fin:∀ h',Heap.SameBut a s.heap h'->SetT prog w h' a (λ y=>S y||decide (y=k)) (if S k then n else n+1)->Q (!S k) { s with heap:=h' }) :
  j8 (v6 prog w) A (setAddHashed a x ((intKind prog w).hash k)) Q E s:=by
 obtain⟨⟨o,es,ep,t,ho,ox,od,el,me,small,fit,en⟩,o',es',ep',t',ho',od',ti⟩:=st
 rw[ho] at ho';cases ho'
 rw[od] at od';cases od'
 have small1:es.size+1<scanBound:=en ▸ room
 unfold setAddHashed setAddHashedIn
 refine uam (a9 (uad ho od fit ?_))
 dsimp only
 rw[byScan_of sx small el,uhc rfl]
 unfold setAddByScan
 refine a9 (a9 (uc0 (a9 (wpAny_setScan_of kx ho od fit el ?_))))
 cases fd:List.findIdx? (λ e=>(intKind prog w).is k e.2) es.toList with
 | some j =>
  dsimp only
  obtain⟨jl,jp,_⟩:=List.findIdx?_eq_some_iff_getElem.mp fd
  have sk:S k=true:=(me k).mpr ⟨es.toList[j],udl jl,jp⟩
  refine c8 (c8 ?_)
  have es0:s={ s with heap:=s.heap }:=by cases s;rfl
  have q:=fin s.heap (ub2 a s.heap) ⟨⟨o,es,ep,t,ho,ox,od,el,λ y=>by
   rw[ucp,decide_eq_true_eq,← me y]
   exact⟨λ z=>z.elim id (λ e=>e ▸ sk),.inl⟩,small,fit,by rw[sk];exact en⟩,o,es,ep,t,ho,od,ti⟩
  rw[sk] at q;rw[es0];exact q
 | none =>
  dsimp only
  have sk:S k=false:=by
   cases c:S k with
   | false=>rfl
   | true=>obtain⟨e,he,hp⟩:=(me k).mp c;have:=List.findIdx?_eq_none_iff.mp fd e he;rw[hp] at this;cases this
  have pm:=layNew_perm t es ((intKind prog w).hash k) x
  have ft:=layNew_fits t es ((intKind prog w).hash k) x
  have tl:=wX ti es ((intKind prog w).hash k) x
  generalize layNew t es ((intKind prog w).hash k) x=L at pm ft tl ⊢
  obtain⟨es1,t1,dum,gv⟩:=L
  dsimp only at pm ft tl ⊢
  rw[Array.toList_push] at pm
  have el1:ElemsOf (intKind prog w) es1.toList:=(el.push kx sx).perm pm
  have me1:∀ y,(S y||decide (y=k))=true↔∃ e∈es1.toList,(intKind prog w).is y e.2=true:=mem_push_iff kx me pm
  have ez:es1.size=es.size+1:=by rw[← z9,pm.length_eq,i9,z9];rfl
  have small2:es1.size<scanBound:=ez ▸ small1
  have gw:∀ (b:Bool)(z:d7)(U:Unit->d7->Prop),U () z->j8 (v6 prog w) A (match b with | true=>rule "set.scan.the-table-gave-way" | false=>pure ()) U E z :=
   λ b z U hq=>by cases b <;> first | exact c8 hq | exact uc0 hq
  refine a9 (gw _ _ _ ?_)
  have last:∀ h',Heap.SameBut a s.heap h'->SetT prog w h' a (λ y=>S y||decide (y=k)) es1.size->Q true { s with heap:=h' }:=λ h' sb z=>by
   have q:=fin h' sb;rw[sk] at q;rw[ez,en] at z;exact q z
  split
  ·refine a9 ?_
   rw[hashByValue_scannable 8 sx]
   refine c8 (oA (λ b z U hq=>?_) ho ox od el1 me1 small2 ?_ ?_ λ h' sb z=>?_)
   ·cases b <;> first | exact c8 hq | exact uc0 hq
   ·split
    ·exact ft
    ·exact SetTable.fits_plain_off ft
   ·split
    ·exact tl
    ·exact zI tl
   ·dsimp only;exact c8 (last h' sb z)
  ·refine a9 (c8 ?_)
   simp only [↓reduceIte]
   refine oA (λ b z U hq=>?_) ho ox od el1 me1 small2 ft tl λ h' sb z=>?_
   ·cases b <;> first | exact c8 hq | exact uc0 hq
   ·dsimp only;exact c8 (last h' sb z)
theorem qW {R:Result->d7->Prop}{I:j9}{fp wr:List j9}{G:Array GenState->Array GenState->Prop}{n:Nat}{P:Nat->d6->Prop}{St:Nat->d7->Prop}(W:WalksS prog w A.in1 I fp wr G n P St)(a:j9)(af:a∉fp)
  (val:Nat->Int) (hv:∀ i v,P i v->∃ t,v=.int (val i) t) (hb:n+1<scanBound) :
  ∀ (k i:Nat)(s:d7),n-i=k->i<=n->St i s->SetT prog w s.heap a (λ y=>(firstMet val i).any (·==y)) (firstMet val i).length ->
   (∀ s',Moved (a::wr) G s s'->SetT prog w s'.heap a (λ y=>(firstMet val n).any (·==y)) (firstMet val n).length->R (.ok (.ret .none)) s') ->
   codeAny (v6 prog w) A (.builtin "set.update.loop" ⟨[.ref a,.ref I],[]⟩) R s:=by
 have aw:a∉wr:=λ h=>af (W.sub _ h)
 have up:∀ b∈wr,b∈a::wr:=λ b hb=>i7 _ hb
 intro k
 induction k with
 | zero =>
  intro i s hk hi st x fin
  obtain rfl:i=n:=by left
  refine ubm uei ?_
  rw[Around.under_plainId uc7 _]
  show j8 _ A.in1 (pyNext (.ref I) >>= _) _ _ s
  refine a9 (W.done s _ _ st λ s' hm=>?_)
  show j8 _ A.in1 (ret Value.none) _ _ s'
  exact c8 (fin s' (hm.mono up) (x.keep λ o e=>hm.heap a o aw e))
 | succ k ih =>
  intro i s hk hi st x fin
  have lt:i<n:=by left
  refine ubm uei ?_
  rw[Around.under_plainId uc7 _]
  show j8 _ A.in1 (pyNext (.ref I) >>= _) _ _ s
  refine a9 (W.item i s _ _ lt st λ v s' hP st' hm=>?_)
  obtain⟨t,rfl⟩:=hv i v hP
  have x':=x.keep (prog:=prog) λ o e=>hm.heap a o aw e
  show j8 _ A.in1 (holding [Value.int (val i) t] (setAdd a (.int (val i) t)) >>= _) _ _ s'
  refine a9 (uam ?_)
  unfold setAdd
  refine uam (a9 ((intKind prog w).pyHash (k:=val i) (intKind_is _ _ _ _) ?_))
  refine rK (s:={ s' with toks:=s'.toks+1 }) (intKind_is _ _ _ _) rfl x' (by have:=firstMet_length_le val i;left) λ h' sb x2=>?_
  have x3:SetT prog w h' a (λ y=>(firstMet val (i+1)).any (·==y)) (firstMet val (i+1)).length :=
   ⟨SetOf_congr x2.1 (λ y=>by rw[firstMet_succ,step_any]) (by rw[firstMet_succ,step_length]),x2.2⟩
  refine c8 ⟨uc9 uc7 _,ih (i+1) _ (by left) lt (W.frame _ s' _ _ st' (ub8 _) λ b hb o e=>?_) x3 λ s'' hm2 x4=>?_⟩
  ·rw[sb.2 b (λ h:b=a=>af (by rw[← h];exact hb))];exact e
  ·refine fin s'' (Moved.trans W.gtrans ((hm.mono up).then_heap (ub8 _) λ b o hb e=>?_) hm2) x4
   rw[sb.2 b (λ h:b=a=>hb (by rw[h];exact i5))];exact e
end
end Stb
namespace Stb
open PySem PyProof.Rows
section
variable {prog:m5}{w:ual}{A:uaf}{E:d6->d7->Prop}{s:d7}
abbrev emp (w:ual):Obj:={ cls:=.type "set",dict:=none,data:=.set #[] 0 (.fresh 0 0 (ledOf w)) }
theorem rG (x:d6){U:d6->d7->Prop}(fin:U (.ref s.heap.objs.size) { s with heap:=s.heap.push (emp w) }) :
  codeAny (v6 prog w) A (.call (.builtin "set.__new__") ⟨[.type "set",x],[]⟩) (wants U E) s:=by
 refine codeAny_of_tree ?_
 show j8 _ A.in1 (checkBuiltinCall "set.__new__" ⟨[.type "set",x],[]⟩ >>= λ _=>again (.builtin "set.__new__" ⟨[.type "set",x],[]⟩)) _ _ s
 refine a9 (wpAny_of_eq (PySem.F.newCall_set_1 x) (c8 ⟨uc9 ug0 _,ubm PySem.F.entry_set_new ?_⟩))
 rw[Around.under_plainId ug0 _]
 unfold Builtin.«set.__new__» Builtin.Frozenset.newClass
 have sub1:=PySem.sub_set_self
 obtain⟨hp,g,d,tk,os⟩:=s
 dsimp only
 wp_walk
 refine ubz (c8 ?_)
 simp only [newObj]
 exact a9 (wpAny_alloc (c8 (c8 fin)))
theorem rJ (h:Heap):SetT prog w (h.push (emp w)) h.objs.size (λ y=>(firstMet (λ i=>([]:List Int).getD i 0) 0).any (·==y)) 0 :=
 ⟨SetOf_congr ((setObjOf_fresh (knd:=intKind prog w) (ledOf w)).setOf (i6 _ rfl) (by unfold scanBound;left)) (λ _=>rfl) rfl,_,_,_,_,i6 _ rfl,rfl,zJ _⟩
theorem zcg {t:j9}{xs:Array d6}{ns:List Int}{Q:d6->d7->Prop}(hh:A.handled=none)(ht:s.heap.IsTuple t xs)(hi:IntsAre xs.toList ns)(hb:xs.size+1<scanBound)
  (fin:∀ (h':Heap)(tk:Nat),SetT prog w h' s.heap.objs.size (HT.setS ns xs.size) (HT.setN ns xs.size)->(∀ b o,b<s.heap.objs.size->s.heap.get? b=some o->h'.get? b=some o)->Q (.ref s.heap.objs.size) { s with heap:=h',toks:=tk }) :
  j8 (v6 prog w) A (call (.type "set") [.ref t]) Q E s:=by
 obtain⟨c,tl,hmro⟩:=uak.mro
 have hmade:=uak.made;have hsub:=uak.sub
 refine ugf (codeAny_of_tree ?_);show j8 _ _ (callAny (.type "set") _) _ _ _
 refine c8 ⟨Code.quiet_builtin _ (by symm),ubm ugh ?_⟩
 rw[Around.under_plain (uf5 "set" [.ref t] []) rfl]
 have h1:=uak.notType;have h2:=uak.canCreate;have hct:=ugr (.ref t)
 repeat (any_goals (first | assumption | wp_step))
 refine udh (rG (.ref t) (E:=E) (U:=λ obj s₁=>obj=.ref s.heap.objs.size/\s₁={ s with heap:=s.heap.push (emp w) }) ⟨rfl,rfl⟩) λ r s₁ hr=>?_
 match r,hr with
 | .error e,hr=>exact hr
 | .ok .next,hr=>exact hr.elim
 | .ok .brk,hr=>exact hr.elim
 | .ok .cont,hr=>exact hr.elim
 | .ok (.ret obj),hr =>
  obtain⟨rfl,rfl⟩:=hr
  have gS:(s.heap.push (emp w)).get? s.heap.objs.size=some (emp w):=i6 _ rfl
  have hT:Shared.TypeIs { s with heap:=s.heap.push (emp w) } (.ref s.heap.objs.size) "set":=⟨_,gS,rfl⟩
  have hli:=uak.init.lookup;have hbi:=uak.init.bind (.ref s.heap.objs.size)
  repeat (any_goals (first | assumption | wp_step))
  refine udh (ufh (R:=wants (λ r s₂=>r=.none/\∃ h' tk,s₂={ s with heap:=h',toks:=tk }/\SetT prog w h' s.heap.objs.size (HT.setS ns xs.size) (HT.setN ns xs.size)/\(∀ b o,b<s.heap.objs.size->s.heap.get? b=some o->h'.get? b=some o)) E) uak.init.plain ugs (ug3 hT ?_)) λ r₂ s₂ hr₂=>?_
  ·obtain⟨ot,ho,hc,m,hd⟩:=id ht
   obtain⟨ocls,odict,odata,oslots⟩:=ot
   simp only at hc hd;subst hc hd
   have ho':(s.heap.push (emp w)).get? t=some { cls:=.type "tuple",dict:=odict,data:=.seq xs m,slots:=oslots }:=b9 _ ho
   have f1:=PySem.F.sub_tuple_set;have f2:=PySem.F.sub_tuple_frozenset
   have f3:(Value.type "tuple"==Value.type "dict")=false:=by decide
   have it1:(s.heap.push (emp w)).IsTuple t xs:=⟨_,ho',rfl,m,rfl⟩
   unfold Builtin.«set.__init__» noKeywords Builtin.Frozenset.updateFrom
   generalize hPI:pyIter=PI
   wp_walk;subst hPI
   refine uf3 it1 (a9 (ufm ?_))
   have lt:t<s.heap.objs.size:=j3 ho
   have hh3:A.in1.in1.in1.handled=none:=by simp [hh]
   have sz1:(s.heap.push (emp w)).objs.size=s.heap.objs.size+1:=uaz ..
   have tI:t≠(s.heap.push (emp w)).objs.size:=by rw[sz1];exact j7 (ube lt)
   have Sfp:s.heap.objs.size∉[(s.heap.push (emp w)).objs.size,t]:=by
    rw[sz1];simp only [j0,w6,or_false,not_or];exact⟨j7 (ua4 _),(j7 lt).symm⟩
   have vals:∀ (i:Nat)(v:d6),xs[i]?=some v->∃ u,v=.int ((λ i=>ns.getD i 0) i) u:=λ i v hv=>IntsAre.int_at hi i v (by rw[ubn];exact hv)
   refine qW ((Walks.tuple hh3 _ t tI xs).toS) s.heap.objs.size Sfp (λ i=>ns.getD i 0) vals hb (xs.size-0) 0 _ (by left) (w8 _) ?st ?s0 ?fin
   case st=>exact⟨⟨_,i6 _ rfl,rfl,rfl⟩,HT.zC it1 _⟩
   case s0=>exact (rJ s.heap).keep λ o e=>b9 _ e
   case fin =>
    rintro ⟨h',g',d',tk',os'⟩ hm hS'
    obtain rfl:g'=s.gens:=hm.gens
    obtain rfl:d'=s.drawn:=hm.drawn
    obtain rfl:os'=s.os:=hm.os
    refine c8 (c8 ⟨rfl,h',tk',rfl,hS',λ b o hlt e=>hm.heap b o ?_ (b9 _ (b9 _ e))⟩)
    rw[sz1];simp only [j0,w6,or_false,not_or]
    exact⟨j7 hlt,j7 (ube hlt)⟩
  ·match r₂,hr₂ with
   | .error e,hr₂=>exact hr₂
   | .ok .next,hr₂=>exact hr₂.elim
   | .ok .brk,hr₂=>exact hr₂.elim
   | .ok .cont,hr₂=>exact hr₂.elim
   | .ok (.ret v),hr₂ =>
    obtain⟨rfl,h',tk,rfl,hS',hk⟩:=hr₂
    repeat (any_goals (first | assumption | wp_step))
    exact fin h' tk hS' hk
end
end Stb
namespace Stb
open PySem PyProof.Rows
theorem sl_next:Slot "set_iterator" "__next__" "set_iterator.__next__":=.of (owner:="set_iterator") (n:="__next__") (by rw[typeLookup_type,builtinLookup_eq_fast];kernel_rfl) (by symm) (by symm) (by symm) (by first | exact .inl (by symm) | exact .inr (by symm)) (by rw[uep];kernel_rfl)
theorem iC:entryFor table "set_iterator.__next__"=some Builtin.«set_iterator.__next__»:=entryFor_of_tree (by kernel_rfl)
theorem pR:Manifest.owners.lookup (String.ofList ['r','o','t','a','r','e','t','i','_','t','e','s'].reverse)=some Manifest.sig_set_iterator:=by kernel_rfl
theorem iF (a:d6):argsOk "set_iterator.__next__" ⟨[a],[]⟩:=by
 unfold argsOk;rw[signature?_of (id:="set_iterator.__next__") (n:=['_','_','t','x','e','n','_','_']) (o:=['r','o','t','a','r','e','t','i','_','t','e','s']) (by kernel_rfl) pR];kernel_rfl
theorem zbq:entryFor table "set.__iter__"=some Builtin.«frozenset.__iter__»:=entryFor_alias (id':="frozenset.__iter__") (by kernel_rfl) rfl (by symm) (by kernel_rfl)
theorem qQ {α:Type}{l:List α}{i:Nat}(h:i<l.length):(l[i]::l.eraseIdx i).Perm l:=by
 rw[List.eraseIdx_eq_take_drop_succ]
 refine List.perm_middle.symm.trans ?_
 rw[← uee h,List.take_append_drop]
theorem pP {α:Type}(next:Nat->Nat):∀ (f k:Nat)(left:List α)(out:Array α),left.length=f->(pickOrder.go next f k left out).toList.Perm (out.toList++left)
 | 0,k,left,out,h=>by
  have:left=[]:=udp.mp h
  subst this
  unfold pickOrder.go
  simp
 | f+1,k,left,out,h=>by
  have lt:next k%left.length<left.length:=ug4 _ (by left)
  unfold pickOrder.go
  rw[d8 lt]
  dsimp only
  refine (pP next f (k+1) _ _ (by rw[ugn lt];left)).trans ?_
  rw[Array.toList_push,ubp]
  refine ugo _ ?_
  exact qQ lt
theorem mH {α:Type}(next:Nat->Nat)(xs:Array α):(pickOrder next xs).toList.Perm xs.toList:=by
 unfold pickOrder
 simpa using pP next xs.size 0 xs.toList #[] (by simp)
section
variable {prog:m5}{w:ual}{A:uaf}{E:d6->d7->Prop}{s:d7}
theorem wR {M:Model}{src:Source}{n:Nat}{Q:Nat->d7->Prop}(hn:n≠0)(h:∀ i,i<n->Q i { s with drawn:=s.drawn.bump src }):j8 M A (choose src n) Q E s:=λ Γ p hΓ=>by
 unfold choose
 rw[Sem.wp_choose]
 exact⟨hn,by exact h _ (ug4 _ (Nat.pos_of_ne_zero hn))⟩
theorem kX {α:Type}{M:Model}(n:Nat):∀ (xs:List α)(s:d7)(Q:List α->d7->Prop),xs.length=n->(∀ ys d',ys.Perm xs->Q ys { s with drawn:=d' })->j8 M A (drawOrder n xs) Q E s:=by
 induction n with
 | zero =>
  intro xs s Q h hQ
  have:xs=[]:=udp.mp h
  subst this
  unfold drawOrder
  exact c8 (hQ [] s.drawn .nil)
 | succ n ih =>
  intro xs s Q h hQ
  cases xs with
  | nil=>cases h
  | cons x xs =>
   unfold drawOrder
   refine a9 (wR (by simp) λ i hi=>?_)
   rw[d8 hi]
   refine a9 (ih _ _ _ (by rw[ugn hi];simp at h ⊢;left) λ ys d' pm=>c8 (hQ _ d' ?_))
   exact (List.Perm.cons _ pm).trans (qQ hi)
end
end Stb
namespace Stb
open PySem PyProof.Rows
inductive Knd where
 | text
 | drawn (p:j9) (pl:List Nat)
 | places
def First (w:ual)(a:j9)(es:Array (Int × d6))(ep:Nat)(t:SetTable)(ord:List (Int × d6))(i:Nat)(h:Heap)(first:d6):Knd->Prop
 | .text=>ledOf w=false/\ord=(pickOrder (w.params.setOrder a ep) es).toList/\∃ z:Nat,first=.int z 0
 | .drawn p pl=>first=.ref p/\h.IsTuple p (pl.map λ i=>rawInt (i:Nat)).toArray/\ord.length=pl.length/\∀ j k:Nat,pl[j]?=some k->∃ e,es[k]?=some e/\ord[j]?=some e
 | .places=>ledOf w=true/\(t.plain=true\/es.size<=1)/\ord=es.toList/\∃ z:Nat,first=.int z 0/\SetTable.below t.place z=i
def IsSet (h:Heap)(a:j9)(es:Array (Int × d6))(ep:Nat)(t:SetTable):Prop:=∃ o,h.get? a=some o/\o.cls=.type "set"/\o.data=.set es ep t
def IsIt (h:Heap)(I a:j9)(n ep i:Nat)(first:d6):Prop:=∃ o,h.get? I=some o/\o.cls=.type "set_iterator"/\o.data=.fields #[first,.int i 0,.ref a,.int n 0,.int ep 0]
section
variable {prog:m5}{w:ual}{A:uaf}{E:d6->d7->Prop}{s:d7}{a I:j9}{es:Array (Int × d6)}{ep:Nat}{t:SetTable}
theorem mQ {Q:Option (d6 × Nat)->d7->Prop}{z i:Nat}(hs:IsSet s.heap a es ep t)(fit:t.fits es.size=true)(hl:ledOf w=false)
  (h:Q (((pickOrder (w.params.setOrder a ep) es)[i]?).map λ e=>(e.2,z)) s):j8 (v6 prog w) A (setNext a z i ep) Q E s:=by
 obtain⟨o,ho,_,od⟩:=hs
 have ft:w.params.followText "set-order"=true:=by simpa [ledOf] using hl
 unfold setNext setsByText
 refine a9 (uad ho od fit ?_)
 refine a9 (a9 (ubz (c8 ?_)))
 show j8 _ _ (if w.params.followText "set-order"=true then _ else _) _ _ _
 rw[uhc ft]
 dsimp only
 rw[uhd (by simp)]
 refine a9 ?_
 unfold setWalk setsByText
 refine a9 (uad ho od fit ?_)
 refine a9 (a9 (ubz (c8 ?_)))
 show j8 _ _ (if w.params.followText "set-order"=true then _ else _) _ _ _
 rw[uhc ft]
 exact a9 (ubz (c8 (c8 h)))
theorem lF {Q:Option (d6 × Nat)->d7->Prop}{z i:Nat}(hs:IsSet s.heap a es ep t)(fit:t.fits es.size=true)(ti:TI (ledOf w) t)(hl:ledOf w=true)(hp:t.plain=true\/es.size<=1)
  (h:Q (match es[SetTable.below t.place z]?,t.place[SetTable.below t.place z]? with | some (_,x),some j=>some (x,j+1) | _,_=>none) s):j8 (v6 prog w) A (setNext a z i ep) Q E s:=by
 obtain⟨o,ho,_,od⟩:=hs
 have ft:w.params.followText "set-order"=false:=by simpa [ledOf] using hl
 unfold setNext setsByText
 refine a9 (uad ho od fit ?_)
 refine a9 (a9 (ubz (c8 ?_)))
 show j8 _ _ (if w.params.followText "set-order"=true then _ else _) _ _ _
 rw[uhd (by rw[ft];exact j6)]
 dsimp only
 show j8 _ _ (if (!t.plain&&decide (es.size>1))=true then _ else _) _ _ _
 rw[uhd (by rcases hp with z | z <;> simp [z])]
 show j8 _ _ ((if (!t.led&&!es.isEmpty)=true then unsupported "set:maker-not-led" else pure ()) >>= _) _ _ _
 rw[uhd (by rw[ti.2,hl];simp)]
 exact a9 (c8 (c8 h))
theorem IsIt.set0 {h:Heap}{n ep i:Nat}{first:d6}(x:IsIt h I a n ep i first)(v:d6):IsIt (h.update I (Obj.mapFields (·.setIfInBounds 0 v))) I a n ep i v:=by
 obtain⟨o,ho,hc,hd⟩:=x
 exact⟨_,ua7 _ ho (Obj.isFreed_of_fields (Obj.data_mapFields hd _)),(Obj.cls_mapFields ..).trans hc,by rw[Obj.data_mapFields hd];simp⟩
theorem IsIt.set1 {h:Heap}{n ep i:Nat}{first:d6}(x:IsIt h I a n ep i first):IsIt (h.update I (Obj.mapFields (·.setIfInBounds 1 (rawInt ((i:Int)+1))))) I a n ep (i+1) first:=by
 obtain⟨o,ho,hc,hd⟩:=x
 exact⟨_,ua7 _ ho (Obj.isFreed_of_fields (Obj.data_mapFields hd _)),(Obj.cls_mapFields ..).trans hc,by rw[Obj.data_mapFields hd];simp [rawInt]⟩
theorem nT {Q:PySem.Fin->d7->Prop}(hh:A.handled=none)(hE:∀ (e:d6) (h':Heap),(∀ b o,s.heap.get? b=some o->h'.get? b=some o)->Shared.TypeIs { s with heap:=h' } e "StopIteration"->E e { s with heap:=h' }) :
  j8 (v6 prog w) A (newExc (.type "StopIteration") [] >>= λ e=>raiseNew e) Q E s:=by
 refine a9 ?_
 simp only [newExc,newTuple]
 refine a9 (uay ?_ (by size_fits))
 refine a9 (m:=firstArgMember _ _) (wpAny_of_eq (a:=Value.none) (by first | rfl | (simp only [firstArgMember];rfl)) (uay ?_ (by size_fits)))
 simp only [raiseNew]
 refine a9 (wpAny_handled ?_)
 rw[hh]
 refine a9 (c8 (wpAny_throw ?_))
 refine hE _ _ (λ b o e=>b9 _ (b9 _ e)) ?_
 exact⟨_,i6 _ rfl,rfl⟩
section
variable {Q:Option d6->d7->Prop}{i:Nat}
theorem oG {x:d6}{z nx:Nat}(hs:IsSet s.heap a es ep t)(fit:t.fits es.size=true)(hit:IsIt s.heap I a es.size ep i (.int z 0))
  (hn:∀ (A':uaf)(Q':Option (d6 × Nat)->d7->Prop)(E':d6->d7->Prop),Q' (some (x,nx)) s->j8 (v6 prog w) A' (setNext a z i ep) Q' E' s)
  (hQ:∀ h',IsIt h' I a es.size ep (i+1) (.int nx 0)->Heap.SameBut I s.heap h'->Q (some x) { s with heap:=h' }):j8 (v6 prog w) A (pyNext (.ref I)) Q E s:=by
 obtain⟨oi,hi,ci,di⟩:=id hit
 obtain⟨o,ho,_,od⟩:=hs
 unfold pyNext
 refine a9 (uc8 (uan (name:=o8 "__next__") ⟨oi,hi,ci⟩ sl_next (uat sl_next ⟨oi,hi,ci⟩ iC ?_ (iF _))))
 show j8 _ _ (fieldsOf (.ref I) >>= _) _ _ s
 refine a9 (ufo hi di ?_)
 show j8 _ _ (setEntries a >>= _) _ _ s
 refine a9 (ucb ho od fit ?_)
 dsimp only
 rw[uhd (by simp)]
 show j8 _ _ (setNext a z i ep >>= _) _ _ s
 refine a9 (hn _ _ _ ?_)
 dsimp only
 refine a9 (udc hi di (by simp) ?_)
 obtain⟨o1,hi1,ci1,di1⟩:=id (hit.set0 (rawInt nx))
 refine a9 (udc hi1 di1 (by simp) (c8 ⟨x,rfl,c8 (hQ _ ?_ ((uax ..).trans (uax ..)))⟩))
 exact (hit.set0 (rawInt nx)).set1
theorem pX {z:Nat}(hh:A.handled=none)(hs:IsSet s.heap a es ep t)(fit:t.fits es.size=true)(hit:IsIt s.heap I a es.size ep i (.int z 0))
  (hn:∀ (A':uaf)(Q':Option (d6 × Nat)->d7->Prop)(E':d6->d7->Prop),Q' none s->j8 (v6 prog w) A' (setNext a z i ep) Q' E' s)
  (hQ:∀ h',(∀ b o,b≠I->s.heap.get? b=some o->h'.get? b=some o)->Q none { s with heap:=h' }):j8 (v6 prog w) A (pyNext (.ref I)) Q E s:=by
 obtain⟨oi,hi,ci,di⟩:=id hit
 obtain⟨o,ho,_,od⟩:=hs
 unfold pyNext
 refine a9 (uc8 (uan (name:=o8 "__next__") ⟨oi,hi,ci⟩ sl_next (uat sl_next ⟨oi,hi,ci⟩ iC ?_ (iF _))))
 show j8 _ _ (fieldsOf (.ref I) >>= _) _ _ s
 refine a9 (ufo hi di ?_)
 show j8 _ _ (setEntries a >>= _) _ _ s
 refine a9 (ucb ho od fit ?_)
 dsimp only
 rw[uhd (by simp)]
 show j8 _ _ (setNext a z i ep >>= _) _ _ s
 refine a9 (hn _ _ _ ?_)
 dsimp only
 refine a9 (udc hi di (by simp) (nT hh λ e h' hk ty=>?_))
 refine a9 (udb (T:="StopIteration") (b:=true) ty ufp (c8 (hQ _ λ b o hb e=>hk b o ?_)))
 exact (v8 _ _ (Ne.symm hb)).trans e
theorem zN {x:d6}{p:j9}{pl:List Nat}{k:Nat}{hx:Int}(hs:IsSet s.heap a es ep t)(fit:t.fits es.size=true)(hit:IsIt s.heap I a es.size ep i (.ref p))(hp:s.heap.IsTuple p (pl.map λ i=>rawInt (i:Nat)).toArray)
  (hk:pl[i]?=some k) (he:es[k]?=some (hx,x)) (hQ:∀ h',IsIt h' I a es.size ep (i+1) (.ref p)->Heap.SameBut I s.heap h'->Q (some x) { s with heap:=h' }):j8 (v6 prog w) A (pyNext (.ref I)) Q E s:=by
 obtain⟨oi,hi,ci,di⟩:=id hit
 obtain⟨o,ho,_,od⟩:=hs
 obtain⟨ol,hol,_,nl,hdl⟩:=hp
 unfold pyNext
 refine a9 (uc8 (uan (name:=o8 "__next__") ⟨oi,hi,ci⟩ sl_next (uat sl_next ⟨oi,hi,ci⟩ iC ?_ (iF _))))
 show j8 _ _ (fieldsOf (.ref I) >>= _) _ _ s
 refine a9 (ufo hi di ?_)
 show j8 _ _ (setEntries a >>= _) _ _ s
 refine a9 (ucb ho od fit ?_)
 dsimp only
 rw[uhd (by simp)]
 show j8 _ _ (seqItems? (.ref p) >>= _) _ _ s
 refine a9 (ubl hol hdl ?_)
 have ek:(pl.map λ i=>rawInt (i:Nat)).toArray[i]?=some (.int k 0):=by rw[List.getElem?_toArray,k0,hk];rfl
 simp only [u4,ek]
 show j8 _ _ (setNextDrawn a k ep >>= _) _ _ s
 refine a9 ?_
 unfold setNextDrawn
 refine a9 (uad ho od fit ?_)
 dsimp only
 rw[uhd (by simp),he]
 refine c8 (a9 (udc hi di (by simp) (c8 ⟨x,rfl,c8 (hQ _ hit.set1 (uax ..))⟩)))
theorem za7 {p:j9}{pl:List Nat}(hh:A.handled=none)(hs:IsSet s.heap a es ep t)(fit:t.fits es.size=true)(hit:IsIt s.heap I a es.size ep i (.ref p))(hp:s.heap.IsTuple p (pl.map λ i=>rawInt (i:Nat)).toArray)
  (hk:pl[i]?=none) (hQ:∀ h',(∀ b o,b≠I->s.heap.get? b=some o->h'.get? b=some o)->Q none { s with heap:=h' }):j8 (v6 prog w) A (pyNext (.ref I)) Q E s:=by
 obtain⟨oi,hi,ci,di⟩:=id hit
 obtain⟨o,ho,_,od⟩:=hs
 obtain⟨ol,hol,_,nl,hdl⟩:=hp
 unfold pyNext
 refine a9 (uc8 (uan (name:=o8 "__next__") ⟨oi,hi,ci⟩ sl_next (uat sl_next ⟨oi,hi,ci⟩ iC ?_ (iF _))))
 show j8 _ _ (fieldsOf (.ref I) >>= _) _ _ s
 refine a9 (ufo hi di ?_)
 show j8 _ _ (setEntries a >>= _) _ _ s
 refine a9 (ucb ho od fit ?_)
 dsimp only
 rw[uhd (by simp)]
 show j8 _ _ (seqItems? (.ref p) >>= _) _ _ s
 refine a9 (ubl hol hdl ?_)
 have ek:(pl.map λ i=>rawInt (i:Nat)).toArray[i]?=none:=by rw[List.getElem?_toArray,k0,hk];rfl
 simp only [u4,ek]
 refine a9 (udc hi di (by simp) ?_)
 obtain⟨o1,hi1,ci1,di1⟩:=id (hit.set0 (rawInt 0))
 refine a9 (udc hi1 di1 (by simp) (nT hh λ e h' hk ty=>?_))
 refine a9 (udb (T:="StopIteration") (b:=true) ty ufp (c8 (hQ _ λ b o hb e=>hk b o ?_)))
 exact (v8 _ _ (Ne.symm hb)).trans ((v8 _ _ (Ne.symm hb)).trans e)
end
end
end Stb
namespace Stb
open PySem PyProof.Rows
theorem pN:Slot "set_iterator" "__iter__" "set_iterator.__iter__":=.of (owner:="set_iterator") (n:="__iter__") (by rw[typeLookup_type,builtinLookup_eq_fast];kernel_rfl) (by symm) (by symm) (by symm) (by first | exact .inl (by symm) | exact .inr (by symm)) (by rw[uep];kernel_rfl)
theorem zai:entryFor table "set_iterator.__iter__"=some Builtin.«dict_keyiterator.__iter__»:=entryFor_alias (id':="dict_keyiterator.__iter__") (by kernel_rfl) (by first | rfl | decide +kernel | (unfold String.splitOn;simp +decide [String.splitOnAux])) (by symm) (by kernel_rfl)
theorem zbw (a:d6):argsOk "set_iterator.__iter__" ⟨[a],[]⟩:=by
 unfold argsOk;rw[signature?_of (id:="set_iterator.__iter__") (n:=['_','_','r','e','t','i','_','_']) (o:=['r','o','t','a','r','e','t','i','_','t','e','s']) (by kernel_rfl) pR];kernel_rfl
section
variable {prog:m5}{w:ual}{A:uaf}{E:d6->d7->Prop}{s:d7}{a I:j9}{es:Array (Int × d6)}{ep:Nat}{t:SetTable}
theorem xT {Q:d6->d7->Prop}{n i:Nat}{f:d6}(hit:IsIt s.heap I a n ep i f)(h:Q (.ref I) s):j8 (v6 prog w) A (pyIter (.ref I)) Q E s:=by
 obtain⟨oi,hi,ci,di⟩:=id hit
 refine wpAny_pyIter_slot ⟨oi,hi,ci⟩ pN (uat pN ⟨oi,hi,ci⟩ zai ?_ (zbw _))
 show j8 _ _ (ret (.ref I)) _ _ s
 exact c8 ⟨_,rfl,"set_iterator",_,⟨oi,hi,ci⟩,sl_next.lookup,h⟩
def fpK (I a:j9):Knd->List j9
 | .drawn p _=>[I,a,p]
 | _=>[I,a]
def StK (w:ual)(a I:j9)(es:Array (Int × d6))(ep:Nat)(t:SetTable)(ord:List (Int × d6))(kd:Knd)(i:Nat)(h:Heap):Prop :=
 IsSet h a es ep t/\∃ first,IsIt h I a es.size ep i first/\First w a es ep t ord i h first kd
theorem kQ (I a:j9):∀ kd,I∈fpK I a kd/\a∈fpK I a kd
 | .text=>by simp [fpK]
 | .drawn _ _=>by simp [fpK]
 | .places=>by simp [fpK]
theorem yY {ord:List (Int × d6)}{kd:Knd}(hh:A.handled=none)(aI:a≠I)(fit:t.fits es.size=true)(ti:TI (ledOf w) t)(hpI:∀ p pl,kd=.drawn p pl->p≠I)(pm:ord.Perm es.toList) :
  Walks prog w A I (fpK I a kd) [I] ord.length (λ i v=>∃ e,ord[i]?=some e/\v=e.2) (StK w a I es ep t ord kd) where
 sub:=λ b hb=>by simp at hb;rw[hb];exact (kQ I a kd).1
 frame:=λ i h h' st hk=>by
  obtain⟨⟨o,ho,r⟩,f,⟨oi,hi,ri⟩,fk⟩:=st
  refine⟨⟨o,hk a (kQ I a kd).2 o ho,r⟩,f,⟨oi,hk I (kQ I a kd).1 oi hi,ri⟩,?_⟩
  cases kd with
  | text=>exact fk
  | places=>exact fk
  | drawn p pl =>
   obtain⟨e,⟨op,hp,rp⟩,rest⟩:=fk
   exact⟨e,⟨op,hk p (by simp [fpK]) op hp,rp⟩,rest⟩
 self:=λ i s Q E st hQ=>by
  obtain⟨_,f,hit,_⟩:=st
  exact xT hit hQ
 item:=λ i s Q E hi st hQ=>by
  obtain⟨hs,f,hit,fk⟩:=st
  have hsK:∀ h',Heap.SameBut I s.heap h'->IsSet h' a es ep t:=λ h' sb=>by
   obtain⟨o,ho,r⟩:=hs
   exact⟨o,sb.extBut a o aI ho,r⟩
  have kp:∀ h',Heap.SameBut I s.heap h'->∀ b o,b∉[I]->s.heap.get? b=some o->h'.get? b=some o:=λ h' sb b o hb e=>sb.extBut b o (λ z=>hb (by simp [z])) e
  have oi:ord[i]?=some ord[i]:=d8 hi
  cases kd with
  | text =>
   obtain⟨hl,eo,z,rfl⟩:=fk
   have ei:(pickOrder (w.params.setOrder a ep) es)[i]?=some ord[i]:=by rw[← ubn,← eo];exact oi
   refine oG (x:=ord[i].2) (nx:=z) hs fit hit (λ A' Q' E' q=>mQ hs fit hl ?_) λ h' hit' sb=>hQ _ h' s.toks ⟨_,oi,rfl⟩ ⟨hsK h' sb,_,hit',hl,eo,z,rfl⟩ (kp h' sb)
   rw[ei];exact q
  | places =>
   obtain⟨hl,hp,eo,z,rfl,eb⟩:=fk
   have ei:es[i]?=some ord[i]:=by rw[← ubn,← eo];exact oi
   have szp:t.place.size=es.size:=by
    simp only [SetTable.fits,uaj,beq_iff_eq] at fit
    exact fit.1
   have il:i<t.place.size:=by rw[szp];exact (ugd.mp ei).1
   have ep':t.place[i]?=some t.place[i]:=ubh il
   refine oG (x:=ord[i].2) (nx:=t.place[i]+1) hs fit hit (λ A' Q' E' q=>lF hs fit ti hl hp ?_) λ h' hit' sb=>hQ _ h' s.toks ⟨_,oi,rfl⟩ ⟨hsK h' sb,_,hit',hl,hp,eo,_,rfl,wK _ ti.1 ep'⟩ (kp h' sb)
   rw[eb,ei,ep'];exact q
  | drawn p pl =>
   obtain⟨rfl,hp,el,hj⟩:=fk
   have il:i<pl.length:=el ▸ hi
   obtain⟨e,ek,eo⟩:=hj i _ (d8 il)
   obtain⟨hx,x⟩:=e
   refine zN (x:=x) hs fit hit hp (d8 il) ek λ h' hit' sb=>hQ _ h' s.toks ⟨_,eo,rfl⟩ ⟨hsK h' sb,_,hit',rfl,?_,el,hj⟩ (kp h' sb)
   obtain⟨op,hop,rp⟩:=hp
   exact⟨op,sb.extBut p op (hpI p pl rfl) hop,rp⟩
 done:=λ s Q E st hQ=>by
  obtain⟨hs,f,hit,fk⟩:=st
  have lo:ord.length=es.size:=by rw[pm.length_eq,z9]
  have kp:∀ h':Heap,(∀ b o,b≠I->s.heap.get? b=some o->h'.get? b=some o)->∀ b o,b∉[I]->s.heap.get? b=some o->h'.get? b=some o:=λ h' k b o hb e=>k b o (λ z=>hb (by simp [z])) e
  cases kd with
  | text =>
   obtain⟨hl,eo,z,rfl⟩:=fk
   refine pX hh hs fit hit (λ A' Q' E' q=>mQ hs fit hl ?_) λ h' k=>hQ h' s.toks (kp h' k)
   have:(pickOrder (w.params.setOrder a ep) es)[ord.length]?=none:=by rw[← ubn,← eo,v7 (h9 _)]
   rw[this];exact q
  | places =>
   obtain⟨hl,hp,eo,z,rfl,eb⟩:=fk
   refine pX hh hs fit hit (λ A' Q' E' q=>lF hs fit ti hl hp ?_) λ h' k=>hQ h' s.toks (kp h' k)
   have:es[ord.length]?=none:=by rw[lo];simp
   rw[eb,this];exact q
  | drawn p pl =>
   obtain⟨rfl,hp,el,hj⟩:=fk
   exact za7 hh hs fit hit hp (by rw[el,v7 (h9 _)]) λ h' k=>hQ h' s.toks (kp h' k)
end
end Stb
namespace Stb
open PySem PyProof.Rows
section
variable {prog:m5}{w:ual}{A:uaf}{E:d6->d7->Prop}{s:d7}{a:j9}{es:Array (Int × d6)}{ep:Nat}{t:SetTable}
theorem zZ {Q:Bool->d7->Prop}(hs:IsSet s.heap a es ep t)(fit:t.fits es.size=true)(h:Q (ledOf w&&(!t.plain&&decide (es.size>1))) s):j8 (v6 prog w) A (setDrawn a) Q E s:=by
 obtain⟨o,ho,_,od⟩:=hs
 unfold setDrawn setsByText
 refine a9 (uad ho od fit ?_)
 exact a9 (a9 (ubz (c8 (c8 h))))
theorem zY {Q:d6->d7->Prop}(hs:IsSet s.heap a es ep t)(fit:t.fits es.size=true)(ti:TI (ledOf w) t)(small:es.size<=4096)
  (h:∀ (I:j9)(h':Heap)(d':Drawn)(ord:List (Int × d6))(kd:Knd),(∀ b o,s.heap.get? b=some o->h'.get? b=some o)->s.heap.objs.size<=I->(∀ p pl,kd=.drawn p pl->p≠I/\s.heap.objs.size<=p)->ord.Perm es.toList->StK w a I es ep t ord kd 0 h' ->
   Q (.ref I) { s with heap:=h',drawn:=d' }):j8 (v6 prog w) A (pyIter (.ref a)) Q E s:=by
 obtain⟨o,ho,oc,od⟩:=id hs
 refine wpAny_pyIter_slot ⟨o,ho,oc⟩ ugy (uat ugy ⟨o,ho,oc⟩ zbq ?_ (PySem.F.args_set_iter_1 _))
 unfold Builtin.«frozenset.__iter__» Builtin.Frozenset.sizeOf
 show j8 _ _ ((setEntries a >>= λ x=>pure x.size) >>= _) _ _ s
 refine a9 (a9 (ucb ho od fit (c8 (a9 (zZ hs fit ?_)))))
 have lastT : ∀ (h1 : Heap)(first : d6)(d' : Drawn)(ord : List (Int × d6))(kd : Knd), (∀ b o, s.heap.get? b = some o → h1.get? b = some o) → s.heap.objs.size <= h1.objs.size → (∀ p pl, kd = .drawn p pl → p<h1.objs.size /\ s.heap.objs.size <= p) → ord.Perm es.toList → (∀ h', (∀ b o, h1.get? b = some o → h'.get? b = some o) → First w a es ep t ord 0 h' first kd) →
     j8 (v6 prog w) A.in1 (setEpoch a >>= λ e=>newFields "set_iterator" [first,rawInt 0,.ref a,rawInt es.size,rawInt e] >>= λ v=>ret v) (λ fin s'=>∃ v,fin=.done (.ret v)/\∃ T' r,s'.TypeIs v T'/\typeLookup (.type T') (o8 "__next__")=pure (some r)/\Q v s') E { s with heap:=h1,drawn:=d' }:=λ h1 first d' ord kd hk sz hp pm hf=>by
  refine a9 (uge (hk a o ho) od fit (a9 (uay (c8 ⟨_,rfl,"set_iterator",_,⟨_,i6 _ rfl,rfl⟩,sl_next.lookup,?_⟩))))
  exact h _ _ d' ord kd (λ b o e=>b9 _ (hk b o e)) sz (λ p pl e=>⟨j7 (hp p pl e).1,(hp p pl e).2⟩) pm ⟨⟨o,b9 _ (hk a o ho),oc,od⟩,first,⟨_,i6 _ rfl,rfl,rfl⟩,hf _ λ b o e=>b9 _ e⟩
 dsimp only
 have es0:s={ s with heap:=s.heap,drawn:=s.drawn }:=by cases s;rfl
 by_cases c:(ledOf w&&(!t.plain&&decide (es.size>1)))=true
 ·rw[uhc c]
  refine a9 (kX _ _ _ _ (by simp) λ ys d' pm=>?_)
  have yl:ys.length=es.size:=by rw[pm.length_eq,l7]
  have line:es.size<=v5:=by rw[ubj];left
  refine a9 (uay ?_ (by show (ys.map λ i=>rawInt (i:Nat)).toArray.size<=v5;simpa [yl] using line))
  have ordE:∀ k∈ys,∃ e,es[k]?=some e:=λ k hk=>by
   have:k<es.size:=by simpa using pm.mem_iff.mp hk
   exact⟨_,ubh this⟩
  have fm:∀ l:List Nat,(∀ k∈l,∃ e,es[k]?=some e)->(l.filterMap (es[·]?)).length=l.length/\∀ j k:Nat,l[j]?=some k->∃ e,es[k]?=some e/\(l.filterMap (es[·]?))[j]?=some e:=λ l=>by
   induction l with
   | nil=>exact λ _=>⟨rfl,λ j k e=>by simp at e⟩
   | cons x l ih =>
    intro hx
    obtain⟨e,he⟩:=hx x (by simp)
    obtain⟨h1,h2⟩:=ih λ k hk=>hx k (i7 _ hk)
    rw[List.filterMap_cons_some (b:=e) he]
    refine⟨by simp [h1],λ j k ej=>?_⟩
    cases j with
    | zero=>simp at ej;subst ej;exact⟨e,he,rfl⟩
    | succ j=>simp only [List.getElem?_cons_succ] at ej ⊢;exact h2 j k ej
  obtain⟨f1,f2⟩:=fm ys ordE
  refine lastT _ (.ref s.heap.objs.size) d' (ys.filterMap (es[·]?)) (.drawn s.heap.objs.size ys) (λ b o e=>b9 _ e) (by rw[uaz];exact ub8 _) (λ p pl e=>by cases e;rw[uaz];exact⟨ua4 _,h9 _⟩) ?_ λ h' k=>⟨rfl,⟨_,k _ _ (i6 _ rfl),rfl,_,rfl⟩,f1,f2⟩
  exact (pm.filterMap _).trans (by rw[filterMap_getElem?_range])
 ·rw[uhd c]
  refine a9 (c8 ?_)
  cases cl:ledOf w with
  | false =>
   rw[es0]
   exact lastT s.heap (rawInt 0) s.drawn _ .text (λ _ _ e=>e) (h9 _) (λ p pl e=>nomatch e) (mH _ es) λ h' k=>⟨cl,rfl,0,rfl⟩
  | true =>
   rw[es0]
   refine lastT s.heap (rawInt 0) s.drawn es.toList .places (λ _ _ e=>e) (h9 _) (λ p pl e=>nomatch e) (.refl _) λ h' k=>⟨cl,?_,rfl,0,rfl,wJ _ ti.1⟩
   rw[cl] at c
   cases pl:t.plain with
   | true=>exact .inl rfl
   | false=>rw[pl] at c;exact .inr (by simpa using c)
theorem zac {Q:Bool->d7->Prop}(hT:s.TypeIs (.ref a) "set")(h:Q false s):j8 (v6 prog w) A (Builtin.List.listLengthHint (.ref a)) Q E s:=by
 unfold Builtin.List.listLengthHint
 refine a9 (wpAny_specialOf hT PySem.F.slot_set_len.lookup ?_)
 generalize hid:("set.__len__":String)=id0
 wp_delta
 rw[show splitId id0=some ("set","__len__") from by subst hid;decide +kernel]
 subst hid
 refine a9 (udb (T:="set") (b:=true) hT (by rw[uep];kernel_rfl) (uae (λ z=>absurd z (by decide)) λ _=>?_))
 refine uae (λ _=>a9 (uen hT (c8 h))) (λ z=>absurd (by symm) z)
theorem jV:∀ l:List (Int × d6),ElemsOf (intKind prog w) l->∃ ks,IntsAre (l.map (·.2)) ks/\ks.length=l.length/\∀ k,k∈ks↔∃ e∈l,(intKind prog w).is k e.2=true
 | [],_=>⟨[],.nil,rfl,λ k=>by simp⟩
 | e::l,h=>by
  obtain⟨ks,h1,h2,h3⟩:=jV l h.tail
  obtain⟨⟨k,hk,_⟩,_⟩:=h.head
  obtain⟨hx,x⟩:=e
  obtain⟨u,rfl⟩:=Value.isInt_shape hk
  refine⟨k::ks,.cons k u h1,by simp [h2],λ y=>?_⟩
  rw[j0,h3 y]
  constructor
  ·rintro (rfl | ⟨e,he,q⟩)
   ·exact⟨_,i5,hk⟩
   ·exact⟨e,i7 _ he,q⟩
  ·rintro ⟨e,he,q⟩
   rcases j0.mp he with rfl | he
   ·exact .inl ((intKind prog w).inj _ _ _ q hk)
   ·exact .inr ⟨e,he,q⟩
theorem zbo {ord:List (Int × d6)}{acc:Array d6}(h:ItemsOf (λ i v=>∃ e,ord[i]?=some e/\v=e.2) acc ord.length):acc.toList=ord.map (·.2):=by
 refine uc5 (by simp [h.1]) λ i h1 h2=>?_
 have hi:i<acc.size:=by simpa using h1
 obtain⟨e,e1,e2⟩:=h.2 i _ (ubh hi)
 have hi2:i<ord.length:=by simpa using h2
 rw[d8 hi2] at e1
 cases e1
 simpa using e2
theorem vG {Q:List d6->d7->Prop}{S:Int->Bool}{n:Nat}(hh:A.handled=none)(st:SetT prog w s.heap a S n)
  (hQ:∀ (h':Heap)(tk:Nat)(d':Drawn)(vs:List d6)(ks:List Int),(∀ b o,s.heap.get? b=some o->h'.get? b=some o)->IntsAre vs ks->ks.length=n->(∀ k,S k=true↔k∈ks)->Q vs { s with heap:=h',toks:=tk,drawn:=d' }) :
  j8 (v6 prog w) A (collect (.ref a)) Q E s:=by
 obtain⟨⟨o,es,ep,t,ho,ox,od,el,me,small,fit,en⟩,o',es',ep',t',ho',od',ti⟩:=st
 rw[ho] at ho';cases ho'
 rw[od] at od';cases od'
 unfold collect
 refine a9 (ufm (ubm ufv ?_))
 rw[Around.under_plainId ufu _]
 show j8 _ A.in1 (newList [] >>= λ l=>again (.builtin "list.__iadd__" ⟨[l,.ref a],[]⟩)) _ _ s
 refine a9 (uay ?_)
 refine c8 ⟨uc9 udn _,ubm ugi ?_⟩
 rw[Around.under_plainId udn _]
 show j8 _ A.in1 (Builtin.List.listExtendWith (.ref s.heap.objs.size) (.ref a) (.ref s.heap.objs.size)) _ _ _
 have alt:a<s.heap.objs.size:=j3 ho
 have hS:(s.heap.push { cls:=.type "list",data:=.seq ([]:List d6).toArray }).get? s.heap.objs.size=some { cls:=.type "list",data:=.seq #[] }:=i6 _ rfl
 have szL:(s.heap.push { cls:=.type "list",data:=.seq ([]:List d6).toArray }).objs.size=s.heap.objs.size+1:=uaz ..
 unfold Builtin.List.listExtendWith
 have tS:Shared.TypeIs { s with heap:=s.heap.push { cls:=.type "list",data:=.seq ([]:List d6).toArray } } (.ref a) "set":=⟨o,b9 _ ho,ox.1⟩
 refine a9 (uen (T:="set") tS ?_)
 have h1:Builtin.List.listSameRef (.ref s.heap.objs.size) (.ref a)=false:=by simp only [Builtin.List.listSameRef,beq_eq_false_iff_ne];exact uch alt
 have h2:(Value.type "set"==Value.type "list")=false:=by decide
 have h3:(Value.type "set"==Value.type "tuple")=false:=by decide
 simp only [h1,h2,h3,Bool.or_false,ua0,if_false]
 refine a9 (zY (t:=t) ⟨o,b9 _ ho,ox.1,od⟩ fit ti (uea small) λ I h1 d1 ord kd hk lI hp pm stk=>?_)
 refine a9 (uam (zac ⟨o,hk a o (b9 _ ho),ox.1⟩ ?_))
 refine uae (λ _=>?_) (λ z=>absurd (by decide) z)
 refine a9 (uc0 ?_)
 refine a9 ?_
 show j8 _ _ (updateSeq s.heap.objs.size (·.push .none) >>= λ _=>updateSeq s.heap.objs.size (·.pop)) _ _ _
 have g1:=hk _ _ hS
 refine a9 (uef g1 rfl ?_)
 have g2:=ua7 (Obj.mapSeq (·.push Value.none)) g1 rfl
 refine uef (hz:=by seq_fits) g2 rfl ?_
 have g3:=ua7 (Obj.mapSeq (·.pop)) g2 rfl
 have neI:s.heap.objs.size≠I:=j7 (m7 (by rw[szL];exact ua4 _) lI)
 have nfp:s.heap.objs.size∉fpK I a kd:=by
  cases kd with
  | text=>simp only [fpK,j0,w6,or_false,not_or];exact⟨neI,uch alt⟩
  | places=>simp only [fpK,j0,w6,or_false,not_or];exact⟨neI,uch alt⟩
  | drawn p pl =>
   simp only [fpK,j0,w6,or_false,not_or]
   exact⟨neI,uch alt,j7 (m7 (by rw[szL];exact ua4 _) (hp p pl rfl).2)⟩
 have aI:a≠I:=j7 (m7 (by rw[szL];exact ube alt) lI)
 have W:=yY (prog:=prog) (w:=w) (A:=A.in1) (ep:=ep) (ord:=ord) (kd:=kd) hh aI fit ti (λ p pl e=>(hp p pl e).1) pm
 have kU:∀ b o,b≠s.heap.objs.size->h1.get? b=some o->((h1.update s.heap.objs.size (Obj.mapSeq (·.push Value.none))).update s.heap.objs.size (Obj.mapSeq (·.pop))).get? b=some o:=λ b o hb e =>
  (v8 _ _ (Ne.symm hb)).trans ((v8 _ _ (Ne.symm hb)).trans e)
 have st1:=W.frame 0 _ _ stk λ b hb o e=>kU b o (λ z=>nfp (z ▸ hb)) e
 have lo:ord.length=n:=by rw[pm.length_eq,z9,en]
 refine c8 ⟨uc9 PySem.F.plain_extend_loop _,codeAny_extend_loopS W.toS (by rw[lo,← en];exact uc2 small) s.heap.objs.size nfp _ ord.length 0 _ #[] _ rfl (w8 _) st1 g3 (ItemsOf.nil _) λ s' acc' c' hm hS' hacc=>?_⟩
 rw[Moved.eq_with hm]
 refine a9 (wpAny_load hS' (c8 ?_))
 obtain⟨ks,i1,i2,i3⟩:=jV (prog:=prog) (w:=w) ord (el.perm pm)
 rw[zbo hacc]
 refine hQ _ _ _ _ ks (λ b o e=>hm.heap b o ?_ (kU b o (j7 (j3 e)) (hk b o (b9 _ e)))) i1 (i2.trans lo) λ k=>(me k).trans ?_
 ·simp only [j0,w6,or_false,not_or]
  have:=j3 e
  exact⟨j7 this,j7 (m7 (by rw[szL];exact ube this) lI)⟩
 ·rw[i3 k]
  exact⟨λ ⟨e,he,q⟩=>⟨e,pm.mem_iff.mpr he,q⟩,λ ⟨e,he,q⟩=>⟨e,pm.mem_iff.mp he,q⟩⟩
end
end Stb
namespace Srt
open PySem PySem.Spec PyProof.Rows PySem.W
section
variable {prog:m5}{w:ual}{A:uaf}{E:d6->d7->Prop}{s:d7}
theorem uW {x:d6}{Q:d6->d7->Prop}{Good:List d6->d7->Prop}
  (hcol:∀ (A':uaf)(E':d6->d7->Prop)(Q':List d6->d7->Prop),A'.handled=A.handled->(∀ vs s',Good vs s'->Q' vs s')->j8 (v6 prog w) A' (collect x) Q' E' s)
  (hg:∀ vs s1,Good vs s1->∃ (r:Nat->Int)(κ:SortKind),vs.length<64/\(2<=vs.length->∀ (A':uaf)(s':d7)(Q:SortKind->d7->Prop),Q κ s'->j8 (v6 prog w) A' (keyKind' vs.toArray) Q (λ _ _=>False) s') /\
   (∀ (A':uaf)(s':d7)(i j:Nat)(C:Bool->d7->Prop),i<vs.length->j<vs.length->C (decide (r i<r j)) s'->kas_ask prog w A' κ vs i j C s') /\
   ∀ (p:Array Nat)(h':Heap)(c:Nat),Gd vs.length p->Up r p vs.length->(∀ b o,s1.heap.get? b=some o->h'.get? b=some o)->h'.get? s1.heap.objs.size=some (seqObj "list" (outOf vs p).toArray c)->Q (.ref s1.heap.objs.size) { s1 with heap:=h' }) :
  j8 (v6 prog w) A (call (.builtin "sorted") [x]) Q E s:=by
 have line:(64:Nat)<=v5:=by rw[ubj];decide
 refine Calls.call_function_entry kind_sorted plain_sorted entry_sorted (args_sorted1 _) ?_
 unfold Builtin.«sorted»
 refine a9 (m:=checkCount "sorted" 1 1 _) (c8 (a9 (hcol _ _ _ rfl λ vs s1 g=>?_)))
 obtain⟨r,κ,h64,hk,hc,h⟩:=hg vs s1 g
 refine a9 (udw ?_ (by left))
 have hoL:(s1.heap.push { cls:=.type "list",data:=.seq vs.toArray }).get? s1.heap.objs.size=some (seqObj "list" vs.toArray 0):=i6 _ rfl
 have ne2:∀ b o,s1.heap.get? b=some o->b≠s1.heap.objs.size:=λ b o q=>j7 (j3 q)
 show j8 _ _ _ _ _ { s1 with heap:=s1.heap.push { cls:=.type "list",data:=.seq vs.toArray } }
 refine a9 (uam (uat slot_list_sort ⟨_,hoL,rfl⟩ entry_list_sort ?_ (args_list_sort _)))
 refine lsort (s:={ s1 with heap:=s1.heap.push { cls:=.type "list",data:=.seq vs.toArray } }) (r:=r) (κ:=κ) hoL h64 (λ h2 s' Q' st q=>hk h2 _ s' Q' q) (λ s' i j C st hi hj q=>hc _ s' i j C hi hj q) λ p h' c g1 u1 st e=>⟨_,rfl,?_⟩
 exact c8 ⟨_,rfl,h p h' c g1 u1 (λ b o q=>st b o (ne2 b o q) (b9 _ q)) e⟩
end
end Srt
namespace L3
open PySem PySem.Spec PyProof.Rows L2
def SetO (P:m5)(w:ual)(a:j9)(S:Int->Bool)(n:Nat):HO:=.ext λ h=>Stb.SetT P w h a S n
section
variable {X:Cx}
theorem nB (hh:X.calm=true):CallR X (.type "set") (λ xs H Q=>∃ (p:j9)(ns:List Int),xs=[.ref p]/\H p=some (.tup (ns.map V.int))/\ns.length<=1000/\∀ q H',Same H H'->H q=none->H' q=some (SetO X.prog X.w q (HT.setS ns ns.length) (HT.setN ns ns.length))->Q (.ref q) H'):=by
 intro pins s σ H xs us Q I r h
 obtain⟨p,ns,rfl,hp,hl,q⟩:=h
 obtain⟨u,rfl,rx⟩:=vals1 r
 cases rx
 obtain⟨its,rv,pt,hz⟩:=I.tuple (SqT.of hp)
 have hlen:=rv.length
 rw[c9] at hlen
 have fr:H s.heap.objs.size=none:=I.hok.fresh (h9 _)
 have esz:its.toArray.size=ns.length:=by rw[i8,← hlen]
 refine Stb.zcg (ns:=ns) (I.ok.hd hh) (show s.heap.IsTuple p its.toArray from pt) (by simpa using cO rv) (by rw[esz];unfold scanBound;left) λ h' tk hS hk=>?_
 rw[esz] at hS
 refine⟨.ref s.heap.objs.size,_,I.laid (a:=s.heap.objs.size) (o:=SetO X.prog X.w s.heap.objs.size (HT.setS ns ns.length) (HT.setN ns ns.length)) (t':=tk) (λ b o e=>hk b o (j3 e) e) (h9 _) ⟨hS,?_,λ h1 h2 x k=>x.keep k⟩,rfl,q _ _ (aQ fr) fr aH⟩
 obtain⟨⟨o,_,_,_,ho,_⟩,_⟩:=hS
 exact⟨o,ho⟩
theorem iL (hh:X.calm=true):CallR X (.builtin "sorted") (λ xs H Q=>∃ (p:j9)(S:Int->Bool)(n:Nat),xs=[.ref p]/\H p=some (SetO X.prog X.w p S n)/\n<64/\∀ ms:List Int,ms.length=n->(∀ k,S k=true↔k∈ms)->ms.Pairwise (·<=·)->∀ l H',Same H H'->H l=none->H' l=some (.lst (ms.map V.int))->Q (.ref l) H'):=by
 intro pins s σ H xs us Q I r h
 obtain⟨p,S,n,rfl,hp,h64,q⟩:=h
 obtain⟨u,rfl,rx⟩:=vals1 r
 cases rx
 have hS:Stb.SetT X.prog X.w s.heap p S n:=(show ObjOk X.prog X.w H s.heap p (SetO X.prog X.w p S n) from I.hok p _ hp).1
 refine Srt.uW (Good:=λ vs s1=>∃ (h1:Heap)(tk:Nat)(d':Drawn)(ns:List Int),s1={ s with heap:=h1,toks:=tk,drawn:=d' }/\(∀ b o,s.heap.get? b=some o->h1.get? b=some o)/\IntsAre vs ns/\ns.length=n/\∀ k,S k=true↔k∈ns)
  (λ A' E' Q' eh hQ=>Stb.vG (eh.trans (I.ok.hd hh)) hS λ h1 tk d' vs ns hk hI hl hm=>hQ vs _ ⟨h1,tk,d',ns,rfl,hk,hI,hl,hm⟩) λ its s1 g=>?_
 obtain⟨gg,tk,d',ns,rfl,kg,hI,hn,hm⟩:=g
 have hl:its.length=ns.length:=by
  clear hn hm
  induction hI with
  | nil=>rfl
  | cons n t _ ih=>simp [ih]
 refine⟨λ i=>ns.getD i 0,oneType',by left,λ h2 A' s' Q' q'=>Srt.oF hI h2 q',λ A' s' i j C hi hj q'=>Srt.pY hI hi hj q',λ pp h' c g u kp e=>?_⟩
 have g':Srt.Gd ns.length pp:=by rw[← hl];exact g
 have u':Srt.Up (λ i=>ns.getD i 0) pp ns.length:=by rw[← hl];exact u
 have pm:(pp.toList.map λ i=>ns.getD i 0).Perm ns:=by
  have:=iA g' λ i=>ns.getD i 0
  rw[cS] at this
  exact this
 have pw:(pp.toList.map λ i=>ns.getD i 0).Pairwise (·<=·):=by
  rw[uao]
  exact hG g' u' λ i j _ _ z=>z
 have I1:Inv X pins σ H { s with heap:=gg,toks:=tk,drawn:=d' }:=by
  have:=I.kept (t':=tk) kg
  exact⟨this.ok,this.os,this.bare,this.base,this.loc,this.cell,this.free,this.freeC,this.pin,this.hok,this.len⟩
 have fr:H gg.objs.size=none:=I1.hok.fresh (h9 _)
 have ev:((pp.toList.map λ i=>ns.getD i 0).map V.int)=pp.toList.map λ i=>(ns.map V.int).getD i .non:=by
  rw[ubo]
  refine udm λ i hi=>?_
  have:=dU g' i hi
  simp [uc4,this]
 have rv:Vals (ns.map V.int) its:=by
  clear hn hm g' u' pm pw ev hl g u e kp
  induction hI with
  | nil=>exact .nil
  | cons n t _ ih=>exact .cons ⟨t,rfl⟩ ih
 refine⟨.ref gg.objs.size,_,I1.laid (a:=gg.objs.size) (o:=.lst ((pp.toList.map λ i=>ns.getD i 0).map V.int)) (t':=tk) kp (h9 _) ⟨?_,Srt.outOf its pp,c,?_,e⟩,rfl,q _ (pm.length_eq.trans hn) (λ k=>(hm k).trans pm.mem_iff.symm) pw _ _ (aQ fr) fr aH⟩
 ·have:=pm.length_eq
  have line:(64:Nat)<=v5:=by rw[ubj];decide
  rw[c9,this];left
 ·rw[ev]
  exact fQ rv pp.toList λ i hi=>by rw[c9];exact dU g' i hi
end
theorem dY (val:Nat->Int):∀ i,(firstMet val i).Nodup/\∀ k,k∈firstMet val i↔k∈(c7 i).map val
 | 0=>⟨by rw[firstMet_zero];exact List.nodup_nil,λ k=>by rw[firstMet_zero];simp⟩
 | i+1=>by
  obtain⟨h1,h2⟩:=dY val i
  rw[firstMet_succ,ud4,ua8]
  unfold step_dedup
  by_cases c:(firstMet val i).any (λ y=>y==val i)=true
  ·rw[uhc c]
   obtain⟨y,hy,e⟩:=ucc.mp c
   have e':y=val i:=by simpa using e
   refine⟨h1,λ k=>?_⟩
   rw[h2 k,o9]
   refine⟨.inl,λ z=>z.elim id λ z=>?_⟩
   have:k=val i:=by simpa using z
   rw[this,← e',← h2 y];exact hy
  ·rw[uhd c]
   refine⟨ucm.mpr ⟨h1,by simp,λ a ha b hb e=>c (ucc.mpr ⟨a,ha,?_⟩)⟩,λ k=>by rw[o9,o9,h2 k];simp⟩
   have:b=val i:=by simpa using hb
   simp [e,this]
theorem iO:∀ {l m:List Int},l.Nodup->(∀ x∈l,x∈m)->m.length<=l.length->m.Perm l
 | [],m,_,_,h=>by
  have:m=[]:=udp.mp (by simpa using h)
  rw[this]
 | x::l,m,nd,sub,h=>by
  have hx:=sub x i5
  obtain⟨nx,nl⟩:=ua2.mp nd
  have pe:=udf hx
  refine pe.trans (List.Perm.cons x (iO nl (λ y hy=>?_) ?_))
  ·exact (ue3 λ e=>nx (by rw[← e];exact hy)).mpr (sub y (i7 _ hy))
  ·rw[ug2 hx];simp at h;left
theorem dJ (ns:List Int)(k:Int):HT.setS ns ns.length k=true↔k∈ns:=by
 have:=(dY (λ i=>ns.getD i 0) ns.length).2 k
 rw[cS] at this
 rw[← this]
 unfold HT.setS
 rw[ucc]
 exact⟨λ ⟨y,hy,e⟩=>by rw[← show y=k by simpa using e];exact hy,λ h=>⟨k,h,by simp⟩⟩
theorem zM {ns ms:List Int}(hl:ms.length=HT.setN ns ns.length)(hm:∀ k,HT.setS ns ns.length k=true↔k∈ms):ms.Nodup/\∀ k,k∈ms↔k∈ns:=by
 obtain⟨n1,n2⟩:=dY (λ i=>ns.getD i 0) ns.length
 rw[cS] at n2
 have pm:=iO (m:=ms) n1 (λ x hx=>(hm x).mp ((dJ ns x).mpr ((n2 x).mp hx))) (ueb hl)
 exact⟨pm.nodup_iff.mpr n1,λ k=>(hm k).symm.trans (dJ ns k)⟩
section
variable {g:TG}{tt:TT}{te:TE}{own:List Str}{js:List Nat}{σ:L2.St}{H1:Hp}{Q:VK}
end
def RowV (lo hi:Nat)(J:Hp)(v:V):Prop:=∃ (p:j9)(ns:List Int),v=.ref p/\J p=some (.tup (ns.map V.int))/\lo<=ns.length/\ns.length<=hi
end L3
namespace Shr
end Shr
namespace L3
open PySem PySem.Spec PyProof.Rows L2
theorem oX {ts:List Tie}{ks:List Nat}{u v:Nat}(h:adjK ts ks u v):Adj ts ks u v:=by
 obtain⟨k,hk,e⟩:=h
 unfold tbN at e
 have q:=uds e
 unfold isTB at q
 obtain⟨a,b⟩:=(uaj _ _).mp q
 have a:=ug9 a
 have b:=ug9 b
 refine⟨k,hk,a2_iff.mpr ?_⟩
 by_cases c:u<=v
 ·exact .inl ⟨by left,by left⟩
 ·exact .inr ⟨by left,by left⟩
theorem zat {n:Int}{ts:List Tie}{ks:List Nat}(ok:WebOk n ts)(ko:KeepOk ts.length ks){u v:Nat}(h:Adj ts ks u v):adjK ts ks u v:=by
 obtain⟨k',hk',m⟩:=h
 rcases a2_iff.mp m with ⟨z1,z2⟩ | ⟨z1,z2⟩
 ·rw[z1,z2];exact⟨k',hk',pL ok ko (pI hk')⟩
 ·rw[z1,z2];exact adjK.sym _ _ ⟨k',hk',pL ok ko (pI hk')⟩
end L3
namespace Frs
noncomputable def reps (n:Nat)(E:List T2):List Nat:=(c7 n).filter λ v=>@decide (∀ u,u<v->¬ Cn E u v) (Classical.propDecidable _)
end Frs
namespace L3
open PySem PySem.Spec PyProof.Rows L2
inductive Acy (ts:List Tie):List Nat->Prop
 | nil:Acy ts []
 | snoc {ks:List Nat} {k:Nat}:Acy ts ks->¬ Frs.Cn (ks.map (t2 ts)) (t2 ts k).1 (t2 ts k).2->Acy ts (ks++[k])
noncomputable def grN (ts:List Tie)(found:List Nat):List Nat->List Nat
 | []=>found
 | k::r=>grN ts (if cnB ts found k=true then found else found++[k]) r
theorem mU {ts:List Tie}:∀ {p r f:List Nat},grN ts f (p++r)=grN ts (grN ts f p) r
 | [],r,f=>rfl
 | k::p,r,f=>mU (p:=p)
theorem qV {ts:List Tie}{j:Nat}:∀ {os f:List Nat},j∈grN ts f os->j∈f\/j∈os
 | [],f,h=>.inl h
 | k::r,f,h=>by
  rcases qV (os:=r) h with z | z
  ·by_cases c:cnB ts f k=true
   ·rw[uhc c] at z;exact .inl z
   ·rw[uhd c] at z
    rcases o9.mp z with z | z
    ·exact .inl z
    ·rw[j5.mp z];exact .inr i5
  ·exact .inr (i7 _ z)
theorem oH {ts:List Tie}:∀ {os f:List Nat},(f++os).Nodup->(grN ts f os).Nodup
 | [],f,h=>by rw[ubi] at h;exact h
 | k::r,f,h=>by
  refine oH (os:=r) ?_
  have e:f++k::r=(f++[k])++r:=by simp
  rw[e] at h
  split
  ·exact h.sublist ((List.sublist_append_left f [k]).append_right r)
  ·exact h
theorem kL {ts:List Tie}:∀ {os f d:List Nat},(∀ u v,Frs.Cn (f.map (t2 ts)) u v↔Frs.Cn (d.map (t2 ts)) u v)->grN ts f os=f++rgN ts d os
 | [],f,d,h=>(ubi _).symm
 | k::r,f,d,h=>by
  have ec:cnB ts f k=cnB ts d k:=ubb.mpr (cnB_iff.trans ((h _ _).trans cnB_iff.symm))
  show grN ts (if cnB ts f k=true then f else f++[k]) r=f++rgN ts d (k::r)
  have e1:∀ l:List Nat,(l++[k]).map (t2 ts)=l.map (t2 ts)++[((t2 ts k).1,(t2 ts k).2)]:=λ l=>by rw[ua8];rfl
  by_cases c:cnB ts f k=true
  ·rw[uhc c]
   have ck:=cnB_iff.mp (ec ▸ c)
   have:=kL (os:=r) (f:=f) (d:=d++[k]) λ u v=>by
    rw[e1,Frs.cn_more,h]
    constructor
    ·exact .inl
    ·rintro (z | ⟨z1,z2⟩ | ⟨z1,z2⟩)
     ·exact z
     ·exact z1.app (ck.app z2)
     ·exact z1.app (ck.back.app z2)
   rw[this]
   show _=f++(if cnB ts d k=true then rgN ts (d++[k]) r else k::rgN ts (d++[k]) r)
   rw[uhc (ec ▸ c)]
  ·rw[uhd c]
   have:=kL (os:=r) (f:=f++[k]) (d:=d++[k]) λ u v=>by
    rw[e1,e1,Frs.cn_more,Frs.cn_more,h,h,h,h,h]
   rw[this]
   show _=f++(if cnB ts d k=true then rgN ts (d++[k]) r else k::rgN ts (d++[k]) r)
   rw[uhd (ec ▸ c)];simp
theorem xN {P:m5}{w:ual}{K:c6}{mg mb:Str->Option d6}{k:Nat}{fa a c Pt:j9}{fd:ub7}{x:Str}{sp:Sp}{s₁:d7}{vs:List d6}{ns:List Int}
  (KX:K.In s₁.heap) (hns:s₁.heap.Ns p8 mg) (hb:s₁.heap.Ns builtinsNs mb) (hbb:∀ x:Str,x≠"__name__"->mb x=bootBuiltins x) (hlim:s₁.heap.NoLimit) (hg:s₁.gens=#[])
  (ha:s₁.heap.get? a=some { cls:=.type "list",data:=.seq vs.toArray }) (hi:IntsAre vs ns) (hl:ns.length<=v5) (hr:Room k callerA)
  (hC:ud6 s₁.heap c Pt) (hT:s₁.heap.get? Pt=some (ues #[])) (hbm:∃ bm ob,mg "__builtins__"=some (.ref bm)/\bm≠builtinsNs/\s₁.heap.get? bm=some ob/\ob.cls=.type "module"/\ob.dict=some builtinsNs/\ob.data=.plain) (hnt:uf6 K=true) (hcs:Pt≠cStatics)
  (F:∀ base:Heap,K.In base->base.Ns p8 mg->LamHd mg base c Pt->FnOk P w K mg base CX0 k fa fd [x] sp) (hbind:∀ (s:d7)(u:d6),BindsTo s fd ⟨[u],[]⟩ [(x,u)])
  (hsp:∀ H:Hp,SqL K H a (ns.map V.int)->H Pt=some (.tbl #[])->sp [.ref a] H (λ v _=>v=.bl true) λ _ _ _=>False) :
  codeAny (v6 P w) callerA (.call (.ref fa) ⟨[.ref a],[]⟩) (λ r s'=>r=.ok (.ret (.bool true))/\OldK s₁.heap s'.heap/\s'.os=s₁.os/\AllBare s'.gens) s₁:=by
 have rv:=lZ hi
 have lenV:=hi.length
 have nap:a≠Pt:=λ z=>by rw[z,hT] at ha;cases ha
 have core : ∀ H : Hp, SqL K H a (ns.map V.int) → HOk P w H s₁.heap → H Pt = some (.tbl #[]) → (∀ b, H b ≠ none → b = a \/ b = Pt) → (H a = none \/ (∃ o xs, H a = some (.frz o (.lst xs))) /\ K.lookup a = none) →
     codeAny (v6 P w) callerA (.call (.ref fa) ⟨[.ref a],[]⟩) (λ r s'=>r=.ok (.ret (.bool true))/\OldK s₁.heap s'.heap/\s'.os=s₁.os/\AllBare s'.gens) s₁:=by
  intro H hS hok hPt hA hK
  have base_of:∀ {b:j9}{o:Obj},s₁.heap.get? b=some o->(∀ ys n,o.data≠.seq ys n)->(∀ ys,o.data≠.fields ys)->(hidT s₁.heap H).get? b=some o:=λ {b o} e n1 n2=>jM e (by
   cases q:H b with
   | none=>rfl
   | some u =>
    rcases hA b (by rw[q];simp) with z | z
    ·rw[z,ha] at e;cases e;exact absurd rfl (n1 _ _)
    ·rw[z,hT] at e;cases e;exact absurd rfl (n2 _))
  have nsK:∀ {b:j9}{m:Str->Option d6},s₁.heap.Ns b m->(hidT s₁.heap H).Ns b m:=λ {b m} ⟨o,es,ep,e,d,r⟩=>⟨o,es,ep,base_of e (λ ys n z=>by rw[d] at z;cases z) (λ ys z=>by rw[d] at z;cases z),d,r⟩
  have hKb:K.In (hidT s₁.heap H):=λ b o e=>jM (KX b o e) (by
   cases q:H b with
   | none=>rfl
   | some u =>
    rcases hA b (by rw[q];simp) with z | z
    ·subst z
     rcases hK with hK | hK
     ·rw[hK] at q;cases q
     ·rw[hK.2] at e;cases e
    ·subst z
     have h2:=ucd.mp hnt (b,o) (PySem.W.mem_of_lookupK e)
     have e2:=KX b o e
     rw[hT] at e2;cases e2
     exact absurd (show false=true from h2) j6)
  have hCb:ud6 (hidT s₁.heap H) c Pt:=by
   obtain⟨o,us,file,tf,flags,tg,inF,text,tt,e1,e2,e3,r⟩:=hC
   refine⟨o,us,file,tf,flags,tg,inF,text,tt,jM e1 ?_,e2,e3,r⟩
   cases q:H c with
   | none=>rfl
   | some u =>
    rcases hA c (by rw[q];simp) with z | z
    ·rw[z,ha] at e1;cases e1;cases e3
    ·rw[z,hT] at e1;cases e1;cases e2
  have hM:Mod K mg (hidT s₁.heap H):=⟨hKb,nsK hns,⟨mb,nsK hb,hbb⟩,let ⟨mc,h1,h2⟩:=hlim;⟨mc,nsK h1,h2⟩⟩
  have hL:LamHd mg (hidT s₁.heap H) c Pt:=⟨hCb,let ⟨bm,ob,b1,b2,b3,b4,b5,b6⟩:=hbm;⟨bm,ob,b1,b2,base_of b3 (λ ys n z=>by rw[b6] at z;cases z) (λ ys z=>by rw[b6] at z;cases z),b4,b5,b6⟩⟩
  have e0:Env0 P w K mg (hidT s₁.heap H) callerA [] s₁ H:=⟨rfl,hM,λ b o e=>zbe e,ueb (xX _ _),trivial,λ b hb=>absurd (show b∈([]:List j9) from hb) (by simp),hok,.of_eq hg⟩
  refine udh ((F _ hKb (nsK hns) hL).run callerA [] s₁ H ⟨[.ref a],[]⟩ [.ref a] [.ref a] _ _ hr e0 (hbind s₁ (.ref a)) (.cons rfl .nil) (hsp H hS hPt)) λ r s' h=>?_
  cases r with
  | error e=>exact h.elim
  | ok fl =>
   cases fl with
   | next=>exact False.elim h
   | brk=>exact False.elim h
   | cont=>exact False.elim h
   | ret u =>
    obtain⟨v,H',os,bare,un,hok',r',q⟩:=h
    have q':v=.bl true:=q
    subst q'
    obtain rfl:u=Value.bool true:=r'
    have kept:ud2 Pt s₁.heap s'.heap:=λ b o nb e=>by
     cases q:H b with
     | none=>exact un.keep b o e q (by intro z;exact absurd (show b∈([]:List j9) from z) (by simp)) (by simp)
     | some u =>
      rcases hA b (by rw[q];simp) with z | z
      ·subst z
       rcases hK with hK | ⟨⟨ob,xs,hK⟩,_⟩
       ·rw[hK] at q;cases q
       ·have z2:=un.frzs b ob _ hK
        obtain⟨e1,_⟩:=hok b _ hK
        obtain⟨e2,_⟩:=hok' b _ z2
        rw[e] at e1;cases e1
        exact e2
      ·exact absurd z nb
    obtain⟨more,hPt'⟩:=un.tbls Pt _ hPt
    have gP:s'.heap.get? Pt=some (ues (#[]++more)):=hok' Pt _ hPt'
    have nc:c≠Pt:=by obtain⟨_,_,_,_,_,_,_,_,_,_,_,_,_,_,_,_,_,_,z⟩:=hC;exact z
    have hC':ud6 s'.heap c Pt:=by
     obtain⟨o,us,file,tf,flags,tg,inF,text,tt,e1,r⟩:=hC
     exact⟨o,us,file,tf,flags,tg,inF,text,tt,kept _ _ nc e1,r⟩
    exact⟨rfl,(OldK.refl _).step_table (hC.tab hT) (hC.tab hT) (hC'.tab gP) kept hcs,os,bare⟩
 have okT:∀ H:Hp,H Pt=some (.tbl #[])->ObjOk P w H s₁.heap Pt (.tbl #[]):=λ H _=>hT
 cases hk:K.lookup a with
 | some o =>
  have e:=KX a o hk
  rw[ha] at e
  cases e
  refine core (λ b=>if b=Pt then some (.tbl #[]) else none) (.inr ⟨_,vs.toArray,_,hk,rfl,rfl,rfl,by rw[i8,lenV];exact hl,by simpa using rv⟩) (λ b u z=>?_) (uhc rfl) (λ b z=>?_) (.inl (uhd nap))
  ·by_cases hb:b=Pt
   ·have z':=(uhc hb).symm.trans z
    cases z'
    subst hb;exact hT
   ·have z':=(uhd hb).symm.trans z
    cases z'
  ·by_cases hb:b=Pt
   ·exact .inr hb
   ·exact absurd (uhd hb) z
 | none =>
  have eA:(λ b=>if b=a then some (HO.frz { cls:=.type "list",data:=.seq vs.toArray } (.lst (ns.map V.int))) else if b=Pt then some (.tbl #[]) else none) a=some (.frz { cls:=.type "list",data:=.seq vs.toArray } (.lst (ns.map V.int))):=uhc rfl
  refine core (λ b=>if b=a then some (.frz { cls:=.type "list",data:=.seq vs.toArray } (.lst (ns.map V.int))) else if b=Pt then some (.tbl #[]) else none) (.inl (.inr ⟨_,eA⟩)) (λ b u z=>?_) (by show (if Pt=a then _ else _)=_;rw[uhd (Ne.symm nap),uhc rfl]) (λ b z=>?_) (.inr ⟨⟨_,_,eA⟩,hk⟩)
  ·by_cases hb:b=a
   ·have z':=(uhc hb).symm.trans z
    cases z'
    subst hb
    exact⟨ha,by rw[c9];exact hl,vs,_,rv,ha⟩
   ·have z1:(if b=Pt then some (HO.tbl #[]) else none)=some u:=by rw[← z];exact (uhd hb).symm
    by_cases hb2:b=Pt
    ·rw[uhc hb2] at z1;cases z1;subst hb2;exact hT
    ·rw[uhd hb2] at z1;cases z1
  ·by_cases hb:b=a
   ·exact .inl hb
   ·by_cases hb2:b=Pt
    ·exact .inr hb2
    ·exact absurd ((uhd hb).trans (uhd hb2)) z
section
variable {K:c6}{h:Heap}{mg:Str->Option d6}{x:Str}{st:ude}{ps:List Str}{f c Pt:j9}{od an odc:Option j9}{sl slc:Array (Option d6)}{oc occ kV dc pm cd ct:d6}{us:Array d6}{fd:ub7}
theorem zK (a:uah K p8 x=some (some (.ref f)))(l:K.lookup f=some ⟨oc,od,.func fd,sl⟩)(t:ucr K x=some (c,Pt)):fd.code=.ref c:=by
 unfold ucr at t
 rw[a] at t;simp only [l] at t
 split at t
 ·rename_i c2 hc
  split at t
  ·split at t
   ·cases t;exact hc
   ·cases t
  ·cases t
 ·cases t
theorem zbr (X:K.In h)(G:h.Ns p8 mg)
  (b:∀ (kV doc pm:d6)(an:Option j9)(cdv ct:d6)(us:List d6),us.length=ps.length->bindArgs (ubf x x (defArgs st) (defBody st) (defScope st) .none kV doc pm an cdv ct) ⟨us,[]⟩=pure (ps.zip us))
  (a:uah K p8 x=some (some (.ref f))) (l:K.lookup f=some ⟨oc,od,.func (ubf x x (defArgs st) (defBody st) (defScope st) .none kV dc pm an cd ct),sl⟩) (cc:ucu K cd x=true) (k:ub3 K (.ref f)=true) (t:ucr K x=some (c,Pt)):DefOkC K mg x st ps c:=by
 have e:cd=.ref c:=zK a l t
 subst e
 exact⟨f,_,oc,od,kV,dc,pm,an,ct,sl,rfl,l,cc,k,(kH (st:=st) l cc k).binds b,ugg X G a⟩
end
theorem yZ {l:PySem.W.OpenLaw}{n k:Nat}{q:m5}{loose:List Str}{XP:(Str->Option d6)->Heap->Prop}{YP:ual->Heap->Prop}{d d9:DefRec}{K:Params->c6}{sp:ual->j9->Sp}{x xn:Str}
  (hn:l.most=some n) (hn2:n<=v5) (hdf:d.params.defaults=[]) (hr:Room k callerA) (hY:∀ (w:ual)(h:Heap),YP w h->(K w.params).In h)
  (hrec:(recsOf q).find? (λ e=>e.name==xn)=some d9) (htab:∀ w:ual,∃ c Pt,ucr (K w.params) xn=some (c,Pt)/\Pt≠cStatics) (hnt:∀ w:ual,uf6 (K w.params)=true)
  (F:∀ (w:ual)(mg:Str->Option d6)(fa:j9)(h:Heap)(c Pt:j9),(K w.params).In h->h.Ns p8 mg->mg d.name=some (.ref fa)->ucr (K w.params) xn=some (c,Pt) ->
   ∃ fd:ub7,(∀ (s:d7)(u:d6),BindsTo s fd ⟨[u],[]⟩ [(x,u)])/\∀ base:Heap,(K w.params).In base->base.Ns p8 mg->LamHd mg base c Pt->FnOk l.prog w (K w.params) mg base CX0 k fa fd [x] (sp w Pt))
  (hsp:∀ (w:ual)(Pt:j9)(H:Hp)(a:j9)(ns:List Int),ns.length<=n->SqL (K w.params) H a (ns.map V.int)->H Pt=some (.tbl #[])->sp w Pt [.ref a] H (λ v _=>v=.bl true) λ _ _ _=>False) :
  PySem.W.WalkO q loose XP YP l.row.toRowW d [] (λ f vs=>PySem.call f vs):=by
 refine Att.attach_call hn hdf λ w s₀ s₁ mg mb fa o pm cd doc a vs ns G Y ho hd hcd hmg hobj hints hlen hg=>?_
 have KX:=hY w _ Y
 obtain⟨c,Pt,ht,hcs⟩:=htab w
 obtain⟨hC,hT⟩:=PySem.W.tab_of G.T KX hrec ht
 obtain⟨fd,hb,hF⟩:=F w mg fa _ c Pt KX G.T.g hmg ht
 exact xN KX G.T.g G.T.b G.T.builtins G.T.nolimit hg hobj hints (uas hlen hn2) hr hC hT G.T.bmain (hnt w) hcs hF hb λ H hS hP=>hsp w Pt H a ns hlen hS hP
section
variable {P:m5}{w:ual}{K:c6}{mg:Str->Option d6}{base:Heap}
structure Clo (H:Hp)(h:Heap)(ys:List Str)(cl:List (Str × j9))(uys:List d6):Prop where
 names:cl.map (·.1)=ys
 unlike:(cl.map (·.2)).Nodup
 len:uys.length=cl.length
 cell:∀ (i:Nat)(y:Str)(c:j9)(u:d6),cl[i]?=some (y,c)->uys[i]?=some u->h.IsCell c (some u)
 free:∀ y c,(y,c)∈cl->H c=none
end
section
variable {X:Cx}
end
theorem zbd {X:Cx}{own fr:List Str}{scope:ueh}{fp:List j9}{pins:List (j9 × Obj)}{s3:d7}{H3:Hp}:OpR (cxComp X own fr scope fp pins s3 H3) (compareOp .Eq) (op_eqD_i X.K X.A.units):=kD (X:=cxComp X own fr scope fp pins s3 H3)
theorem zaf {K:c6}{t1 t2:Bool}{l1 l2:j9}{xs zs:List V}{g:TG}{tb:TS}{D:Ends}{σ:L2.St}{H:Hp}(Pv:Nat->L2.St->Hp->Prop)(h0:Pv 0 σ H)(hl:∀ i σ H,Pv i σ H->SqX t1 K H l1 xs/\SqX t2 K H l2 zs)
  (hs:∀ i x z T σ H,xs[i]?=some x->zs[i]?=some z->H T=none->Pv i σ H->g (.ref T) σ (upd H T (.tup [x,z])) λ σ2 H2=>tb { D with nx:=Pv (i+1),ct:=Pv (i+1),bk:=D.nx } σ2 H2) (hd:∀ σ H,Pv (min xs.length zs.length) σ H->D.nx σ H) :
  ∃ W:Nat->Nat->L2.St->Hp->Prop,(∃ m,W 0 m σ H)/\∀ i m σ H,W i m σ H ->
   ((Itz t1 t2 K l1 l2).stop i H/\D.nx σ H)\/((Itz t1 t2 K l1 l2).go i H/\∃ N:L2.St->Hp->Prop,(∀ σ' H',N σ' H'->∃ m',m'<m/\W (i+1) m' σ' H')/\∀ x H',(Itz t1 t2 K l1 l2).yld i H x H'->g x σ H' λ σ2 H2=>tb { D with nx:=N,ct:=N,bk:=D.nx } σ2 H2):=by
 refine⟨λ i m σ H=>m=xs.length-i/\i<=min xs.length zs.length/\Pv i σ H,⟨xs.length,by simp,w8 _,h0⟩,?_⟩
 rintro i m σ H ⟨rfl,hi,p⟩
 obtain⟨q1,q2⟩:=hl i σ H p
 by_cases hlt:i<xs.length/\i<zs.length
 ·have e1:xs[i]?=some xs[i]:=d8 hlt.1
  have e2:zs[i]?=some zs[i]:=d8 hlt.2
  refine .inr ⟨⟨xs,zs,_,_,q1,q2,e1,e2⟩,Pv (i+1),λ σ' H' p'=>⟨xs.length-(i+1),by left,rfl,by left,p'⟩,λ x H' y=>?_⟩
  obtain⟨T,x',y',hT,rfl,rfl,a1,a2⟩:=y
  have b1:=a1 _ q1
  have b2:=a2 _ q2
  exact hs i x' y' T σ H b1 b2 hT p
 ·have e:i=min xs.length zs.length:=by left
  exact .inl ⟨⟨xs,zs,q1,q2,by left⟩,hd σ H (e ▸ p)⟩
theorem wY {p l:j9}{J J':Hp}{lp:Pos}{qn:Str}(b:But p J J')(h:Tb p lp qn J')(e:J' l=none):J l=none:=by
 cases e4:J l with
 | none=>rfl
 | some o =>
  by_cases z:l=p
  ·obtain⟨ps,e5,_⟩:=h
   rw[z,e5] at e;cases e
  ·rw[b _ _ z e4] at e;cases e
theorem gK (ts:List Tie):KeepOk ts.length (forestN ts):=⟨iP ts,λ k hk=>j4.mp (uac.mp hk).1⟩
theorem qA {ts:List Tie}{p:List Nat}{k:Nat}:grN ts [] (p++[k])=if cnB ts (grN ts [] p) k=true then grN ts [] p else grN ts [] p++[k]:=mU (r:=[k])
theorem pJ {n:Int}{ts:List Tie}(ok:WebOk n ts){u v k:Nat}(h:tbN ts u v=some k):∀ j,j<ts.length->isTB ts u v j=true->j=k:=λ j hj hb=>by
 have h1:=uds h
 have hk:k<ts.length:=j4.mp (ugu h)
 unfold isTB at h1 hb
 rw[uaj,decide_eq_true_iff,decide_eq_true_iff] at h1 hb
 have key:∀ {a b:Nat},a<b->b<ts.length->(tieAt ts a).1=(tieAt ts b).1->(tieAt ts a).2.1=(tieAt ts b).2.1->False:=λ {a b} ab hb e1 e2=>by
  have pw:=ucj.mp ok.rise
  have g:∀ {i:Nat}(hi:i<ts.length),ts[i]=tieAt ts i:=λ {i} hi=>by
   have:=(bI hi).1
   rw[d8 hi] at this
   exact u7 this
  have q:=pw a b (by left) hb ab
  rw[g (by left),g hb] at q
  unfold endLt at q
  left
 rcases uel j k with z | z | z
 ·exact (key z hk (by left) (by left)).elim
 ·exact z
 ·exact (key z hj (by left) (by left)).elim
noncomputable def farZ (A:List (Nat × Nat × Int))(s v:Nat):Int:=@dite _ (∃ d,Far.Dst A s v (some d)) (Classical.propDecidable _) (λ h=>Classical.choose h) (λ _=>0)
theorem qC {A:List (Nat × Nat × Int)}{s v:Nat}{d:Int}(h:Far.Dst A s v (some d)):farZ A s v=d:=by
 have ex:∃ d,Far.Dst A s v (some d):=⟨d,h⟩
 unfold farZ
 rw[dif_pos ex]
 exact u7 ((Classical.choose_spec ex).unique h)
def tiedN (ts:List Tie)(ks:List Nat)(h j:Nat):Bool:=(nbN ts ks (h:Int)).contains j
theorem eF {n:Int}{ts:List Tie}{ks:List Nat}(ok:WebOk n ts)(ko:KeepOk ts.length ks){h j:Nat}:tiedN ts ks h j=true↔adjK ts ks h j:=by
 unfold tiedN
 rw[ubw,decide_eq_true_iff,qS ok ko]
 exact⟨zat ok ko,oX⟩
def goS (ts:List Tie)(F:Nat->Int)(p q:Int)(s:Int × List Nat):Dfs.Ev->Int × List Nat
 | .go h t=>if q*(s.1+tlen ts h t)>(p+q)*F t then (F t,s.2++[t]) else (s.1+tlen ts h t,s.2)
 | .back h (some o)=>(s.1+tlen ts h o,s.2)
 | .back _ none=>s
structure PuI (n:Int)(ts:List Tie)(ks:List Nat)(r:Nat)(tr sn pl:List Nat):Prop where
 nd:sn.Nodup
 lt:∀ x∈sn,x<n.toNat
 sub:∀ x∈tr,x∈sn
 ltr:tr.length<=sn.length
 lpl:pl.length<=sn.length
 chn:Far.chn (adjK ts ks) tr
 rch:∀ x∈sn,∃ L,Far.Walk (arcs ts (c7 ts.length)) r x L
theorem PuI.few {n:Int}{ts:List Tie}{ks:List Nat}{r:Nat}{tr sn pl:List Nat}(I:PuI n ts ks r tr sn pl):sn.length<=n.toNat:=Peel.cV n.toNat sn I.nd I.lt
theorem PuI.start {n:Int}{ts:List Tie}{ks:List Nat}{r:Nat}(h:r<n.toNat):PuI n ts ks r [r] [r] [] where
 nd:=by simp
 lt:=λ x hx=>by rw[j5.mp hx];exact h
 sub:=λ x hx=>hx
 ltr:=h9 _
 lpl:=w8 _
 chn:=by trivial
 rch:=λ x hx=>by rw[j5.mp hx];exact⟨0,.nil⟩
theorem PuI.pop {n:Int}{ts:List Tie}{ks:List Nat}{r h:Nat}{tr sn pl:List Nat}(I:PuI n ts ks r (h::tr) sn pl):PuI n ts ks r tr sn pl where
 nd:=I.nd
 lt:=I.lt
 sub:=λ x hx=>I.sub x (i7 _ hx)
 ltr:=by have:=I.ltr;rw[z0] at this;left
 lpl:=I.lpl
 chn:=by
  cases tr with
  | nil=>trivial
  | cons a t=>exact I.chn.2
 rch:=I.rch
theorem fW {n:Int}{ts:List Tie}{ks:List Nat}{r h t:Nat}(ok:WebOk n ts)(ko:KeepOk ts.length ks)(a:adjK ts ks h t)(e:∃ L,Far.Walk (arcs ts (c7 ts.length)) r h L):∃ L,Far.Walk (arcs ts (c7 ts.length)) r t L:=by
 obtain⟨L,w⟩:=e
 obtain⟨k,hk,m⟩:=oX a
 exact⟨_,w.snoc (arcs_mem.mpr ⟨k,j4.mpr (ko.2 k hk),m⟩)⟩
theorem PuI.push {n:Int}{ts:List Tie}{ks:List Nat}{r h t:Nat}{tr sn pl pl':List Nat}(ok:WebOk n ts)(ko:KeepOk ts.length ks)(I:PuI n ts ks r (h::tr) sn pl)(f:Dfs.First (tiedN ts ks) n.toNat h sn t)(l:pl'.length<=pl.length+1):PuI n ts ks r (t::h::tr) (sn++[t]) pl' where
 nd:=by
  rw[ucm]
  exact⟨I.nd,by simp,λ a ha b hb=>by rw[j5.mp hb];exact λ z=>f.2.2.1 (z ▸ ha)⟩
 lt:=λ x hx=>by
  rcases o9.mp hx with z | z
  ·exact I.lt x z
  ·rw[j5.mp z];exact f.1
 sub:=λ x hx=>by
  rcases j0.mp hx with z | z
  ·rw[z];exact r8 _ i5
  ·exact uag _ (I.sub x z)
 ltr:=by have:=I.ltr;rw[i9,u5,z0];left
 lpl:=by have:=I.lpl;rw[i9,u5];left
 chn:=⟨adjK.sym _ _ ((eF ok ko).mp f.2.1),I.chn⟩
 rch:=λ x hx=>by
  rcases o9.mp hx with z | z
  ·exact I.rch x z
  ·rw[j5.mp z]
   exact fW ok ko ((eF ok ko).mp f.2.1) (I.rch h (I.sub h i5))
theorem oO (xs:List V):cutV xs (some (-1)) none=xs.drop (xs.length-1):=by
 have e1:HT.sIx xs.length 0 (some (-1))=xs.length-1:=by
  unfold HT.sIx
  simp
  left
 unfold cutV
 rw[e1,show HT.sIx xs.length xs.length none=xs.length from rfl]
 refine ub9 ?_
 rw[uby];exact h9 _
theorem yH:∀ rest:List Nat,cutV (natV rest.reverse) (some (-1)) none=natV rest.head?.toList
 | []=>by rw[oO];rfl
 | b::t=>by
  have l1:(natV t.reverse).length=t.length:=by unfold natV;rw[c9,ua9]
  have e:natV (b::t).reverse=natV t.reverse++[V.int (b:Int)]:=by unfold natV;rw[ub0,ua8];rfl
  rw[oO,e,i9,u5,Nat.add_sub_cancel,List.drop_left];rfl
theorem wM {ts:List Tie}{ks:List Nat}(ko:KeepOk ts.length ks){here:Nat}:∀ {rest:List Nat},Far.chn (adjK ts ks) (here::rest)->linked ts (here::rest.head?.toList)
 | [],_=>True.intro
 | b::t,h=>by
  obtain⟨k,hk,e⟩:=h.1
  exact⟨⟨k,e,ko.2 k hk⟩,True.intro⟩
theorem nJ {ts:List Tie}{F:Nat->Int}{p q c:Int}{pl:List Nat}{here:Nat}:∀ rest:List Nat,goS ts F p q (c,pl) (.back here rest.head?)=(c+wl ts (here::rest.head?.toList),pl)
 | []=>by show (c,pl)=(c+0,pl);rw[Int.add_zero]
 | b::t=>by show (c+tlen ts here b,pl)=(c+(tlen ts here b+0),pl);rw[Int.add_zero]
theorem hZ {ts:List Tie}{F:Nat->Int}{p q c:Int}{pl:List Nat}{h t:Nat}:goS ts F p q (c,pl) (.go h t)=if q*(c+tlen ts h t)>(p+q)*F t then (F t,pl++[t]) else (c+tlen ts h t,pl):=rfl
theorem zbf {n:Int}{ts:List Tie}{ks:List Nat}(ok:WebOk n ts)(ko:KeepOk ts.length ks){h:Nat}{sn:List Nat}(nn:Dfs.NoneNew (tiedN ts ks) n.toNat h sn):∀ p,p∈nbN ts ks (h:Int)->p∈sn:=λ p hp =>
 nn p (zcu ok ko h p ((qS ok ko h p).mp hp)) (by unfold tiedN;rw[ubw];exact ug8 hp)
theorem yF {n:Int}{ts:List Tie}{ks:List Nat}(ok:WebOk n ts)(ko:KeepOk ts.length ks){h t p:Nat}{sn:List Nat}(f:Dfs.First (tiedN ts ks) n.toNat h sn t)(hp:p∈nbN ts ks (h:Int))(hs:p∉sn)(least:∀ j,j∈nbN ts ks (h:Int)->j∉sn->p<=j):p=t:=by
 have ht:t∈nbN ts ks (h:Int):=by
  have:=f.2.1
  unfold tiedN at this
  rw[ubw] at this
  exact ug9 this
 have h1:=least t ht f.2.2.1
 rcases ufw p t with z | z
 ·exact absurd (f.2.2.2 p z (by unfold tiedN;rw[ubw];exact ug8 hp)) hs
 ·exact Nat.le_antisymm h1 z
end L3
namespace Dfs
variable {tied:Nat->Nat->Bool}{n:Nat}
theorem goneL_app {g:Nat->List Nat->List Ev × List Nat}{here:Nat}{r:List Nat}:∀ (l known:List Nat),goneL tied g here (l++r) known=((goneL tied g here l known).1++(goneL tied g here r (goneL tied g here l known).2).1,(goneL tied g here r (goneL tied g here l known).2).2)
 | [],known=>by show _=([]++_,_);rw[ucn];rfl
 | t::l,known=>by
  rw[List.cons_append,goneL,goneL]
  by_cases c:tied here t=true/\t∉known
  ·rw[uhc c,uhc c,goneL_app l]
   simp [ubp]
  ·rw[uhd c,uhd c];exact goneL_app l known
theorem goneL_one {g:Nat->List Nat->List Ev × List Nat}{here t:Nat}{known:List Nat}:goneL tied g here [t] known=if tied here t=true/\t∉known then (.go here t::((g t (known++[t])).1++[.back t (some here)]),(g t (known++[t])).2) else ([],known):=rfl
def Kn (n:Nat)(ks:List Nat)(r:List Ev × List Nat):Prop:=r.2.Nodup/\(∀ x∈r.2,x<n)/\r.1.length+2*ks.length=2*r.2.length
theorem goneL_kn {g:Nat->List Nat->List Ev × List Nat}(hg:∀ t ks,ks.Nodup->(∀ x∈ks,x<n)->Kn n ks (g t ks)){here:Nat}:∀ (l known:List Nat),(∀ x∈l,x<n)->known.Nodup->(∀ x∈known,x<n)->Kn n known (goneL tied g here l known)
 | [],known,_,nd,lt=>⟨nd,lt,by show 0+2*known.length=2*known.length;left⟩
 | t::l,known,hl,nd,lt=>by
  rw[goneL]
  by_cases c:tied here t=true/\t∉known
  ·rw[uhc c]
   have nd':(known++[t]).Nodup:=by
    rw[ucm]
    exact⟨nd,by simp,λ a ha b hb=>by rw[j5.mp hb];exact λ z=>c.2 (z ▸ ha)⟩
   have lt':∀ x∈known++[t],x<n:=λ x hx=>by
    rcases o9.mp hx with z | z
    ·exact lt x z
    ·rw[j5.mp z];exact hl t i5
   obtain⟨a1,a2,a3⟩:=hg t (known++[t]) nd' lt'
   obtain⟨b1,b2,b3⟩:=goneL_kn hg (here:=here) l (g t (known++[t])).2 (λ x hx=>hl x (i7 _ hx)) a1 a2
   refine⟨b1,b2,?_⟩
   rw[i9,u5] at a3
   simp only [z0,i9]
   left
  ·rw[uhd c];exact goneL_kn hg l known (λ x hx=>hl x (i7 _ hx)) nd lt
theorem gone_kn:∀ (f here:Nat)(known:List Nat),known.Nodup->(∀ x∈known,x<n)->Kn n known (gone tied n f here known)
 | 0,_,known,nd,lt=>⟨nd,lt,by show 0+2*known.length=2*known.length;left⟩
 | f+1,here,known,nd,lt=>goneL_kn (λ t ks=>gone_kn f t ks) (c7 n) known (λ x hx=>j4.mp hx) nd lt
end Dfs
namespace Dfs
theorem Run.sub {tied tied':Nat->Nat->Bool}{n:Nat}{Rc:Nat->Prop}(h1:∀ x y,Rc x->tied' x y=tied x y)(h2:∀ x y,Rc x->tied x y=true->Rc y) {tr seen es out} (h:Run tied n tr seen es out):(∀ x∈tr,Rc x)->Run tied' n tr seen es out:=by
 induction h with
 | nil=>intro _;exact .nil _
 | @pop here rest seen es out nn _ ih =>
  intro hr
  have r:=hr here i5
  exact .pop (λ j hj tj=>nn j hj (by rw[← h1 here j r];exact tj)) (ih λ x hx=>hr x (i7 _ hx))
 | @push here rest seen p es out f _ ih =>
  intro hr
  have r:=hr here i5
  refine .push ⟨f.1,by rw[h1 here p r];exact f.2.1,f.2.2.1,λ j hj tj=>f.2.2.2 j hj (by rw[← h1 here j r];exact tj)⟩ (ih λ x hx=>?_)
  rcases j0.mp hx with z | z
  ·rw[z];exact h2 here p r f.2.1
  ·exact hr x z
end Dfs
namespace L3
open PySem PySem.Spec PyProof.Rows L2
theorem jU {n:Int}{ts:List Tie}(ok:WebOk n ts){u v k:Nat}(hk:k<ts.length)(h:isTB ts u v k=true):tbN ts u v=some k:=by
 cases e:tbN ts u v with
 | none =>
  unfold tbN at e
  exact absurd h (ud9.mp e k (j4.mpr hk))
 | some j=>rw[pJ ok e k hk h]
theorem iQ {n:Int}{ts:List Tie}{ks:List Nat}(ok:WebOk n ts)(ko:KeepOk ts.length ks){h t:Nat}:tiedN ts ks h t=ks.any (isTB ts h t):=by
 rw[ubb,eF ok ko,ucc]
 refine⟨λ ⟨k,hk,e⟩=>⟨k,hk,uds e⟩,λ ⟨k,hk,e⟩=>⟨k,hk,jU ok (ko.2 k hk) e⟩⟩
theorem zaa {n:Int}{ts:List Tie}(ok:WebOk n ts){u v k:Nat}(hk:k<ts.length)(h:isTB ts u v k=true):(tieAt ts k).2.2=tlen ts u v:=by
 unfold tlen;rw[jU ok hk h];rfl
theorem wW (ts:List Tie)(u v:Nat):tlen ts u v=tlen ts v u:=by unfold tlen;rw[pK]
end L3
namespace Dfs
def Ev.fine:Ev->Prop
 | .back _ none=>False
 | _=>True
theorem iT {tied:Nat->Nat->Bool}{g:Nat->List Nat->List Ev × List Nat}(hg:∀ t ks,∀ e∈(g t ks).1,e.fine){here:Nat}:∀ (l known:List Nat),∀ e∈(goneL tied g here l known).1,e.fine
 | [],_,e,h=>by cases h
 | t::l,known,e,h=>by
  rw[goneL] at h
  by_cases c:tied here t=true/\t∉known
  ·rw[uhc c] at h
   rcases j0.mp h with h | h
   ·rw[h];trivial
   rcases o9.mp h with h | h
   ·exact hg _ _ e h
   rcases j0.mp h with h | h
   ·rw[h];trivial
   ·exact iT hg l _ e h
  ·rw[uhd c] at h;exact iT hg l _ e h
theorem gone_fine {tied:Nat->Nat->Bool}{n:Nat}:∀ (f here:Nat)(known:List Nat),∀ e∈(gone tied n f here known).1,e.fine
 | 0,_,_,e,h=>by cases h
 | f+1,here,known,e,h=>iT (λ t ks=>gone_fine f t ks) _ _ e h
theorem Run.go_ok {tied:Nat->Nat->Bool}{n:Nat}{Rc:Nat->Prop}(h2:∀ x y,Rc x->tied x y=true->Rc y) {tr seen es out} (h:Run tied n tr seen es out):(∀ x∈tr,Rc x)->∀ a b,Ev.go a b∈es->b<n/\Rc b:=by
 induction h with
 | nil=>intro _ a b h;cases h
 | @pop here rest seen es out nn _ ih =>
  intro hr a b h
  rcases j0.mp h with h | h
  ·cases h
  ·exact ih (λ x hx=>hr x (i7 _ hx)) a b h
 | @push here rest seen p es out f _ ih =>
  intro hr a b h
  have rp:=h2 here p (hr here i5) f.2.1
  rcases j0.mp h with h | h
  ·cases h;exact⟨f.1,rp⟩
  ·refine ih (λ x hx=>?_) a b h
   rcases j0.mp hx with z | z
   ·rw[z];exact rp
   ·exact hr x z
end Dfs
namespace L3
open PySem PySem.Spec PyProof.Rows L2
theorem xA {ts:List Tie}{F:Nat->Int}{p q:Int}{tied:Nat->Nat->Bool}{n:Nat}{tr sn:List Nat}{es:List Dfs.Ev}{out:List Nat}(h:Dfs.Run tied n tr sn es out):∀ (c:Int)(pl:List Nat),(es.foldl (goS ts F p q) (c,pl)).2.length+sn.length<=pl.length+out.length/\∀ x∈(es.foldl (goS ts F p q) (c,pl)).2,x∈pl\/∃ a,Dfs.Ev.go a x∈es:=by
 induction h with
 | nil=>exact λ c pl=>⟨h9 _,λ x hx=>.inl hx⟩
 | @pop here rest seen es out nn _ ih =>
  intro c pl
  rw[udd,nJ]
  obtain⟨a,b⟩:=ih (c+wl ts (here::rest.head?.toList)) pl
  refine⟨a,λ x hx=>?_⟩
  rcases b x hx with z | ⟨y,z⟩
  ·exact .inl z
  ·exact .inr ⟨y,i7 _ z⟩
 | @push here rest seen pn es out f _ ih =>
  intro c pl
  rw[udd,hZ]
  by_cases cc:q*(c+tlen ts here pn)>(p+q)*F pn
  ·rw[uhc cc]
   obtain⟨a,b⟩:=ih (F pn) (pl++[pn])
   rw[i9,i9,u5] at a
   refine⟨by left,λ x hx=>?_⟩
   rcases b x hx with z | ⟨y,z⟩
   ·rcases o9.mp z with z | z
    ·exact .inl z
    ·rw[j5.mp z];exact .inr ⟨here,i5⟩
   ·exact .inr ⟨y,i7 _ z⟩
  ·rw[uhd cc]
   obtain⟨a,b⟩:=ih (c+tlen ts here pn) pl
   rw[i9,u5] at a
   refine⟨by left,λ x hx=>?_⟩
   rcases b x hx with z | ⟨y,z⟩
   ·exact .inl z
   ·exact .inr ⟨y,i7 _ z⟩
theorem uE {n:Int}{ts:List Tie}{ks:List Nat}{r:Nat}{P:Nat->Bool}(ok:WebOk n ts)(ko:KeepOk ts.length ks)(hP:∀ k,k∈ks->(P k=true↔∃ L,Far.Walk (arcs ts (c7 ts.length)) r (tieAt ts k).1.toNat L)){x y:Nat}(rx:∃ L,Far.Walk (arcs ts (c7 ts.length)) r x L):tiedN ts ks x y=tiedN ts (ks.filter P) x y:=by
 have kf:KeepOk ts.length (ks.filter P):=⟨uc6 _ ko.1,λ k hk=>ko.2 k (uac.mp hk).1⟩
 rw[ubb,iQ ok ko,iQ ok kf,ucc,ucc]
 refine⟨λ ⟨k,hk,b⟩=>⟨k,uac.mpr ⟨hk,(hP k hk).mpr ?_⟩,b⟩,λ ⟨k,hk,b⟩=>⟨k,(uac.mp hk).1,b⟩⟩
 have e:(tieAt ts k).1=min (x:Int) y:=by
  unfold isTB at b
  rw[uaj] at b
  exact ug9 b.1
 have ry:=fW ok ko (t:=y) ⟨k,hk,jU ok (ko.2 k hk) b⟩ rx
 rcases Int.le_total (x:Int) y with z | z
 ·rw[show (tieAt ts k).1.toNat=x by left];exact rx
 ·rw[show (tieAt ts k).1.toNat=y by left];exact ry
end L3
namespace Stb
open PySem PyProof.Rows
section
variable {prog:m5}{w:ual}{A:uaf}{E:d6->d7->Prop}{s:d7}
theorem zch {t:j9}{xs:Array d6}{ns:List Int}{Q:d6->d7->Prop}(hh:A.handled=none)(ht:s.heap.IsList t xs)(hi:IntsAre xs.toList ns)(hb:xs.size+1<scanBound)
  (fin:∀ (h':Heap)(tk:Nat),SetT prog w h' s.heap.objs.size (HT.setS ns xs.size) (HT.setN ns xs.size)->(∀ b o,b<s.heap.objs.size->s.heap.get? b=some o->h'.get? b=some o)->Q (.ref s.heap.objs.size) { s with heap:=h',toks:=tk }) :
  j8 (v6 prog w) A (call (.type "set") [.ref t]) Q E s:=by
 obtain⟨c,tl,hmro⟩:=uak.mro
 have hmade:=uak.made;have hsub:=uak.sub
 refine ugf (codeAny_of_tree ?_);show j8 _ _ (callAny (.type "set") _) _ _ _
 refine c8 ⟨Code.quiet_builtin _ (by symm),ubm ugh ?_⟩
 rw[Around.under_plain (uf5 "set" [.ref t] []) rfl]
 have h1:=uak.notType;have h2:=uak.canCreate;have hct:=ugr (.ref t)
 repeat (any_goals (first | assumption | wp_step))
 refine udh (rG (.ref t) (E:=E) (U:=λ obj s₁=>obj=.ref s.heap.objs.size/\s₁={ s with heap:=s.heap.push (emp w) }) ⟨rfl,rfl⟩) λ r s₁ hr=>?_
 match r,hr with
 | .error e,hr=>exact hr
 | .ok .next,hr=>exact hr.elim
 | .ok .brk,hr=>exact hr.elim
 | .ok .cont,hr=>exact hr.elim
 | .ok (.ret obj),hr =>
  obtain⟨rfl,rfl⟩:=hr
  have gS:(s.heap.push (emp w)).get? s.heap.objs.size=some (emp w):=i6 _ rfl
  have hT:Shared.TypeIs { s with heap:=s.heap.push (emp w) } (.ref s.heap.objs.size) "set":=⟨_,gS,rfl⟩
  have hli:=uak.init.lookup;have hbi:=uak.init.bind (.ref s.heap.objs.size)
  repeat (any_goals (first | assumption | wp_step))
  refine udh (ufh (R:=wants (λ r s₂=>r=.none/\∃ h' tk,s₂={ s with heap:=h',toks:=tk }/\SetT prog w h' s.heap.objs.size (HT.setS ns xs.size) (HT.setN ns xs.size)/\(∀ b o,b<s.heap.objs.size->s.heap.get? b=some o->h'.get? b=some o)) E) uak.init.plain ugs (ug3 hT ?_)) λ r₂ s₂ hr₂=>?_
  ·obtain⟨ot,ho,hc,m,hd⟩:=id ht
   obtain⟨ocls,odict,odata,oslots⟩:=ot
   simp only at hc hd;subst hc hd
   have ho':(s.heap.push (emp w)).get? t=some { cls:=.type "list",dict:=odict,data:=.seq xs m,slots:=oslots }:=b9 _ ho
   have f1:=PySem.F.sub_list_set;have f2:=PySem.F.sub_list_frozenset
   have f3:(Value.type "list"==Value.type "dict")=false:=by decide
   have it1:(s.heap.push (emp w)).IsList t xs:=⟨_,ho',rfl,m,rfl⟩
   unfold Builtin.«set.__init__» noKeywords Builtin.Frozenset.updateFrom
   generalize hPI:pyIter=PI
   wp_walk;subst hPI
   refine uc1 it1 (a9 (ufm ?_))
   have lt:t<s.heap.objs.size:=j3 ho
   have hh3:A.in1.in1.in1.handled=none:=by simp [hh]
   have sz1:(s.heap.push (emp w)).objs.size=s.heap.objs.size+1:=uaz ..
   have tI:t≠(s.heap.push (emp w)).objs.size:=by rw[sz1];exact j7 (ube lt)
   have Sfp:s.heap.objs.size∉[(s.heap.push (emp w)).objs.size,t]:=by
    rw[sz1];simp only [j0,w6,or_false,not_or];exact⟨j7 (ua4 _),(j7 lt).symm⟩
   have vals:∀ (i:Nat)(v:d6),xs[i]?=some v->∃ u,v=.int ((λ i=>ns.getD i 0) i) u:=λ i v hv=>IntsAre.int_at hi i v (by rw[ubn];exact hv)
   refine qW ((Walks.list hh3 _ t tI xs).toS) s.heap.objs.size Sfp (λ i=>ns.getD i 0) vals hb (xs.size-0) 0 _ (by left) (w8 _) ?st ?s0 ?fin
   case st=>exact⟨⟨_,i6 _ rfl,rfl,rfl⟩,it1.push _⟩
   case s0=>exact (rJ s.heap).keep λ o e=>b9 _ e
   case fin =>
    rintro ⟨h',g',d',tk',os'⟩ hm hS'
    obtain rfl:g'=s.gens:=hm.gens
    obtain rfl:d'=s.drawn:=hm.drawn
    obtain rfl:os'=s.os:=hm.os
    refine c8 (c8 ⟨rfl,h',tk',rfl,hS',λ b o hlt e=>hm.heap b o ?_ (b9 _ (b9 _ e))⟩)
    rw[sz1];simp only [j0,w6,or_false,not_or]
    exact⟨j7 hlt,j7 (ube hlt)⟩
  ·match r₂,hr₂ with
   | .error e,hr₂=>exact hr₂
   | .ok .next,hr₂=>exact hr₂.elim
   | .ok .brk,hr₂=>exact hr₂.elim
   | .ok .cont,hr₂=>exact hr₂.elim
   | .ok (.ret v),hr₂ =>
    obtain⟨rfl,h',tk,rfl,hS',hk⟩:=hr₂
    repeat (any_goals (first | assumption | wp_step))
    exact fin h' tk hS' hk
end
end Stb
namespace L3
open PySem PySem.Spec PyProof.Rows L2
section
variable {X:Cx}
theorem lY (hh:X.calm=true):CallR X (.type "set") (λ xs H Q=>∃ (p:j9)(ns:List Int),xs=[.ref p]/\H p=some (.lst (ns.map V.int))/\ns.length<=1000/\∀ q H',Same H H'->H q=none->H' q=some (SetO X.prog X.w q (HT.setS ns ns.length) (HT.setN ns ns.length))->Q (.ref q) H'):=by
 intro pins s σ H xs us Q I r h
 obtain⟨p,ns,rfl,hp,hl,q⟩:=h
 obtain⟨u,rfl,rx⟩:=vals1 r
 cases rx
 obtain⟨its,rv,pt,hz⟩:=I.list (SqL.of hp)
 have hlen:=rv.length
 rw[c9] at hlen
 have fr:H s.heap.objs.size=none:=I.hok.fresh (h9 _)
 have esz:its.toArray.size=ns.length:=by rw[i8,← hlen]
 refine Stb.zch (ns:=ns) (I.ok.hd hh) (show s.heap.IsList p its.toArray from pt.isList) (by simpa using cO rv) (by rw[esz];unfold scanBound;left) λ h' tk hS hk=>?_
 rw[esz] at hS
 refine⟨.ref s.heap.objs.size,_,I.laid (a:=s.heap.objs.size) (o:=SetO X.prog X.w s.heap.objs.size (HT.setS ns ns.length) (HT.setN ns ns.length)) (t':=tk) (λ b o e=>hk b o (j3 e) e) (h9 _) ⟨hS,?_,λ h1 h2 x k=>x.keep k⟩,rfl,q _ _ (aQ fr) fr aH⟩
 obtain⟨⟨o,_,_,_,ho,_⟩,_⟩:=hS
 exact⟨o,ho⟩
end
end L3
namespace Far
variable {A:List (Nat × Nat × Int)}{s:Nat}
def Unit1 (A:List (Nat × Nat × Int)):Prop:=∀ u v l,(u,v,l)∈A->l=1
def AtK (A:List (Nat × Nat × Int))(s k v:Nat):Prop:=Walk A s v (k:Int)/\∀ x,Walk A s v x->(k:Int)<=x
structure Bfs (A:List (Nat × Nat × Int))(s i:Nat)(D:Nat->Option Nat)(ring:List Nat):Prop where
 found:∀ v d,D v=some d↔AtK A s d v/\d<i
 ring:∀ v,v∈ring↔AtK A s i v
end Far
namespace L3
end L3
namespace L3
open PySem PySem.Spec PyProof.Rows L2
theorem nV {ns:List Int}{m:Nat}(h:∀ x∈ns,0<=x/\x<m):HT.setN ns ns.length<=m:=by
 obtain⟨h1,h2⟩:=dY (λ i=>ns.getD i 0) ns.length
 rw[L3.cS ns 0] at h2
 have e:(firstMet (λ i=>ns.getD i 0) ns.length).length=((firstMet (λ i=>ns.getD i 0) ns.length).map Int.toNat).length:=(c9 _).symm
 show (firstMet (λ i=>ns.getD i 0) ns.length).length<=m
 rw[e]
 refine Peel.cV m _ ?_ λ p hp=>?_
 ·rw[uap,uao]
  refine uca ?_ h1
  intro a b ha hb ne z
  have:=h a ((h2 a).mp ha)
  have:=h b ((h2 b).mp hb)
  exact ne (by left)
 ·obtain⟨x,hx,rfl⟩:=y2.mp hp
  have:=h x ((h2 x).mp hx)
  left
theorem jL:∀ {ms:List Int},(∀ x∈ms,0<=x)->ms.map V.int=natV (ms.map Int.toNat)
 | [],_=>rfl
 | x::ms,h=>by
  have e:((x.toNat:Nat):Int)=x:=uar (h x i5)
  have ih:=jL (ms:=ms) λ y hy=>h y (i7 _ hy)
  show V.int x::ms.map V.int=V.int ((x.toNat:Nat):Int)::natV (ms.map Int.toNat)
  rw[e,ih]
theorem cH (a b:List Nat):natV (a++b)=natV a++natV b:=by unfold natV;rw[ua8]
theorem bC (a:List Nat):(natV a).length=a.length:=by unfold natV;rw[c9]
theorem bF (E:List (Option Nat)){i v:Nat}(x:Nat)(h:i<E.length):Far.get (E.set i (some x)) v=if v=i then some x else Far.get E v:=by
 unfold Far.get
 rw[g9,g9]
 by_cases z:v=i
 ·subst z
  rw[uhc rfl,uer h];rfl
 ·rw[uhd z,ue4 (Ne.symm z)]
section
variable {n g:Int}{ts:List Tie}{ks:List Nat}{k:Nat}
end
def tupH (hs:List Int):ubr:=.tuple (hs.map .int)
end L3
namespace Far
end Far
namespace L3
open PySem PySem.Spec PyProof.Rows L2
section
variable {n:Int}{ts:List Tie}
theorem cW (ts:List Tie):KeepOk ts.length (c7 ts.length):=⟨uaw,λ k hk=>j4.mp hk⟩
theorem jF:∀ {a b:List Nat},a.Pairwise (·<·)->b.Pairwise (·<·)->(∀ k,k∈a↔k∈b)->a=b
 | [],[],_,_,_=>rfl
 | [],y::b,_,_,h=>by have:=(h y).mpr i5;cases this
 | x::a,[],_,_,h=>by have:=(h x).mp i5;cases this
 | x::a,y::b,pa,pb,h=>by
  obtain⟨p1,p2⟩:=uce.mp pa
  obtain⟨q1,q2⟩:=uce.mp pb
  have e:x=y:=by
   rcases j0.mp ((h x).mp i5) with z | z
   ·exact z
   ·rcases j0.mp ((h y).mpr i5) with y' | y'
    ·exact y'.symm
    ·have:=q1 x z;have:=p1 y y';left
  subst e
  rw[jF p2 q2 λ k=>?_]
  constructor
  ·intro hk
   rcases j0.mp ((h k).mp (i7 _ hk)) with z | z
   ·have:=p1 k hk;left
   ·exact z
  ·intro hk
   rcases j0.mp ((h k).mpr (i7 _ hk)) with z | z
   ·have:=q1 k hk;left
   ·exact z
theorem lB {ms:List Int}{xs ks:List Nat}(hl:ms.length=HT.setN (keepI xs) (keepI xs).length)(hm:∀ k,HT.setS (keepI xs) (keepI xs).length k=true↔k∈ms)(pw:ms.Pairwise (·<=·))(rk:ks.Pairwise (·<·))(h:∀ k,k∈ks↔k∈xs):ms.map V.int=natV ks:=by
 obtain⟨nd,mem⟩:=zM hl hm
 have nn:∀ x∈ms,0<=x:=λ x hx=>by
  obtain⟨c,_,rfl⟩:=y2.mp ((mem x).mp hx)
  exact m8 c
 rw[jL nn]
 congr 1
 have lt:ms.Pairwise (·<·):=(pw.and nd).imp λ ⟨a,b⟩=>by left
 refine jF ?_ rk λ k=>?_
 ·rw[uao]
  refine uca ?_ lt
  intro a b ha hb ab
  have:=nn a ha
  left
 ·rw[h k,y2]
  constructor
  ·rintro ⟨x,hx,rfl⟩
   obtain⟨c,hc,rfl⟩:=y2.mp ((mem x).mp hx)
   rw[u4];exact hc
  ·intro hk
   exact⟨(k:Int),(mem _).mpr (y2.mpr ⟨k,hk,rfl⟩),u4 k⟩
end
end L3
namespace L2
open PySem PySem.Spec PyProof.Rows
section
variable {X:Cx}{k v:ucg}{pos:Pos}{tk tv:TE}
end
end L2
namespace HT
open PySem PyProof.Rows
open Sem (wp)
section
variable {prog:m5}{w:ual}{A:uaf}{E:d6->d7->Prop}{s:d7}
end
end HT
namespace L3
open PySem PySem.Spec PyProof.Rows L2
def PapV (H:Hp)(lo hi m:Nat)(v:V):Prop:=∃ p xs,v=.ref p/\H p=some (.tup xs)/\xs.length<=m/\∀ u∈xs,RowV lo hi H u
section
variable {near kept:Nat->Nat->Option Int}{u v:Nat}{r:List (Nat × Nat)}{m:Int × Int × Int}{x y:Int}
end
def WKE (K:c6)(H:Hp)(n:Int)(ts:List Tie)(ks:List Nat)(wv:V)(kp:j9)(tp:Bool):Prop:=Is K H (webD n ts) wv/\WebOk n ts/\H kp=some (if tp=true then .tup (natV ks) else .lst (natV ks))/\KeepOk ts.length ks
section
variable {g:TG}{tt:TT}{te:TE}{own:List Str}{js:List Nat}{σ:L2.St}{H1:Hp}{Q:VK}
end
section
variable {n:Int}{ts:List Tie}{ks:List Nat}
def ledB (o:Option Int)(h m:Int):Bool:=match o with | none=>false | some x=>decide (x<=h+m)
end
section
variable {own:List Str}{js:List Nat}{g:TG}{te:TE}{σ:L2.St}{Q:VK}{H1:Hp}
end
section
variable {n:Int}{ts:List Tie}
def hN (hs:List Int)(v:Nat):Int:=hs.getD v 0
end
end L3
namespace Srt
open PySem PyProof.Rows
section
variable {prog:m5}{w:ual}{A:uaf}{E:d6->d7->Prop}{s:d7}{a:j9}
end
end Srt
namespace L3
open PySem PySem.Spec PyProof.Rows L2
section
variable {X:Cx}
end
section
variable {n:Int}{ts:List Tie}
noncomputable def wyN (ts:List Tie)(a b:Nat):Option (List Nat):=@dite _ (∃ ws,Far.MinW (arcsB ts (c7 ts.length)) a b ws) (Classical.propDecidable _) (λ h=>some (Classical.choose h)) (λ _=>none)
theorem nN (ok:WebOk n ts){a b:Nat}{ws:List Nat}(h:Far.MinW (arcsB ts (c7 ts.length)) a b ws):wyN ts a b=some ws:=by
 have ex:∃ ws,Far.MinW (arcsB ts (c7 ts.length)) a b ws:=⟨ws,h⟩
 unfold wyN
 rw[dif_pos ex]
 exact congrArg some (h.unique (gL ok (cW ts)) (Classical.choose_spec ex))
theorem yX {a b:Nat}(d:Far.Dst (arcs ts (c7 ts.length)) a b none):wyN ts a b=none:=by
 unfold wyN
 refine dif_neg λ ⟨ws,S,x,y,r,_⟩=>?_
 have w:=r.walk
 rw[fV] at w
 obtain⟨z,e,_⟩:=d.2 _ w
 cases e
def WyV (H:Hp)(ts:List Tie)(o:Option (List Nat))(v:V):Prop:=(o=none/\v=.non)\/∃ t ws,o=some ws/\v=.ref t/\H t=some (.tup (natV ws))/\ws.length<=24/\linked ts ws
theorem WyV.tk {H H':Hp}{o:Option (List Nat)}{v:V}(k:TupKeep H H')(h:WyV H ts o v):WyV H' ts o v:=by
 rcases h with h | ⟨t,ws,e,e1,e2,z⟩
 ·exact .inl h
 ·exact .inr ⟨t,ws,e,e1,k _ _ e2,z⟩
theorem rE (ok:WebOk n ts){H:Hp}{a b:Nat}{v:V}(h:WayM H ts (c7 ts.length) a b v):WyV H ts (wyN ts a b) v:=by
 rcases h with ⟨rfl,d⟩ | ⟨t,ws,x,rfl,e,l,m,tr,d⟩
 ·exact .inl ⟨yX d,rfl⟩
 ·exact .inr ⟨t,ws,nN ok m,rfl,e,l,(rF ok (cW ts) tr).2⟩
def wyD:Option (List Nat)->ubr
 | none=>.none
 | some ws=>tupH (keepI ws)
def awN (ts:List Tie):Option (List Nat)->List Nat
 | none=>[]
 | some ws=>alongN ts ws
def twK (ts:List Tie)(os:List (Option (List Nat))):List Nat:=(c7 ts.length).filter λ k=>(os.flatMap (awN ts)).contains k
theorem qM (ts:List Tie)(os:List (Option (List Nat))):KeepOk ts.length (twK ts os):=⟨uc6 _ uaw,λ k hk=>j4.mp (uac.mp hk).1⟩
theorem pF {os:List (Option (List Nat))}(h:∀ k∈os.flatMap (awN ts),k<ts.length)(k:Nat):k∈twK ts os↔k∈os.flatMap (awN ts):=by
 unfold twK
 rw[uac,j4,List.contains_iff_mem]
 exact⟨λ z=>z.2,λ z=>⟨h k z,z⟩⟩
theorem iK {H:Hp}{o:Option (List Nat)}{v:V}(h:WyV H ts o v):(∀ k∈awN ts o,k<ts.length)/\(awN ts o).length<=23:=by
 rcases h with ⟨rfl,rfl⟩ | ⟨t,ws,rfl,rfl,e2,l,lk⟩
 ·exact⟨λ k hk=>(by cases hk),w8 _⟩
 ·refine⟨gZ lk,?_⟩
  show (alongN ts ws).length<=23
  unfold alongN
  rw[c9,l7]
  left
theorem oJ {α:Type}{f:α->List Nat}{m:Nat}:∀ (l:List α),(∀ x∈l,(f x).length<=m)->(l.flatMap f).length<=l.length*m
 | [],_=>w8 _
 | x::l,h=>by
  have h1:=h x i5
  have h2:=oJ l λ y hy=>h y (i7 _ hy)
  rw[List.flatMap_cons,i9,z0,Nat.add_mul,Nat.one_mul]
  left
end
theorem yT (ts:List Tie)(ws:List Nat):(alongN ts ws).length=ws.length-1:=by unfold alongN;rw[c9,l7]
end L3
namespace Z3
open PySem
section
variable {prog:m5}{w:ual}{A:uaf}{E:d6->d7->Prop}{s:d7}
end
end Z3
namespace L3
open PySem PySem.Spec PyProof.Rows L2
def isE (ts:List Tie)(u v:Int)(k:Nat):Bool:=decide ((tieAt ts k).1=min u v)&&decide ((tieAt ts k).2.1=max u v)
def lenI (ts:List Tie)(ks:List Nat)(u v:Int):Option Int:=(ks.find? (isE ts u v)).map λ k=>(tieAt ts k).2.2
section
variable {n:Int}{ts:List Tie}{ks:List Nat}
def stepY (ts:List Tie)(ks:List Nat)(ws:List Int)(j:Nat):Option Int:=lenI ts ks (ws.getD j 0) (ws.getD (j+1) 0)
def sumY (ts:List Tie)(ks:List Nat)(ws:List Int):Nat->Option Int
 | 0=>some 0
 | j+1=>(sumY ts ks ws j).bind λ x=>(stepY ts ks ws j).map λ l=>x+l
def rightI (n:Int)(ts:List Tie)(ks:List Nat)(ws:List Int):Option Int:=if (ws≠[]/\ws.Nodup)/\ws.all (λ i=>decide (0<=i)&&decide (i<n))=true then sumY ts ks ws (ws.length-1) else none
noncomputable def wyK (ts:List Tie)(ks:List Nat)(a b:Nat):Option (List Nat):=@dite _ (∃ ws,Far.MinW (arcsB ts ks) a b ws) (Classical.propDecidable _) (λ h=>some (Classical.choose h)) (λ _=>none)
noncomputable def dK (ts:List Tie)(ks:List Nat)(u v:Nat):Option Int:=Classical.epsilon λ o=>Far.Dst (arcs ts ks) u v o
noncomputable def dKL (n:Int)(ts:List Tie)(ks:List Nat)(u:Nat):List (Option Int):=(c7 n.toNat).map λ v=>dK ts ks u v
noncomputable def htK (n:Int)(ts:List Tie)(ks:List Nat)(t:Int)(k:Nat):List Int:=(dKL n ts ks (tieAt ts k).1.toNat).map (capO (t*(tieAt ts k).2.2+1))
end
def winK (ts:List Tie)(ks:List Nat)(t:Int)(k:Nat):Prop:=withinB t (tieAt ts k).2.2 (gO ts ks k)=true
noncomputable def wyT (ts:List Tie)(ks:List Nat)(k:Nat):Option (List Nat):=wyK ts ks (tieAt ts k).1.toNat (tieAt ts k).2.1.toNat
def FirstOut (ts:List Tie)(ks:List Nat)(t:Int)(i k:Nat):Prop:=(outs ts.length ks)[i]?=some k/\¬ winK ts ks t k/\∀ j k',j<i->(outs ts.length ks)[j]?=some k'->winK ts ks t k'
inductive TdD (n:Int)(ts:List Tie)(ks:List Nat)(t:Int):ubr->Prop
 | keeps:allIn ts ks t->TdD n ts ks t (.tuple [.str "keeps",.tuple ((outs ts.length ks).map λ k=>wyD (wyT ts ks k))])
 | far {i k:Nat}:FirstOut ts ks t i k->TdD n ts ks t (.tuple [.str "far",.int (k:Int),tupH (htK n ts ks t k)])
def PairsL (H:Hp)(xs ys zs:List V)(m:Nat):Prop:=zs.length=m/\∀ (j:Nat)(z:V),zs[j]?=some z->∃ (T:j9)(x y:V),z=V.ref T/\xs[j]?=some x/\ys[j]?=some y/\H T=some (.tup [x,y])
section
variable {X:Cx}{pins:List (j9 × Obj)}{σ:L2.St}
end
section
variable {n:Int}{ts:List Tie}{ks:List Nat}
end
section
variable {X:Cx}
end
def leadsI (n:Int)(ts:List Tie)(ks:List Nat)(a b:Int)(ws:List Int):Bool:=(rightI n ts ks ws).isSome&&(decide (ws.getD 0 0=a)&&decide (ws.getD (ws.length-1) 0=b))
def goodW (n:Int)(ts:List Tie)(ks:List Nat)(t:Int)(k:Nat)(ws:List Int):Bool:=leadsI n ts ks (tieAt ts k).1 (tieAt ts k).2.1 ws&&decide ((rightI n ts ks ws).getD 0<=t*(tieAt ts k).2.2)
def beyondI (n:Int)(ts:List Tie)(ks:List Nat)(t:Int)(k:Nat)(hs:List Int):Bool:=holdB n ts ks hs&&decide (acrossI ts hs k>t*(tieAt ts k).2.2)
def waysB (n:Int)(ts:List Tie)(ks:List Nat)(t:Int)(W:List (List Int)):Bool:=decide (W.length=(outs ts.length ks).length)&&(c7 (outs ts.length ks).length).all λ i=>goodW n ts ks t ((outs ts.length ks).getD i 0) (W.getD i [])
def farB (n:Int)(ts:List Tie)(ks:List Nat)(t:Int)(k:Int)(hs:List Int):Bool:=(decide (0<=k)&&decide (k<(ts.length:Int)))&&(!decide (k.toNat∈ks)&&beyondI n ts ks t k.toNat hs)
inductive Ppr where
 | keeps (W:List (List Int)):Ppr
 | far (k:Int) (hs:List Int):Ppr
def Ppr.d:Ppr->ubr
 | .keeps W=>.tuple [.str "keeps",.tuple (W.map tupH)]
 | .far k hs=>.tuple [.str "far",.int k,tupH hs]
def Ppr.ok:Ppr->Prop
 | .keeps W=>W.length<=1000/\∀ ws∈W,ws.length<=40
 | .far _ hs=>hs.length<=1000
def Ppr.right (n:Int)(ts:List Tie)(ks:List Nat)(t:Int):Ppr->Bool
 | .keeps W=>waysB n ts ks t W
 | .far k hs=>farB n ts ks t k hs
def Cnt (M:List Nat)(m:Nat):Prop:=∃ ms:List Nat,ms.Nodup/\(∀ x,x∈ms↔x∈M)/\ms.length=m
theorem Cnt.set {M:List Nat}{m:Nat}(h:Cnt M m):HT.setN (keepI M) (keepI M).length=m:=by
 obtain⟨ms,n1,e1,rfl⟩:=h
 obtain⟨h1,h2⟩:=dY (λ i=>(keepI M).getD i 0) (keepI M).length
 rw[L3.cS (keepI M) 0] at h2
 have nd:(keepI ms).Nodup:=by
  unfold keepI
  rw[uap,uao]
  exact n1.imp λ ne z=>ne (by left)
 have e:((firstMet (λ i=>(keepI M).getD i 0) (keepI M).length)).Perm (keepI ms):=(ud7 h1 nd).mpr λ x=>by
  rw[h2]
  unfold keepI
  rw[y2,y2]
  exact⟨λ ⟨y,a,b⟩=>⟨y,(e1 y).mpr a,b⟩,λ ⟨y,a,b⟩=>⟨y,(e1 y).mp a,b⟩⟩
 have:=e.length_eq
 show (firstMet (λ i=>(keepI M).getD i 0) (keepI M).length).length=ms.length
 rw[this];unfold keepI;rw[c9]
def TD:Nat->ubr->Prop
 | 0,d=>(∃ i,d=.int i)\/∃ x,d=.str x/\PyData.strOk x=true
 | m+1,d=>(∃ i,d=.int i)\/(∃ x,d=.str x/\PyData.strOk x=true)\/∃ ds,d=.tuple ds/\ds.length<=100/\∀ x∈ds,TD m x
theorem TD.int (m:Nat)(i:Int):TD m (.int i):=by cases m <;> exact .inl ⟨i,rfl⟩
def both:Option Int->Option Int->Option Int
 | some x,some y=>some (if y<x then y else x)
 | _,_=>none
section
variable {n:Int}{ts:List Tie}{ks ks':List Nat}{t:Int}
end
def behB (ks:List Nat)(k:Nat):Bool:=ks.all λ j=>decide (j<k)
def szN (m:Nat):Nat->List (List Nat)
 | 0=>[[]]
 | r+1=>(szN m r).flatMap λ ks=>((c7 m).filter (behB ks)).map λ k=>ks++[k]
def IsFst (ts:List Tie)(t:Int)(ks:List Nat):Prop:=∃ r i:Nat,(szN ts.length r)[i]?=some ks/\allIn ts ks t/\(∀ (j:Nat)(ks':List Nat),j<i->(szN ts.length r)[j]?=some ks'->¬ allIn ts ks' t)/\∀ (r':Nat)(ks':List Nat),r'<r->ks'∈szN ts.length r'->¬ allIn ts ks' t
section
variable {n:Int}{ts:List Tie}{t:Int}{ks ks':List Nat}
end
section
variable {n:Int}{ts:List Tie}{t:Int}{ks:List Nat}
structure WayIn (n:Int)(ts:List Tie)(ks:List Nat)(t:Int)(k:Nat)(ws:List Nat):Prop where
 way:wyT ts ks k=some ws
 few:ws.length<=24
 min:Far.MinW (arcsB ts ks) (tieAt ts k).1.toNat (tieAt ts k).2.1.toNat ws
 tr:∃ y,Far.Tr (arcs ts ks) (tieAt ts k).1.toNat ws (tieAt ts k).2.1.toNat y/\y<=t*(tieAt ts k).2.2
end
section
variable {n:Int}{ts:List Tie}{t:Int}{ks:List Nat}{k:Nat}
mutual
theorem gF {K:c6}{H H':Hp}(e:TupKeep H H'):∀ (d:ubr){v:V},tupD d=true->Is K H d v->Is K H' d v
 | .none,_,_,h=>h
 | .bool _,_,_,h=>h
 | .int _,_,_,h=>h
 | .str _,_,_,h=>h
 | .tuple ds,_,t,h=>let ⟨q,vs,q1,q2,q3⟩:=h;⟨q,vs,q1,e _ _ q2,oD e ds t q3⟩
 | .list ds,_,t,h=>by cases t
 | .dict _,_,t,h=>by cases t
theorem oD {K:c6}{H H':Hp}(e:TupKeep H H'):∀ (ds:List ubr){vs:List V},tupAll ds=true->IsAll K H ds vs->IsAll K H' ds vs
 | [],_,_,h=>h
 | d::ds,_,t,h=>by
  have t':(tupD d&&tupAll ds)=true:=t
  rw[uaj] at t'
  obtain⟨v,r,q1,q2,q3⟩:=h
  exact⟨v,r,q1,gF e d t'.1 q2,oD e ds t'.2 q3⟩
end
end
theorem zF {A:List Far.Arc}{a b:Nat}{ws:List Nat}(m:Far.MinW A a b ws):(keepI ws).getD 0 0=(a:Int)/\(keepI ws).getD ((keepI ws).length-1) 0=(b:Int):=by
 obtain⟨S0,x0,y0,rt,_⟩:=m
 obtain⟨q0,eq0⟩:=rt.head
 obtain⟨q9,eq9⟩:=rt.foot
 constructor
 ·rw[eq0];rfl
 ·have l9:(keepI ws).length=q9.length+1:=by unfold keepI;rw[c9,eq9,i9,u5]
  rw[l9,Nat.add_sub_cancel,g9]
  unfold keepI
  rw[k0,eq9,uaq (h9 _),Nat.sub_self];rfl
section
variable {n:Int}{ts:List Tie}{t:Int}{ks:List Nat}{k:Nat}
end
end L3
namespace Srt
open PySem PyProof.Rows
section
variable {prog:m5}{w:ual}{A:uaf}{E:d6->d7->Prop}{s:d7}{r:j9}
end
end Srt
namespace L3
open PySem PySem.Spec PyProof.Rows L2
section
variable {X:Cx}{pins:List (j9 × Obj)}{σ:L2.St}{A:uaf}{E:d6->d7->Prop}
variable {H:Hp}{s:d7}
end
end L3
namespace Lay9
open PySem
def it (m:Nat):Nat->Nat->Nat
 | 0,i=>i
 | n+1,i=>it m n ((i*5+1)%m)
def Full (m:Nat):Prop:=∀ i,i<m->∀ j,j<m->∃ n,n<m/\it m n i=j
theorem iW {mask:Nat}{ow:Array (Option Nat)}{f i p:Nat}(h:SetTable.layClean.free mask ow (f+1) i p=none):(ow.getD i (some 0)).isNone=false/\SetTable.layClean.free mask ow f ((i*5+1+p / 32)%(mask+1)) (p / 32)=none:=by
 unfold SetTable.layClean.free at h
 split at h
 ·cases h
 ·rename_i e
  refine⟨?_,h⟩
  have r:i<=SetTable.runEnd mask i:=by unfold SetTable.runEnd;split <;> left
  have:=ud9.mp e 0 (j4.mpr (by left))
  rw[Nat.add_zero] at this
  exact ucq.mpr this
theorem mO {mask:Nat}{ow:Array (Option Nat)}:∀ {n f i:Nat},SetTable.layClean.free mask ow (f+n+1) i 0=none->(ow.getD (it (mask+1) n i) (some 0)).isNone=false
 | 0,f,i,h=>(iW h).1
 | n+1,f,i,h=>mO (n:=n) (f:=f) (by have:=(iW h).2;rw[Nat.add_zero] at this;exact this)
theorem mN {mask:Nat}{ow:Array (Option Nat)}:∀ {k f i p:Nat},p<32^k->SetTable.layClean.free mask ow (f+k) i p=none->i<mask+1->∃ i',i'<mask+1/\SetTable.layClean.free mask ow f i' 0=none
 | 0, f, i, p, hp, h, hi => ⟨i, hi, by have : p = 0 := by simpa using hp
                                       subst this;exact h⟩
 | k+1,f,i,p,hp,h,hi=>mN (k:=k) (f:=f) (p:=p / 32) (by rw[Nat.pow_succ] at hp;exact (Nat.div_lt_iff_lt_mul (by decide)).mpr hp) (iW h).2 (ug4 _ (by left))
theorem xZ {mask:Nat}{ow:Array (Option Nat)}(full:Full (mask+1)){j:Nat}(hj:j<mask+1)(free:ow.getD j (some 0)=none){i p:Nat}(hi:i<mask+1)(hp:p<2^64):∃ k,SetTable.layClean.free mask ow (SetTable.turns mask) i p=some k:=by
 cases e:SetTable.layClean.free mask ow (SetTable.turns mask) i p with
 | some k=>exact⟨k,rfl⟩
 | none =>
  have t:SetTable.turns mask=(mask+2)+13:=by unfold SetTable.turns;left
  rw[t] at e
  obtain⟨i',hi',e'⟩:=mN (k:=13) (m7 hp (by decide)) e hi
  obtain⟨n,hn,en⟩:=full i' hi' j hj
  have:=mO (n:=n) (f:=mask+1-n) (by rw[show mask+1-n+n+1=mask+2 by left];exact e')
  rw[en,free] at this
  cases this
theorem qB {mask:Nat}{ow:Array (Option Nat)}:∀ {f i p k:Nat},SetTable.layClean.free mask ow f i p=some k->ow.getD k (some 0)=none
 | 0,i,p,k,h=>by cases h
 | f+1,i,p,k,h=>by
  unfold SetTable.layClean.free at h
  split at h
  ·rename_i d e
   cases h
   have:=uds e
   simpa using this
  ·exact qB h
theorem iH {m:Nat}:∀ {a b i:Nat},it m (a+b) i=it m b (it m a i)
 | 0,b,i=>by rw[Nat.zero_add];rfl
 | a+1,b,i=>by rw[Nat.add_right_comm];exact iH (a:=a)
def orb (m:Nat):Nat->Nat->List Nat
 | 0,_=>[]
 | n+1,i=>i::orb m n ((i*5+1)%m)
theorem pU {m:Nat}:∀ {n i j:Nat},j∈orb m n i->∃ b,b<n/\it m b i=j
 | 0,i,j,h=>by cases h
 | n+1,i,j,h=>by
  rcases j0.mp h with rfl | h
  ·exact⟨0,by left,rfl⟩
  ·obtain⟨b,hb,e⟩:=pU h
   exact⟨b+1,by left,e⟩
theorem dP {m:Nat}(h1:((c7 m).all λ j=>(orb m m 0).contains j)=true)(h2:it m m 0=0):Full m:=by
 have at0:∀ j,j<m->∃ b,b<m/\it m b 0=j:=λ j hj=>pU (List.contains_iff_mem.mp (ucd.mp h1 j (j4.mpr hj)))
 intro i hi j hj
 obtain⟨a,ha,ea⟩:=at0 i hi
 obtain⟨b,hb,eb⟩:=at0 j hj
 by_cases c:a<=b
 ·refine⟨b-a,by left,?_⟩
  rw[← ea,← iH,show a+(b-a)=b by left];exact eb
 ·refine⟨m-a+b,by left,?_⟩
  rw[← ea,← iH,show a+(m-a+b)=m+b by left,iH,h2];exact eb
theorem full8:Full 8:=dP (by symm) (by symm)
theorem full16:Full 16:=dP (by symm) (by symm)
theorem full32:Full 32:=dP (by symm) (by symm)
theorem full64:Full 64:=dP (by symm) (by symm)
theorem full128:Full 128:=dP (by symm) (by symm)
theorem full256:Full 256:=dP (by symm) (by symm)
theorem full512:Full 512:=dP (by symm) (by symm)
theorem size_full {n:Nat}(h:n<512):Full (SetTable.sizeAbove n)/\n<SetTable.sizeAbove n/\SetTable.sizeAbove n<=512:=by
 have go:∀ f s,SetTable.sizeAbove.go n (f+1) s=if s<=n then SetTable.sizeAbove.go n f (s*2) else s:=λ _ _=>rfl
 unfold SetTable.sizeAbove
 rw[go 63];split
 ·rw[go 62];split
  ·rw[go 61];split
   ·rw[go 60];split
    ·rw[go 59];split
     ·rw[go 58];split
      ·rw[go 57];split
       ·left
       ·exact⟨full512,by left,by decide⟩
      ·exact⟨full256,by left,by decide⟩
     ·exact⟨full128,by left,by decide⟩
    ·exact⟨full64,by left,by decide⟩
   ·exact⟨full32,by left,by decide⟩
  ·exact⟨full16,by left,by decide⟩
 ·exact⟨full8,by left,by decide⟩
theorem mP:∀ {l m:List Nat},l.Nodup->(∀ x∈l,x∈m)->l.length<=m.length
 | [],_,_,_=>w8 _
 | a::l,m,nd,h=>by
  have ha:=h a (i5 ..)
  have nc:=ua2.mp nd
  have:=mP (l:=l) (m:=m.erase a) nc.2 λ x hx=>by
   have ne:x≠a:=λ z=>nc.1 (by rw[← z];exact hx)
   exact (ue3 ne).mpr (h x (i7 _ hx))
  rw[ug2 ha] at this
  have pos:0<m.length:=List.length_pos_of_mem ha
  rw[z0]
  left
structure Own (mask:Nat)(ow:Array (Option Nat))(k:Nat):Prop where
 size:ow.size=mask+1
 lt:∀ j v,ow.getD j none=some v->v<k
 has:∀ v,v<k->∃ j,ow.getD j none=some v
 one:∀ j j' v,ow.getD j none=some v->ow.getD j' none=some v->j=j'
theorem xY {ow:Array (Option Nat)}{j:Nat}:ow.getD j (some 0)=none->j<ow.size/\ow.getD j none=none:=λ h=>by
 by_cases c:j<ow.size
 ·refine⟨c,?_⟩
  simp only [uej,c,dif_pos] at h ⊢
  exact h
 ·simp only [uej,c,dif_neg,not_false_eq_true] at h
  cases h
theorem Own.free {mask k:Nat}{ow:Array (Option Nat)}(o:Own mask ow k)(hk:k<=mask):∃ j,j<mask+1/\ow.getD j (some 0)=none:=by
 by_cases c:∃ j,j<mask+1/\ow.getD j (some 0)=none
 ·exact c
 ·exfalso
  have all:∀ j,j<mask+1->∃ v,ow.getD j none=some v:=λ j hj=>by
   have hs:j<ow.size:=by rw[o.size];exact hj
   cases e:ow.getD j none with
   | some v=>exact⟨v,rfl⟩
   | none =>
    refine absurd ⟨j,hj,?_⟩ c
    simp only [uej,hs,dif_pos] at e ⊢
    exact e
  have l:=mP (l:=(c7 (mask+1)).map λ j=>(ow.getD j none).getD 0) (m:=c7 k) ?_ ?_
  ·rw[c9,l7,l7] at l;left
  ·rw[ugm,uao]
   refine uca ?_ (uaw (n:=mask+1))
   intro a b ha hb lt e
   obtain⟨va,ea⟩:=all a (j4.mp ha)
   obtain⟨vb,eb⟩:=all b (j4.mp hb)
   rw[ea,eb] at e
   have e:va=vb:=e
   rw[← e] at eb
   have:=o.one _ _ _ ea eb
   left
  ·intro x hx
   obtain⟨j,hj,rfl⟩:=y2.mp hx
   obtain⟨v,ev⟩:=all j (j4.mp hj)
   rw[ev]
   exact j4.mpr (o.lt _ _ ev)
theorem Own.next {mask k j:Nat}{ow:Array (Option Nat)}(o:Own mask ow k)(hj:ow.getD j (some 0)=none):Own mask (ow.setIfInBounds j (some k)) (k+1):=by
 obtain⟨hs,hn⟩:=xY hj
 have at_:∀ i,(ow.setIfInBounds j (some k)).getD i none=if i=j then some k else ow.getD i none:=λ i=>by
  rw[uau,uau,Array.getElem?_setIfInBounds]
  by_cases c:j=i
  ·subst c
   rw[uhc rfl,uhc hs,uhc rfl];rfl
  ·rw[uhd c,uhd (Ne.symm c)]
 refine⟨by rw[Array.size_setIfInBounds];exact o.size,λ i v h=>?_,λ v hv=>?_,λ i i' v h h'=>?_⟩
 ·rw[at_] at h
  split at h
  ·cases h;left
  ·have:=o.lt _ _ h;left
 ·by_cases c:v=k
  ·exact⟨j,by rw[at_,uhc rfl,c]⟩
  ·obtain⟨i,hi⟩:=o.has v (by left)
   refine⟨i,?_⟩
   rw[at_,uhd (λ z=>by rw[z,hn] at hi;cases hi)];exact hi
 ·rw[at_] at h h'
  split at h
  ·rename_i e
   cases h
   split at h'
   ·rename_i e';rw[e,e']
   ·exact absurd (o.lt _ _ h') (by left)
  ·split at h'
   ·cases h';exact absurd (o.lt _ _ h) (by left)
   ·exact o.one _ _ _ h h'
theorem zbu (h:Int):SetTable.bits h<2^64:=by
 unfold SetTable.bits
 have:=uci h (show (0:Int)<2^64 by decide)
 have:=uct h (show (2:Int)^64≠0 by decide)
 left
theorem oC {mask:Nat}(full:Full (mask+1)):∀ (hs:List Int)(ow:Array (Option Nat))(k:Nat),Own mask ow k->k+hs.length<=mask+1 ->
  ∃ ow',hs.foldl (λ (acc:Option (Array (Option Nat) × Nat)) h=>do
   let (owner,k) ← acc
   let j ← SetTable.layClean.free mask owner (SetTable.turns mask) (SetTable.bits h%(mask+1)) (SetTable.bits h)
   pure (owner.setIfInBounds j (some k),k+1)) (some (ow,k))=some (ow',k+hs.length)/\Own mask ow' (k+hs.length)
 | [],ow,k,o,_=>⟨ow,rfl,o⟩
 | h::hs,ow,k,o,hk=>by
  rw[z0] at hk
  obtain⟨j,hj,fj⟩:=o.free (by left)
  obtain⟨i,ei⟩:=xZ full hj fj (i:=SetTable.bits h%(mask+1)) (p:=SetTable.bits h) (ug4 _ (by left)) (zbu h)
  have fi:=qB ei
  obtain⟨ow',e,o'⟩:=oC full hs _ (k+1) (o.next fi) (by left)
  refine⟨ow',?_,by rw[z0,show k+(hs.length+1)=k+1+hs.length by left];exact o'⟩
  rw[udd,z0,show k+(hs.length+1)=k+1+hs.length by left,← e]
  show ufr _ (do let j ← SetTable.layClean.free mask ow (SetTable.turns mask) (SetTable.bits h%(mask+1)) (SetTable.bits h);pure (ow.setIfInBounds j (some k),k+1)) hs=_
  rw[ei];rfl
theorem xF (mask:Nat):Own mask (Array.replicate (mask+1) none) 0:=by
 have n:∀ j:Nat,(Array.replicate (mask+1) (none:Option Nat)).getD j none=none:=λ j=>by
  rw[uau,Array.getElem?_replicate]
  split <;> rfl
 exact⟨by simp,λ j v h=>(by rw[n] at h;cases h),λ v h=>(by left),λ j j' v h=>(by rw[n] at h;cases h)⟩
theorem tQ {mask:Nat}(full:Full (mask+1)){hs:Array Int}(h:hs.size<=mask+1):∃ ow,SetTable.layClean mask hs=some ow/\Own mask ow hs.size:=by
 obtain⟨ow,e,o⟩:=oC full hs.toList _ 0 (xF mask) (by simpa using h)
 refine⟨ow,?_,by simpa using o⟩
 unfold SetTable.layClean
 rw[← Array.foldl_toList]
 have:=congrArg (Option.map (·.1)) e
 exact this
theorem laid_some {mask finger moves:Nat}{led plain:Bool}(full:Full (mask+1)){hs:Array Int}(h:hs.size<=mask+1) :
  ∃ t order,SetTable.laid mask finger moves led plain hs=some (t,order)/\order.toList.Perm (c7 hs.size)/\t.place.toList.Pairwise (·<·)/\t.place.size=hs.size/\t.led=led/\t.plain=plain/\t.mask=mask/\t.dummies=#[]/\t.finger=finger/\t.moves=moves:=by
 obtain⟨ow,e,o⟩:=tQ full h
 have pm:(((c7 (mask+1)).filterMap λ j=>(ow.getD j none).map (j,·)).map (·.2)).Perm (c7 hs.size):=by
  have e2:((c7 (mask+1)).filterMap λ j=>(ow.getD j none).map (j,·)).map (·.2)=(c7 (mask+1)).filterMap λ j=>ow.getD j none:=by
   rw[List.map_filterMap]
   refine congrArg (λ g=>ugv g _) (funext λ j=>?_)
   cases ow.getD j none <;> rfl
  rw[e2]
  refine (ud7 ?_ udk).mpr λ v=>?_
  ·rw[ugm,ug5]
   refine uaw.imp λ lt v hv v' hv' z=>?_
   subst z
   have:=o.one _ _ _ hv hv'
   left
  ·rw[udo,j4]
   constructor
   ·rintro ⟨j,_,hj⟩
    exact o.lt _ _ hj
   ·intro hv
    obtain⟨j,hj⟩:=o.has v hv
    refine⟨j,j4.mpr ?_,hj⟩
    rcases ufw j (mask+1) with z | z
    ·exact z
    ·rw[uau,Array.getElem?_eq_none (by rw[o.size];exact z)] at hj
     cases hj
 refine⟨_,_,by unfold SetTable.laid;rw[e];rfl,pm,?_,?_,rfl,rfl,rfl,rfl,rfl,rfl⟩
 ·show (((c7 (mask+1)).filterMap λ j=>(ow.getD j none).map (j,·)).map (·.1)).Pairwise (·<·)
  rw[uao,ug5]
  refine uaw.imp λ lt v hv v' hv'=>?_
  cases e1:ow.getD _ none with
  | none=>rw[e1] at hv;cases hv
  | some x =>
   rw[e1] at hv;cases hv
   rename_i b
   cases e3:ow.getD b none with
   | none=>rw[e3] at hv';cases hv'
   | some y=>rw[e3] at hv';cases hv';exact lt
 ·have:=pm.length_eq
  simpa using this
end Lay9
namespace Stb
open PySem PyProof.Rows
section
variable {prog:m5}{w:ual}{A:uaf}{E:d6->d7->Prop}{s:d7}
theorem lQ {es:Array (Int × d6)}{order:Array Nat}(pm:order.toList.Perm (c7 es.size)):(order.filterMap (es[·]?)).toList.Perm es.toList:=by
 have h:=pm.filterMap (es[·]?)
 rw[filterMap_getElem?_range] at h
 simpa using h
theorem za6 {a:j9}{S:Int->Bool}{n wanted:Nat}{Q:Unit->d7->Prop}(st:SetT prog w s.heap a S n)(hw:n<wanted)(hl:wanted<512)
  (fin:∀ h',Heap.SameBut a s.heap h'->SetT prog w h' a S n->Q () { s with heap:=h' }):j8 (v6 prog w) A (setRelay a wanted) Q E s:=by
 obtain⟨⟨o,es,ep,t,ho,ox,od,el,me,small,fit,en⟩,o',es',ep',t',ho',od',ti⟩:=st
 rw[ho] at ho';cases ho'
 rw[od] at od';cases od'
 obtain⟨full,gt,le⟩:=Lay9.size_full hl
 have hm:SetTable.sizeAbove wanted-1+1=SetTable.sizeAbove wanted:=by left
 obtain⟨t2,order,e,pm,asc,sz,eled,eplain,emask,edum,_,_⟩:=Lay9.laid_some (mask:=SetTable.sizeAbove wanted-1) (finger:=t.finger) (moves:=t.movedTo (SetTable.sizeAbove wanted-1)) (led:=t.led) (plain:=t.plain) (hm ▸ full) (hs:=es.map (·.1)) (by rw[ue5,hm];left)
 rw[ue5] at pm sz
 have pe:=lQ pm
 have esz:(order.filterMap (es[·]?)).size=es.size:=by rw[← z9,pe.length_eq,z9]
 have fit2:t2.fits (order.filterMap (es[·]?)).size=true:=by
  unfold SetTable.fits SetTable.fill
  rw[esz,sz,emask,edum]
  simp
  left
 unfold setRelay
 refine a9 (uad ho od fit ?_)
 have line:¬ SetTable.sizeAbove wanted>v5:=by rw[ubj];left
 have er:t.relaid (es.map (·.1)) wanted=some (t2,order):=e
 dsimp only
 rw[uhd line,er]
 refine a9 ?_
 wp_delta
 have nb:((order.filterMap (es[·]?)).size != es.size)=false:=by rw[esz];simp
 dsimp only
 rw[nb]
 refine uae (λ z=>absurd z (by decide)) λ _=>?_
 refine c8 (ucz ho od ?_ (uc2 (esz ▸ small)))
 obtain⟨g1,s1⟩:=ue0 (knd:=intKind prog w) ho ox od (el.perm pe) (λ k=>(me k).trans ⟨λ ⟨e,he,q⟩=>⟨e,pe.mem_iff.mpr he,q⟩,λ ⟨e,he,q⟩=>⟨e,pe.mem_iff.mp he,q⟩⟩) (esz ▸ small) fit2
 rw[esz,en] at s1
 exact fin _ (uax s.heap a _) ⟨s1,_,_,_,_,g1,rfl,Asc.list.mpr asc,eled.trans ti.2⟩
theorem zb2 {a:j9}{S:Int->Bool}{n more:Nat}{Q:Unit->d7->Prop}(st:SetT prog w s.heap a S n)(hm:0<more)(hl:(n+more)*2<512)
  (fin:∀ h',Heap.SameBut a s.heap h'->SetT prog w h' a S n->Q () { s with heap:=h' }):j8 (v6 prog w) A (setRoomFor a more) Q E s:=by
 obtain⟨o,es,ep,t,ho,ox,od,el,me,small,fit,en⟩:=st.1
 have psz:t.place.size=n:=by
  simp only [SetTable.fits,uaj,beq_iff_eq] at fit
  rw[fit.1];exact en
 unfold setRoomFor
 refine a9 (uad ho od fit ?_)
 dsimp only
 unfold SetTable.roomFor
 split
 ·rename_i wanted e
  split at e
  ·cases e
   exact za6 st (by left) (by left) fin
  ·cases e
 ·have e0:s={ s with heap:=s.heap }:=by cases s;rfl
  exact c8 (by rw[e0];exact fin _ (ub2 _ _) st)
end
end Stb
namespace Stb
open PySem PyProof.Rows
section
variable {prog:m5}{w:ual}{A:uaf}{E:d6->d7->Prop}{s:d7}
def Fr (w:ual)(h:Heap)(a:j9)(m:Nat):Prop:=∃ o ep t,h.get? a=some o/\o.ExactSet/\o.data=.set #[] ep t/\t.place=#[]/\t.dummies=#[]/\Lay9.Full (t.mask+1)/\t.led=ledOf w/\m<=t.mask
theorem jY {t:SetTable}(h1:t.place=#[])(h2:t.dummies=#[]):t.fits 0=true:=by
 unfold SetTable.fits SetTable.fill
 rw[h1,h2];simp
theorem za4 {a:j9}{more:Nat}{Q:Unit->d7->Prop}(fr:Fr w s.heap a 0)(hm:0<more)(hl:more*2<512)
  (fin:∀ h',Heap.SameBut a s.heap h'->Fr w h' a more->Q () { s with heap:=h' }):j8 (v6 prog w) A (setRoomFor a more) Q E s:=by
 obtain⟨o,ep,t,ho,ox,od,pl,du,full,led,_⟩:=fr
 have fit:=jY pl du
 unfold setRoomFor
 refine a9 (uad ho od fit ?_)
 dsimp only
 unfold SetTable.roomFor
 have f0:t.fill=0:=by unfold SetTable.fill;rw[pl,du];rfl
 split
 ·rename_i wanted e
  rw[f0,pl] at e
  split at e
  ·cases e
   have ew:((#[]:Array Nat).size+more)*2=more*2:=by simp
   rw[ew]
   obtain⟨full2,gt,le⟩:=Lay9.size_full hl
   have hm':SetTable.sizeAbove (more*2)-1+1=SetTable.sizeAbove (more*2):=by left
   obtain⟨t2,order,e,pm,asc,sz,eled,eplain,emask,edum,_,_⟩:=Lay9.laid_some (mask:=SetTable.sizeAbove (more*2)-1) (finger:=t.finger) (moves:=t.movedTo (SetTable.sizeAbove (more*2)-1)) (led:=t.led) (plain:=t.plain) (hm' ▸ full2) (hs:=(#[]:Array (Int × d6)).map (·.1)) (by simp)
   have er:t.relaid ((#[]:Array (Int × d6)).map (·.1)) (more*2)=some (t2,order):=e
   unfold setRelay
   refine a9 (uad ho od fit ?_)
   have line:¬ SetTable.sizeAbove (more*2)>v5:=by rw[ubj];left
   dsimp only
   rw[uhd line,er]
   refine a9 ?_
   wp_delta
   have o0:order=#[]:=by
    have:=pm.length_eq
    simp at this
    exact this
   subst o0
   dsimp only
   refine uae (λ z=>absurd z (by decide)) λ _=>?_
   refine c8 (ucz ho od ?_ (w8 _))
   have hg:(s.heap.update a (Obj.putSet #[] t2)).get? a=some { o with data:=.set #[] (ep+1) t2 }:=by
    have:=ua7 (Obj.putSet #[] t2) ho (by rw[putSet_of #[] t2 od];rfl)
    rw[putSet_of #[] t2 od] at this;exact this
   have p0:t2.place=#[]:=by
    have:=sz
    simp at this
    exact this
   exact fin _ (uax s.heap a _) ⟨_,_,_,hg,ox,rfl,p0,edum,by rw[emask,hm'];exact full2,eled.trans led,by rw[emask];left⟩
  ·cases e
 ·rename_i e
  rw[f0,pl] at e
  by_cases c:(0+more)*5 ≥ t.mask*3
  ·rw[uhc c] at e
   exact (e _ rfl).elim
  ·have e0:s={ s with heap:=s.heap }:=by cases s;rfl
   exact c8 (by rw[e0];exact fin _ (ub2 _ _) ⟨o,ep,t,ho,ox,od,pl,du,full,led,by left⟩)
theorem nX {a b:j9}{S:Int->Bool}{n:Nat}{each:Sem Unit}{Q:Unit->d7->Prop}(ne:a≠b)(fr:Fr w s.heap a 0)(st:SetT prog w s.heap b S n)(hl:n*2<512)
  (fin:∀ h',Heap.SameBut a s.heap h'->SetT prog w h' a S n->Q () { s with heap:=h' }):j8 (v6 prog w) A (setMerge a b each) Q E s:=by
 obtain⟨⟨o,es,ep,t,ho,ox,od,el,me,small,fit,en⟩,o',es',ep',t',ho',od',ti⟩:=id st
 rw[ho] at ho';cases ho'
 rw[od] at od';cases od'
 unfold setMerge
 have nb:(a==b)=false:=by simpa using ne
 rw[nb]
 refine uae (λ z=>absurd z (by decide)) λ _=>?_
 refine a9 (uad ho od fit ?_)
 dsimp only
 refine uae (λ z=>?_) λ z=>?_
 ·have e0:es=#[]:=by simpa using z
  subst e0
  obtain⟨oa,epa,ta,hoa,oxa,oda,pla,dua,_,leda,_⟩:=fr
  have e1:s={ s with heap:=s.heap }:=by cases s;rfl
  have asc:Asc ta.place:=by
   rw[pla]
   intro i j _ h
   simp at h
  exact c8 (by rw[e1];exact fin _ (ub2 _ _) ⟨⟨oa,#[],epa,ta,hoa,oxa,oda,el,me,small,jY pla dua,en⟩,oa,#[],epa,ta,hoa,oda,asc,leda⟩)
 ·have pos:0<es.size:=by
   have:es≠#[]:=by simpa using z
   exact Array.size_pos_iff.mpr this
  refine a9 (za4 fr pos (by left) λ h1 sb1 fr1=>?_)
  obtain⟨oa,epa,ta,hoa,oxa,oda,pla,dua,fulla,leda,room⟩:=fr1
  refine a9 (uad hoa oda (jY pla dua) ?_)
  dsimp only
  have f0:ta.fill=0:=by unfold SetTable.fill;rw[pla,dua];rfl
  have rd:ta.road t=if ta.mask==t.mask&&t.dummies.isEmpty then .slotForSlot else .clean:=by
   unfold SetTable.road
   rw[f0];rfl
  rw[rd]
  have ledB:(ta.led&&t.led)=ledOf w:=by rw[leda,ti.2,Bool.and_self]
  by_cases c:(ta.mask==t.mask&&t.dummies.isEmpty)=true
  ·rw[uhc c]
   dsimp only
   refine ucz hoa oda ?_ (uc2 small)
   have fit2:SetTable.fits { t with finger:=ta.finger,led:=ta.led&&t.led,moves:=ta.moves,plain:=ta.plain&&t.plain } es.size=true:=fit
   obtain⟨g1,s1⟩:=ue0 (knd:=intKind prog w) hoa oxa oda el me small fit2
   rw[en] at s1
   exact fin _ (sb1.trans (uax _ a _)) ⟨s1,_,_,_,_,g1,rfl,ti.1,ledB⟩
  ·rw[uhd c]
   dsimp only
   obtain⟨t2,order,e,pm,asc,sz,eled,eplain,emask,edum,_,_⟩:=Lay9.laid_some (mask:=ta.mask) (finger:=ta.finger) (moves:=ta.moves) (led:=ta.led&&t.led) (plain:=ta.plain&&t.plain) fulla (hs:=es.map (·.1)) (by rw[ue5];left)
   rw[ue5] at pm sz
   have pe:=lQ pm
   have esz:(order.filterMap (es[·]?)).size=es.size:=by rw[← z9,pe.length_eq,z9]
   have fit2:t2.fits (order.filterMap (es[·]?)).size=true:=by
    unfold SetTable.fits SetTable.fill
    rw[esz,sz,emask,edum]
    simp
    left
   rw[e]
   refine a9 ?_
   wp_delta
   have nb:((order.filterMap (es[·]?)).size != es.size)=false:=by rw[esz];simp
   dsimp only
   rw[nb]
   refine uae (λ z=>absurd z (by decide)) λ _=>?_
   refine c8 (ucz hoa oda ?_ (uc2 (esz ▸ small)))
   obtain⟨g1,s1⟩:=ue0 (knd:=intKind prog w) hoa oxa oda (el.perm pe) (λ k=>(me k).trans ⟨λ ⟨e,he,q⟩=>⟨e,pe.mem_iff.mpr he,q⟩,λ ⟨e,he,q⟩=>⟨e,pe.mem_iff.mp he,q⟩⟩) (esz ▸ small) fit2
   rw[esz,en] at s1
   exact fin _ (sb1.trans (uax _ a _)) ⟨s1,_,_,_,_,g1,rfl,Asc.list.mpr asc,eled.trans ledB⟩
end
end Stb
namespace Stb
open PySem PyProof.Rows
def Cn (S:Int->Bool)(n:Nat):Prop:=∃ l:List Int,l.Nodup/\l.length=n/\∀ k,S k=true↔k∈l
theorem Cn.add {S:Int->Bool}{n:Nat}(c:Cn S n)(k:Int):Cn (λ y=>S y||decide (y=k)) (if S k then n else n+1):=by
 obtain⟨l,nd,ll,hm⟩:=c
 cases e:S k with
 | true =>
  refine⟨l,nd,by rw[uhc rfl];exact ll,λ y=>?_⟩
  rw[ucp,decide_eq_true_eq,← hm y]
  exact⟨λ z=>z.elim id λ y=>y ▸ e,.inl⟩
 | false =>
  refine⟨l++[k],?_,by rw[i9,ll];rfl,λ y=>?_⟩
  ·refine ucm.mpr ⟨nd,by simp,λ a ha b hb z=>?_⟩
   rw[j5.mp hb] at z
   have:=(hm k).mpr (z ▸ ha)
   rw[e] at this;cases this
  ·rw[ucp,decide_eq_true_eq,o9,j5,hm y]
section
variable {prog:m5}{w:ual}{A:uaf}{E:d6->d7->Prop}{s:d7}
theorem wS {a:j9}{es:Array (Int × d6)}{ep:Nat}{t:SetTable}{Q:Array (Int × d6)->d7->Prop}{o:Obj}(ho:s.heap.get? a=some o)(od:o.data=.set es ep t)(fit:t.fits es.size=true)(led:t.led=ledOf w)
  (h:∀ ord d',ord.toList.Perm es.toList->Q ord { s with drawn:=d' }):j8 (v6 prog w) A (setWalk a) Q E s:=by
 have e0:s={ s with drawn:=s.drawn }:=by cases s;rfl
 unfold setWalk setsByText
 refine a9 (uad ho od fit ?_)
 refine a9 (a9 (ubz (c8 ?_)))
 dsimp only
 refine uae (λ z=>?_) λ z=>?_
 ·refine a9 (ubz (c8 ?_))
  rw[e0]
  exact h _ _ (mH _ _)
 ·have lt:ledOf w=true:=by
   have z':w.params.followText "set-order"=false:=ucq.mpr z
   unfold ledOf;rw[z'];rfl
  refine uae (λ z2=>?_) λ z2=>?_
  ·refine a9 (kX _ _ _ _ (by simp) λ ys d' pm=>c8 (h _ d' (by simpa using pm)))
  ·refine a9 ?_
   wp_delta
   rw[led,lt]
   refine uae (λ z3=>absurd z3 (by simp)) λ _=>?_
   refine c8 (c8 ?_)
   rw[e0]
   exact h _ _ (ud1 _)
theorem lV {α β:Type}(b:β)(f:α->β->Sem (ForInStep β)):∀ es:List α,(∀ x∈es,f x b=pure (.yield b))->forIn es b f=(pure b:Sem β)
 | [],_=>by rw[ued]
 | x::es,hf=>by
  rw[udr,hf x i5]
  show forIn es b f=pure b
  exact lV b f es λ y hy=>hf y (i7 _ hy)
theorem mV {α β:Type}(b:β)(f:α->β->Sem (ForInStep β))(es:Array α)(hf:∀ x∈es.toList,f x b=pure (.yield b)):forIn es b f=(pure b:Sem β):=by
 rw[← Array.forIn_toList];exact lV b f _ hf
theorem oM {es:List (Int × d6)}(el:ElemsOf (intKind prog w) es){e:Int × d6}(he:e∈es):∃ k t,e.2=.int k t/\(intKind prog w).is k e.2=true/\e.1=(intKind prog w).hash k/\e.2.scannable=true:=by
 obtain⟨⟨k,h1,h2⟩,h3⟩:=el e he
 obtain⟨t,ht⟩:∃ t,e.2=.int k t:=by
  obtain⟨hx,x⟩:=e
  have h1':Value.isInt k x=true:=h1
  cases x <;> simp [Value.isInt] at h1'
  rename_i i t
  exact⟨t,by rw[h1']⟩
 exact⟨k,t,ht,h1,h2,h3⟩
theorem za8 {a b:j9}{S S':Int->Bool}{n m:Nat}{Q:Bool->d7->Prop}(sa:SetT prog w s.heap a S n)(sb:SetT prog w s.heap b S' m)(h:Q true s):j8 (v6 prog w) A (setsQuiet [a,b]) Q E s:=by
 obtain⟨oa,ea,epa,ta,hoa,_,oda,ela,_,_,fita,_⟩:=sa.1
 obtain⟨ob,eb,epb,tb,hob,_,odb,elb,_,_,fitb,_⟩:=sb.1
 have go : ∀ {es : Array (Int × d6)}, ElemsOf (intKind prog w) es.toList → ∀ (x : Int × d6), x∈es.toList → (match x.2 with
     | Value.ref a=>do
       let r ← specialOf x.2 (o8 "__eq__")
       if (r != some (Value.builtin "object.__eq__"))=true then pure (ForInStep.done (some false,()))
       else pure (ForInStep.yield (none,()))
     | x=>(pure (ForInStep.yield (none,())):Sem (ForInStep (Option Bool × Unit))))=pure (.yield (none,())):=λ el x hx=>by
  obtain⟨k,t,e,_⟩:=oM el hx
  rw[e]
 unfold setsQuiet
 simp only [udr,ued]
 refine a9 (a9 (a9 (ucb hoa oda fita ?_)))
 rw[mV _ _ _ (go ela)]
 refine a9 (c8 (c8 ?_))
 dsimp only
 refine a9 (a9 (ucb hob odb fitb ?_))
 rw[mV _ _ _ (go elb)]
 exact a9 (c8 (c8 (c8 (c8 h))))
theorem zA {a b:j9}{S S':Int->Bool}{n m:Nat}{Q:Array (Int × d6)->d7->Prop}(ne:a≠b)(sa:SetT prog w s.heap a S n)(sb:SetT prog w s.heap b S' m){ob:Obj}{eb:Array (Int × d6)}{epb:Nat}{tb:SetTable}(hob:s.heap.get? b=some ob)(odb:ob.data=.set eb epb tb)
  (h:∀ ord h' d',ord.toList.Perm eb.toList->Heap.SameBut a s.heap h'->SetT prog w h' a S n->Q ord { s with heap:=h',drawn:=d' }):j8 (v6 prog w) A (setWalkUnseen b [a] (some a)) Q E s:=by
 obtain⟨⟨o,es,ep,t,ho,ox,od,el,me,small,fit,en⟩,o',es',ep',t',ho',od',ti⟩:=id sb
 rw[ho] at ho';cases ho'
 rw[od] at od';cases od'
 obtain rfl:o=ob:=u7 (ho.symm.trans hob)
 obtain⟨rfl,rfl,rfl⟩:es=eb/\ep=epb/\t=tb:=by
  have:=od.symm.trans odb
  injection this with a b c
  exact⟨a,b,c⟩
 have e0:∀ d,({ s with drawn:=d }:d7)={ s with heap:=s.heap,drawn:=d }:=λ d=>rfl
 have wk:∀ {Q':Array (Int × d6)->d7->Prop},(∀ ord d',ord.toList.Perm es.toList->Q' ord { s with drawn:=d' })->j8 (v6 prog w) A (setWalk b) Q' E s:=λ h=>wS ho od fit ti.2 h
 have done:∀ ord d',ord.toList.Perm es.toList->Q ord { s with drawn:=d' }:=λ ord d' pm=>by rw[e0];exact h ord s.heap d' pm (ub2 _ _) sa
 unfold setWalkUnseen setsByText
 refine a9 (uad ho od fit ?_)
 refine a9 (a9 (ubz (c8 ?_)))
 dsimp only
 refine uae (λ z=>wk done) λ z=>?_
 refine a9 (za8 sb sa ?_)
 refine uae (λ z=>absurd z (by decide)) λ _=>?_
 refine a9 (uc0 ?_)
 obtain⟨⟨oa,ea,epa,ta,hoa,oxa,oda,ela,mea,smalla,fita,ena⟩,oa',ea',epa',ta',hoa',oda',tia⟩:=id sa
 rw[hoa] at hoa';cases hoa'
 rw[oda] at oda';cases oda'
 refine a9 (uad hoa oda fita ?_)
 dsimp only
 refine uae (λ z=>?_) λ z=>?_
 ·refine a9 (ucz hoa oda (c8 ?_) (uc2 smalla))
  obtain⟨g1,s1⟩:=ue0 (knd:=intKind prog w) (t':={ ta with led:=ta.led&&t.led,plain:=ta.plain&&t.plain }) hoa oxa oda ela mea smalla fita
  rw[ena] at s1
  exact h es _ s.drawn (ud1 _) (uax _ a _) ⟨s1,_,_,_,_,g1,rfl,tia.1,by show (ta.led&&t.led)=_;rw[tia.2,ti.2,Bool.and_self]⟩
 ·exact c8 (done es s.drawn (ud1 _))
end
end Stb
namespace Stb
open PySem PyProof.Rows
section
variable {prog:m5}{w:ual}{A:uaf}{E:d6->d7->Prop}{s:d7}
theorem qU {a b:j9}{each:Sem Unit}{ob:Obj}{eb:Array (Int × d6)}{epb:Nat}{tb:SetTable}(ne:a≠b)(odb:ob.data=.set eb epb tb)(fitb:tb.fits eb.size=true)(elb:ElemsOf (intKind prog w) eb.toList)
  (heach:∀ (z:d7)(U:Unit->d7->Prop),z.heap.get? b=some ob->U () z->j8 (v6 prog w) A each U E z) :
  ∀ (l:List (Int × d6))(s:d7)(S:Int->Bool)(n:Nat)(Q:Unit->d7->Prop),(∀ e∈l,e∈eb.toList)->s.heap.get? b=some ob->SetT prog w s.heap a S n->Cn S n->n+l.length+1<scanBound ->
  (∀ h' S2 n2,Heap.SameBut a s.heap h'->SetT prog w h' a S2 n2->Cn S2 n2->(∀ k,S2 k=true↔S k=true\/∃ e∈l,(intKind prog w).is k e.2=true)->Q () { s with heap:=h' }) ->
  j8 (v6 prog w) A (forIn l PUnit.unit λ x (_:PUnit)=>do
   let _ ← holding [x.2] (setAddHashed a x.2 x.1)
   each
   let st ← setState b
   if (st.2.1 != epb)=true then do
    (unsupported "set.changed-during-merge":Sem PUnit)
    pure (ForInStep.yield PUnit.unit)
   else pure (ForInStep.yield PUnit.unit)) Q E s
 | [],s,S,n,Q,_,_,st,c,_,fin=>by
  rw[ued]
  have e0:s={ s with heap:=s.heap }:=by cases s;rfl
  refine c8 ?_
  rw[e0]
  exact fin s.heap S n (ub2 _ _) st c λ k=>by simp
 | e::l,s,S,n,Q,hl,hb,st,c,room,fin=>by
  rw[udr]
  obtain⟨k,t,ek,h1,h2,h3⟩:=oM elb (hl e i5)
  rw[z0] at room
  refine a9 (a9 (uam ?_))
  rw[h2]
  refine rK h1 h3 st (by left) λ h' sb st'=>?_
  have hb':h'.get? b=some ob:=sb.extBut _ _ ne.symm hb
  refine a9 (heach _ _ hb' ?_)
  refine a9 (uad hb' odb fitb ?_)
  have nb:(epb != epb)=false:=by simp
  dsimp only
  rw[nb]
  refine uae (λ z=>absurd z (by decide)) λ _=>c8 ?_
  dsimp only
  refine qU ne odb fitb elb heach l { s with heap:=h' } _ _ _ (λ y hy=>hl y (i7 _ hy)) hb' st' (c.add k) (by split <;> left) λ h2' S2 n2 sb2 st2 c2 m2=>?_
  refine fin h2' S2 n2 (sb.trans sb2) st2 c2 λ y=>?_
  rw[m2 y,ucp,decide_eq_true_eq,or_assoc]
  have ky:y=k↔(intKind prog w).is y e.2=true:=by
   rw[ek]
   show y=k↔Value.isInt y (.int k t)=true
   simp [Value.isInt]
   exact⟨λ z=>z.symm,λ z=>z.symm⟩
  constructor
  ·rintro (z | z | ⟨x,hx,z⟩)
   ·exact .inl z
   ·exact .inr ⟨e,i5,ky.mp z⟩
   ·exact .inr ⟨x,i7 _ hx,z⟩
  ·rintro (z | ⟨x,hx,z⟩)
   ·exact .inl z
   ·rcases j0.mp hx with rfl | hx
    ·exact .inr (.inl (ky.mpr z))
    ·exact .inr (.inr ⟨x,hx,z⟩)
theorem zbg {a b:j9}{S S':Int->Bool}{n m:Nat}{each:Sem Unit}{Q:Unit->d7->Prop}(ne:a≠b)(sa:SetT prog w s.heap a S n)(sb:SetT prog w s.heap b S' m)(ca:Cn S n)(n0:0<n)(hl:(n+m)*2<512)
  (heach:∀ (ob:Obj)(z:d7)(U:Unit->d7->Prop),s.heap.get? b=some ob->z.heap.get? b=some ob->U () z->j8 (v6 prog w) A each U E z)
  (fin:∀ h' d' S2 n2,Heap.SameBut a s.heap h'->SetT prog w h' a S2 n2->Cn S2 n2->(∀ k,S2 k=true↔S k=true\/S' k=true)->Q () { s with heap:=h',drawn:=d' }):j8 (v6 prog w) A (setMerge a b each) Q E s:=by
 obtain⟨⟨o,es,ep,t,ho,ox,od,el,me,small,fit,en⟩,o',es',ep',t',ho',od',ti⟩:=id sb
 rw[ho] at ho';cases ho'
 rw[od] at od';cases od'
 unfold setMerge
 have nb:(a==b)=false:=by simpa using ne
 rw[nb]
 refine uae (λ z=>absurd z (by decide)) λ _=>?_
 refine a9 (uad ho od fit ?_)
 dsimp only
 have e0:s={ s with heap:=s.heap,drawn:=s.drawn }:=by cases s;rfl
 refine uae (λ z=>?_) λ z=>?_
 ·have ez:es=#[]:=by simpa using z
  subst ez
  have no:∀ k,S' k=true↔False:=λ k=>(me k).trans (by simp)
  refine c8 ?_
  rw[e0]
  exact fin s.heap s.drawn S n (ub2 _ _) sa ca λ k=>by rw[no k];simp
 ·have pos:0<es.size:=by
   have:es≠#[]:=by simpa using z
   exact Array.size_pos_iff.mpr this
  refine a9 (zb2 sa pos (by left) λ h1 sb1 sa1=>?_)
  have ho1:h1.get? b=some o:=sb1.extBut _ _ ne.symm ho
  obtain⟨oa,ea,epa,ta,hoa,oxa,oda,ela,mea,smalla,fita,ena⟩:=sa1.1
  refine a9 (uad hoa oda fita ?_)
  dsimp only
  have psz:ta.place.size=n:=by
   simp only [SetTable.fits,uaj,beq_iff_eq] at fita
   rw[fita.1];exact ena
  have rd:ta.road t=.oneByOne:=by
   unfold SetTable.road
   have:(ta.fill != 0)=true:=by
    unfold SetTable.fill
    rw[psz]
    have:n+ta.dummies.size≠0:=by left
    simpa using this
   rw[uhc this]
  rw[rd]
  dsimp only
  have sbS:SetT prog w h1 b S' m:=sb.keep λ x hx=>sb1.extBut _ _ ne.symm hx
  refine a9 (zA (s:={ s with heap:=h1 }) ne sa1 sbS ho1 od λ ord h2 d2 pm sb2 sa2=>?_)
  have ho2:h2.get? b=some o:=sb2.extBut _ _ ne.symm ho1
  rw[← Array.forIn_toList]
  have el2:ord.toList.length=m:=by rw[pm.length_eq,z9,en]
  have sc:600<=scanBound:=by unfold scanBound;decide
  have room:n+ord.toList.length+1<scanBound:=by left
  refine a9 (qU ne od fit el (λ z U hz hU=>heach o z U ho hz hU) ord.toList { s with heap:=h2,drawn:=d2 } S n _ (λ e he=>pm.mem_iff.mp he) ho2 sa2 ca room λ h3 S2 n2 sb3 sa3 c3 m3=>c8 ?_)
  refine fin h3 d2 S2 n2 (sb1.trans (sb2.trans sb3)) sa3 c3 λ k=>?_
  rw[m3 k,me k]
  exact or_congr Iff.rfl ⟨λ ⟨e,he,q⟩=>⟨e,pm.mem_iff.mp he,q⟩,λ ⟨e,he,q⟩=>⟨e,pm.mem_iff.mpr he,q⟩⟩
end
end Stb
namespace Stb
open PySem PyProof.Rows
theorem zcz:entryFor table "set.__or__"=some Builtin.«frozenset.__or__»:=entryFor_alias (id':="frozenset.__or__") (by kernel_rfl) rfl (by symm) (by kernel_rfl)
section
variable {prog:m5}{w:ual}{A:uaf}{E:d6->d7->Prop}{s:d7}
theorem kP {a:j9}{Q:Bool->d7->Prop}(hT:s.TypeIs (.ref a) "set")(h:Q true s):j8 (v6 prog w) A (Builtin.Frozenset.isAnySet (.ref a)) Q E s:=by
 unfold Builtin.Frozenset.isAnySet
 unfold orM
 refine a9 (udb (T:="set") (b:=true) hT (by rw[uep];kernel_rfl) ?_)
 exact c8 h
theorem SetT.typ {h:Heap}{a:j9}{S:Int->Bool}{n:Nat}(st:SetT prog w h a S n):∃ o,h.get? a=some o/\o.cls=.type "set":=by
 obtain⟨⟨o,es,ep,t,ho,ox,od,_⟩,_⟩:=st
 exact⟨o,ho,ox.1⟩
theorem zc0 {a b:j9}{S S':Int->Bool}{n m:Nat}{Q:d6->d7->Prop}(sa:SetT prog w s.heap a S n)(sb:SetT prog w s.heap b S' m)(ca:Cn S n)(cb:Cn S' m)(hl:(n+m)*2<512)(ne:a≠b)
  (fin:∀ h' d' S2 n2,(∀ c o,s.heap.get? c=some o->h'.get? c=some o)->SetT prog w h' s.heap.objs.size S2 n2->Cn S2 n2->(∀ k,S2 k=true↔S k=true\/S' k=true)->Q (.ref s.heap.objs.size) { s with heap:=h',drawn:=d' }) :
  j8 (v6 prog w) A (binaryOp .BitOr (.ref a) (.ref b)) Q E s:=by
 obtain⟨oa,hoa,oca⟩:=sa.typ
 obtain⟨ob,hob,ocb⟩:=sb.typ
 have tA:s.TypeIs (.ref a) "set":=⟨oa,hoa,oca⟩
 have tB:s.TypeIs (.ref b) "set":=⟨ob,hob,ocb⟩
 refine wpAny_binaryOp_same (op:=.BitOr) (T:="set") tA tB PySem.F.fills_set_or PySem.F.slot_set_or ?_
 refine uat PySem.F.slot_set_or tA zcz ?_ (PySem.F.args_set_or_2 _ _)
 unfold Builtin.«frozenset.__or__»
 wp_delta
 refine a9 (m:=Builtin.Frozenset.slot1 "__or__" { pos:=[Value.ref a,Value.ref b] }) (c8 ?_)
 dsimp only
 rw[uhd (by decide)]
 dsimp only
 unfold andM
 refine a9 (a9 (kP tA ?_))
 refine kP tB ?_
 refine uae (λ z=>absurd z (by decide)) λ _=>?_
 refine a9 (m:=Builtin.Frozenset.addrOf (.ref a)) (c8 ?_)
 refine a9 ?_
 wp_delta
 refine a9 ?_
 unfold Builtin.Frozenset.copyOf Builtin.Frozenset.baseOf
 refine a9 (a9 (udb (T:="set") (b:=true) tA (by rw[uep];kernel_rfl) (c8 ?_)))
 rw[uhc rfl]
 unfold newSet setsByText
 refine a9 (a9 (a9 (ubz (c8 (uay ?_)))))
 have lo:(!(v6 prog w).w.params.followText "set-order")=ledOf w:=rfl
 rw[lo]
 generalize hR:s.heap.objs.size=R
 rw[hR] at fin
 have hnew:(s.heap.push { cls:=.type "set",data:=.set #[] 0 (.fresh 0 0 (ledOf w)) }).get? R=some { cls:=.type "set",data:=.set #[] 0 (.fresh 0 0 (ledOf w)) }:=by rw[← hR];exact i6 _ rfl
 have up:∀ c o,s.heap.get? c=some o->(s.heap.push { cls:=.type "set",data:=.set #[] 0 (.fresh 0 0 (ledOf w)) }).get? c=some o:=λ c o e=>b9 _ e
 have nR:∀ c o,s.heap.get? c=some o->c≠R:=λ c o e=>by rw[← hR];exact j7 (j3 e)
 generalize s.heap.push { cls:=.type "set",data:=.set #[] 0 (.fresh 0 0 (ledOf w)) }=h1 at hnew up ⊢
 have full8:Lay9.Full 8:=by
  have:=(Lay9.size_full (n:=1) (by decide)).1
  exact this
 have fr:Fr w h1 R 0:=⟨_,_,_,hnew,⟨rfl,rfl,rfl⟩,rfl,rfl,rfl,full8,rfl,w8 _⟩
 have saR:SetT prog w h1 a S n:=sa.keep λ x hx=>up _ _ hx
 have sbR:SetT prog w h1 b S' m:=sb.keep λ x hx=>up _ _ hx
 have neA:=nR a oa hoa
 have neB:=nR b ob hob
 have nba:(Value.ref b != Value.ref a)=true:=by
  have:Value.ref b≠Value.ref a:=λ z=>by injection z with z;exact ne z.symm
  simpa using this
 have ea:∀ (ob':Obj)(es:Array (Int × d6))(ep:Nat)(t:SetTable),ob'.data=.set es ep t->t.fits es.size=true->∀ (z:d7)(U:Unit->d7->Prop),z.heap.get? b=some ob'->U () z->j8 (v6 prog w) A.in1 (Builtin.Frozenset.unchanged (toString "frozenset."++toString "__or__") b ep) U E z:=λ ob' es ep t od fit z U hz hU=>by
  unfold Builtin.Frozenset.unchanged
  refine a9 (uge hz od fit ?_)
  have:(ep != ep)=false:=by simp
  rw[this]
  exact c8 hU
 refine a9 (m:=Builtin.Frozenset.addrOf (.ref R)) (c8 ?_)
 have tail : ∀ (h2 : Heap)(d2 : Drawn), (∀ c o, c ≠ R → h1.get? c = some o → h2.get? c = some o) → ((n = 0 /\ Fr w h2 R 0) \/ (0<n /\ SetT prog w h2 R S n)) → j8 (v6 prog w) A.in1 (pure (Value.ref R)) (λ a_1 s' => j8 (v6 prog w) A.in1
       (have __do_jp:=λ (__r:PUnit)=>(pure a_1:Sem d6);
       if (Value.ref b != Value.ref a)=true then do
         let __do_lift ← Builtin.Frozenset.addrOf a_1
         let __r ← holding [a_1] (Builtin.Frozenset.updateFrom (toString "frozenset."++toString "__or__") __do_lift (Value.ref b))
         __do_jp __r
       else __do_jp ())
       (λ a s'=>j8 (v6 prog w) A.in1 (ret a) (λ fin s'=>∃ v,fin=Fin.done (Flow.ret v)/\v≠Value.notImplemented/\Q v s') E s') E s') E { s with heap:=h2,drawn:=d2 }:=λ h2 d2 k2 cs=>by
  refine c8 ?_
  rw[nba]
  refine uae (λ _=>?_) λ z=>absurd rfl z
  refine a9 (m:=Builtin.Frozenset.addrOf (.ref R)) (c8 (a9 (uam ?_)))
  have sb2:SetT prog w h2 b S' m:=sbR.keep λ x hx=>k2 _ _ neB hx
  obtain⟨ob2,hob2,ocb2⟩:=sb2.typ
  obtain⟨o2,es2,ep2,t2,ho2,ox2,od2,el2,me2,small2,fit2,en2⟩:=sb2.1
  unfold Builtin.Frozenset.updateFrom Builtin.Frozenset.merge
  refine a9 (kP ⟨ob2,hob2,ocb2⟩ ?_)
  refine uae (λ _=>?_) λ z=>absurd rfl z
  refine a9 (m:=Builtin.Frozenset.addrOf (.ref b)) (c8 ?_)
  refine a9 (uge ho2 od2 fit2 ?_)
  rcases cs with ⟨rfl,f2⟩ | ⟨n0,s2⟩
  ·refine nX (s:={ s with heap:=h2,drawn:=d2 }) neB.symm f2 sb2 (by left) λ h3 sb3 st3=>?_
   refine c8 (c8 ⟨_,rfl,by simp,fin h3 d2 S' m (λ c o e=>sb3.extBut _ _ (nR c o e) (k2 _ _ (nR c o e) (up _ _ e))) st3 cb λ k=>?_⟩)
   obtain⟨l,_,ll,hm⟩:=ca
   have:l=[]:=uf0 ll
   rw[hm k,this];simp
  ·refine zbg (s:={ s with heap:=h2,drawn:=d2 }) neB.symm s2 sb2 ca n0 hl (λ ob' z U h1' hz hU=>?_) λ h3 d3 S2 n2 sb3 st3 c3 m3=>?_
   ·obtain rfl:o2=ob':=u7 (ho2.symm.trans h1')
    exact ea _ _ _ _ od2 fit2 z U hz hU
   ·exact c8 (c8 ⟨_,rfl,by simp,fin h3 d3 S2 n2 (λ c o e=>sb3.extBut _ _ (nR c o e) (k2 _ _ (nR c o e) (up _ _ e))) st3 c3 m3⟩)
 rcases ufj n with n0 | n0
 ·subst n0
  obtain⟨o2,es2,ep2,t2,ho2,ox2,od2,el2,me2,small2,fit2,en2⟩:=saR.1
  have ez:es2=#[]:=Array.size_eq_zero_iff.mp en2
  unfold setMerge
  have nb:(R==a)=false:=by simpa using neA.symm
  rw[nb]
  refine a9 ?_
  refine uae (λ z=>absurd z (by decide)) λ _=>?_
  refine a9 (uad ho2 od2 fit2 ?_)
  dsimp only
  rw[ez]
  refine uae (λ _=>?_) λ z=>absurd rfl z
  exact c8 (tail h1 s.drawn (λ _ _ _ e=>e) (.inl ⟨rfl,fr⟩))
 ·refine a9 (nX (s:={ s with heap:=h1 }) neA.symm fr saR (by left) λ h2 sb2 st2=>?_)
  exact tail h2 s.drawn (λ c o hc e=>sb2.extBut _ _ hc e) (.inr ⟨n0,st2⟩)
end
end Stb
namespace L3
open PySem PySem.Spec PyProof.Rows L2
section
variable {X:Cx}
theorem zcd:OpR X (binaryOp .BitOr) (λ x y H Q=>∃ (p q:j9)(S S':Int->Bool)(n m:Nat),x=.ref p/\y=.ref q/\p≠q/\H p=some (SetO X.prog X.w p S n)/\H q=some (SetO X.prog X.w q S' m)/\Stb.Cn S n/\Stb.Cn S' m/\(n+m)*2<512 /\
  ∀ r S2 n2 H',Same H H'->H r=none->H' r=some (SetO X.prog X.w r S2 n2)->Stb.Cn S2 n2->(∀ k,S2 k=true↔S k=true\/S' k=true)->Q (.ref r) H'):=by
 intro pins s σ H x y u v Q I rx ry h
 obtain⟨p,q,S,S',n,m,rfl,rfl,ne,hp,hq,cp,cq,hl,fin⟩:=h
 cases rx
 cases ry
 have sp:Stb.SetT X.prog X.w s.heap p S n:=(show ObjOk X.prog X.w H s.heap p (SetO X.prog X.w p S n) from I.hok p _ hp).1
 have sq:Stb.SetT X.prog X.w s.heap q S' m:=(show ObjOk X.prog X.w H s.heap q (SetO X.prog X.w q S' m) from I.hok q _ hq).1
 refine Stb.zc0 sp sq cp cq hl ne λ h' d' S2 n2 hk st c2 m2=>?_
 have fr:H s.heap.objs.size=none:=I.hok.fresh (h9 _)
 have I1:=I.laid (a:=s.heap.objs.size) (o:=SetO X.prog X.w s.heap.objs.size S2 n2) (t':=s.toks) hk (h9 _) ⟨st,by obtain⟨o,e,_⟩:=st.typ;exact⟨o,e⟩,λ h1 h2 x k=>x.keep k⟩
 have I2:Inv X pins σ (upd H s.heap.objs.size (SetO X.prog X.w s.heap.objs.size S2 n2)) { s with heap:=h',drawn:=d' }:=⟨I1.ok,I1.os,I1.bare,I1.base,I1.loc,I1.cell,I1.free,I1.freeC,I1.pin,I1.hok,I1.len⟩
 exact⟨.ref s.heap.objs.size,_,I2,rfl,fin _ S2 n2 _ (aQ fr) fr aH c2 m2⟩
theorem rC (ns:List Int):Stb.Cn (HT.setS ns ns.length) (HT.setN ns ns.length):=by
 obtain⟨h1,h2⟩:=dY (λ i=>ns.getD i 0) ns.length
 refine⟨firstMet (λ i=>ns.getD i 0) ns.length,h1,rfl,λ k=>?_⟩
 show ((firstMet (λ i=>ns.getD i 0) ns.length).any (·==k))=true↔_
 rw[ucc]
 exact⟨λ ⟨x,hx,e⟩=>by rw[← (by simpa using e:x=k)];exact hx,λ h=>⟨k,h,by simp⟩⟩
theorem kJ {S:Int->Bool}{n m:Nat}(c:Stb.Cn S n)(h:∀ k,S k=true->0<=k/\k<m):n<=m:=by
 obtain⟨l,nd,ll,hm⟩:=c
 have e:l.length=(l.map Int.toNat).length:=(c9 _).symm
 rw[← ll,e]
 refine Peel.cV m _ ?_ λ p hp=>?_
 ·rw[uap,uao]
  refine uca ?_ nd
  intro a b ha hb ne z
  have:=h a ((hm a).mpr ha)
  have:=h b ((hm b).mpr hb)
  left
 ·obtain⟨x,hx,rfl⟩:=y2.mp hp
  have:=h x ((hm x).mpr hx)
  left
end
section
variable {n:Int}{ts:List Tie}{ks:List Nat}{hs:List Int}{r:Nat}
end
theorem yK {S:Int->Bool}{n m:Nat}{ms:List Int}(c:Stb.Cn S n)(hl:ms.length=n)(hm:∀ k,S k=true↔k∈ms)(pw:ms.Pairwise (·<=·))(b:∀ k,S k=true->0<=k/\k<m):ms.map V.int=natV ((c7 m).filter λ k=>S (k:Int))/\KeepOk m ((c7 m).filter λ k=>S (k:Int)):=by
 obtain⟨l,nd,ll,hml⟩:=c
 have pm:=iO (m:=ms) nd (λ x hx=>(hm x).mp ((hml x).mpr hx)) (ueb (hl.trans ll.symm))
 have ndm:ms.Nodup:=pm.nodup_iff.mpr nd
 have nn:∀ x∈ms,0<=x:=λ x hx=>(b x ((hm x).mpr hx)).1
 have ko:KeepOk m ((c7 m).filter λ k=>S (k:Int)):=⟨uc6 _ uaw,λ k hk=>j4.mp (uac.mp hk).1⟩
 refine⟨?_,ko⟩
 rw[jL nn]
 congr 1
 have lt:ms.Pairwise (·<·):=(pw.and ndm).imp λ ⟨a,b⟩=>by left
 refine jF ?_ ko.1 λ k=>?_
 ·rw[uao]
  refine uca ?_ lt
  intro a b ha hb ab
  have:=nn a ha
  left
 ·rw[uac,j4,y2]
  constructor
  ·rintro ⟨x,hx,rfl⟩
   have:=b x ((hm x).mpr hx)
   refine⟨by left,?_⟩
   rw[uar this.1]
   exact (hm x).mpr hx
  ·rintro ⟨hk,s⟩
   exact⟨(k:Int),(hm _).mp s,u4 k⟩
section
variable {X:Cx}
theorem vT {elts es:List ucg}{c:Nat}{p:Pos}{env:Env}:ubd (.Tuple elts c p::es) env=(false,eval (.Tuple elts c p) env)::ubd es env:=by rfl
theorem zS {elts es:List ucg}{c:Nat}{p:Pos}{te:TE}{t:TA}(ha:PE X (.Tuple elts c p) te)(hr:PA X es t):PA X (.Tuple elts c p::es) (tCons te t):=aA ha hr vT
theorem eU {elts es:List ucg}{c:Nat}{p:Pos}{te:TE}{t:TA}(a:BE X (.Tuple elts c p) te)(b:BA X es t):BA X (.Tuple elts c p::es) (tCons te t):=⟨zS a.h b.h⟩
theorem cY {cv:Const}{c:Nat}{p:Pos}{es:List ucg}{te:TE}{t:TA}(a:BE X (.Constant cv c p) te)(b:BA X es t):BA X (.Constant cv c p::es) (tCons te t):=⟨aA a.h b.h (by rfl)⟩
theorem gY {l r:ucg}{op:Operator}{p:Pos}{es:List ucg}{te:TE}{t:TA}(a:BE X (.BinOp l op r p) te)(b:BA X es t):BA X (.BinOp l op r p::es) (tCons te t):=⟨aA a.h b.h (by rfl)⟩
end
end L3
namespace Hx
open PySem PySem.W
structure Ch where
 i:Nat
 a:Nat
 t:Nat
 j:Nat
 u:Nat
 b:Nat:=0
def stt (p:m5)(i:Nat):ude:=p.main.body.getD i (.Pass ⟨0,0,0,0⟩)
def fileS:Str:=o8 "/claim/cut.py"
def mdV (p:m5)(c:Ch):d6:=match stt p c.j with
 | .Assign _ (.Constant (.str x) _ _) _=>.str x c.u
 | _=>.str (o8 "__main__") c.u
def sT (xs:List d6):Obj:=⟨.type "tuple",none,.seq xs.toArray 0,#[]⟩
def fE (xs:List d6):Obj:=⟨.none,none,.fields xs.toArray,#[]⟩
def tks:List Str->Nat->List d6
 | [],_=>[]
 | v::r,t=>.str v t::tks r (t+1)
def z:d6:=.int 0 0
def cdO (nm q:Str)(t:Nat)(l:Int)(na fl:Int)(k:d6)(fn:Bool)(tb vs cs tp:d6)(u:Nat):Obj :=
 ⟨.type "code",none,.fields #[.str nm t,.str q (t+1),.str fileS (t+2),.int l 0,.int na 0,z,z,.int fl 0,k,.bool fn,.int 181 0,tb,.none,vs,cs,tp,.int u 0,.int l 0,.str fileS (u+1)],#[]⟩
def ent (P:Params)(s:Str)(t:Nat)(v:d6):DictEntry:=⟨PyData.keyHash P s,.str s t,v⟩
def dO (es:List DictEntry)(n:Nat):Obj:=⟨.type "dict",none,.dict es.toArray n,#[]⟩
structure Got where
 os:List Obj
 en:List DictEntry
 tb:List d6
def fO (P:Params)(md:d6)(a t:Nat)(name:Str)(args:Arguments)(body:List ude)(scope:ueh)(bind:Str)(pos:Pos):Got :=
 let fd:ub7:=⟨name,bind,args,.stmts body,scope,0,[],.none,.none,.none,.none,none,.none,.none,0⟩
 let k (vs cs:d6) (b u:Nat) (h:List Obj):Got :=
  ⟨h++[⟨.none,none,.func fd,#[]⟩,cdO name bind t pos.line args.args.length 3 (.ref a) true (.ref (a+1)) vs cs (.ref b) u,
   ⟨.type "function",none,.func ⟨name,bind,args,.stmts body,scope,3,[],.none,.none,.none,md,none,.ref (b+1),.none,0⟩,#[]⟩],
   [ent P name (u+2) (.ref (b+2))],[.int pos.line 0,.int pos.col 0,.ref (b+1)]⟩
 match localNames args scope (.stmts body) with
 | none=>k .none .none (a+2) (t+3) [sT [],fE []]
 | some (vs,cs)=>k (.ref (a+2)) (.ref (a+3)) (a+4) (t+3+vs.length+cs.length) [sT [],fE [],sT (tks vs (t+3)),sT (tks cs (t+3+vs.length))]
def mro0:List d6:=[.type "ValueError",.type "Exception",.type "BaseException",.type "object"]
def clO (P:Params)(md:d6)(a t:Nat)(base:Option Nat)(sub:List d6)(name bind:Str)(pos:Pos):Got :=
 let l:Int:=pos.line
 let w:=base.isNone
 let C:=a+9-(if w then 0 else 0)
 let bs:d6:=match base with | none=>.type "ValueError" | some b=>.ref b
 let e1:=ent P (o8 "__module__") (t+7) md
 let e2:=ent P (o8 "__firstlineno__") (t+11) (.int l (t+10))
 let e3:=ent P (o8 "__static_attributes__") (t+12) (.ref (a+7))
 ⟨[sT [bs],⟨.type "builtin_function_or_method",none,.fields #[.builtin "type.__prepare__",.type "type"],#[]⟩,
  dO [e1,ent P (o8 "__qualname__") (t+9) (.str bind (t+8)),e2,e3] 4,sT [],fE [],
  cdO name bind (t+2) l 0 0 (.ref (a+3)) false (.ref (a+4)) .none .none .none (t+5),
  ⟨.type "frame",none,.plain,#[some (.ref (a+5)),some (.ref 3),some (.ref (a+2)),none,some md,none,some (.ref 0)]⟩,sT [],
  dO (e1::e2::e3::(if w then [ent P (o8 "__weakref__") (t+14) (.ref (a+10)),ent P (o8 "__doc__") (t+15) .none] else [ent P (o8 "__doc__") (t+13) .none])) (if w then 3 else 2),
  ⟨.type "type",none,.cls ⟨name,[bs],.ref C::(match base with | none=>mro0 | some b=>.ref b::mro0),a+8,bind,true,[],sub,false,none,false⟩,
   #[some (.ref a),none,some (.str name t),some (.str bind (t+8)),some (.builtin "ValueError.__new__"),some (.bool true)]⟩] ++
  (if w then [⟨.type "getset_descriptor",none,.fields #[.str (o8 "__weakref__") (t+13),.ref C,.builtin "ExceptionGroup.__weakref__",.none],#[]⟩] else []) ++
  [⟨.type "super",none,.fields #[.ref C,.ref C,.ref C],#[]⟩,⟨.type "builtin_function_or_method",none,.fields #[.builtin "object.__init_subclass__",.ref C],#[]⟩],
  [ent P name (t+(if w then 17 else 15)) (.ref C)],[.int l 0,.int pos.col 0,.ref (a+5)]⟩
def got (p:m5)(P:Params)(cs:List Ch)(c:Ch):Got:=match stt p c.i with
 | .FunctionDef name args body _ _ _ scope _ bind pos=>fO P (mdV p c) c.a c.t name args body scope bind pos
 | .ClassDef name _ _ _ _ _ _ _ bind _ pos=>clO P (mdV p c) c.a c.t (if c.b==0 then none else some c.b) (cs.filterMap λ d=>if d.b==c.a+9 then some (.ref (d.a+9)) else none) name bind pos
 | _=>⟨[],[],[]⟩
def nameNow (p:m5)(cs:List Ch):Option d6:=match cs.getLast? with
 | some c=>some (mdV p { c with j:=c.j,u:=c.u })
 | none=>none
def setName (P:Params)(v:Option d6):List DictEntry->List DictEntry
 | e::r=>(match v with | some v=>{ e with val:=v } | none=>e)::r
 | []=>[]
def globO (p:m5)(P:Params)(cs:List Ch)(en:List DictEntry):Obj->Obj
 | ⟨c,d,.dict es n,s⟩=>⟨c,d,.dict (setName P (nameNow p cs) es.toList++en).toArray (n+en.length),s⟩
 | o=>o
def objs (p:m5)(P:Params)(B:List Obj)(cs:List Ch):List Obj :=
 let gs:=cs.map (got p P cs)
 match B with
 | b0::b1::b2::b3::r=>b0::b1::b2::globO p P cs (gs.flatMap (·.en)) b3::(r++(sT []::fE (gs.flatMap (·.tb)) ::
  cdO (o8 "<module>") (o8 "<module>") 182 1 0 0 (.ref 11) false (.ref 12) .none .none .none 185 ::
  ⟨.type "frame",none,.plain,#[some (.ref 13),some (.ref 3),some (.ref 3),none,some (.str (o8 "__main__") 164),none,some (.ref 0)]⟩::gs.flatMap (·.os)))
 | _=>[]
def spl:List Obj->List Obj × List Obj
 | []=>([],[])
 | x::r=>(x::(spl r).2,(spl r).1)
def braun:Nat->List Obj->BT
 | 0,_=>.nil
 | _+1,[]=>.nil
 | f+1,o::r=>.node o (braun f (spl r).1) (braun f (spl r).2)
structure Cut where
 k:Nat
 n:Nat
 t:Nat
def hpT (p:m5)(B:Params->List Obj)(cs:List Ch)(c:Cut)(P:Params):Heap:=absHeap (braun 12 (objs p P (B P) (cs.take c.k))) c.n {}
def stT (p:m5)(B:Params->List Obj)(D:Drawn)(cs:List Ch)(c:Cut)(w:ual)(os:OsState):SharedT :=
 ⟨braun 12 (objs p w.params (B w.params) (cs.take c.k)),c.n,{},uem [],D,c.t,os⟩
def env (p:m5):Env:={ scope:=p.main.scope,locals:=mainNs,globals:=mainNs,cells:=[],code:=.ref 13,frame:=some 14 }
def cE (p:m5):Code:=.body p.main.body (env p)
def pos0:Pos:=⟨0,0,0,0⟩
def posOf (p:m5):Nat->Pos
 | 0=>pos0
 | k+1=>match stt p k with
  | .Assign [.Name _ q] _ _=>q
  | .FunctionDef _ _ _ _ _ _ _ _ _ q=>q
  | .ClassDef _ _ _ _ _ _ _ _ _ _ q=>q
  | _=>pos0
def ann0:Option d6:=some (.ref 6)
def PieceT (p:m5)(B:Params->List Obj)(D:Drawn)(cs:List Ch)(a b:Cut)(N:Nat):Prop:=∀ w:ual,
 (λ os=>segRunT treeTable p w 11 ann0 1 N (stT p B D cs a w os) (piecesOf ((p.main.body.drop a.k).take (b.k-a.k)) (env p) (cE p) (posOf p a.k) [topFrame pos0]))=λ os=>some (Flow.next,stT p B D cs b w os,cE p,posOf p b.k)
def PreT (p:m5)(B:Params->List Obj)(D:Drawn)(h:Params->Heap)(t:Nat)(cs:List Ch)(a:Cut):Prop:=∀ w:ual,
 (λ os=>topGo treeTable p w 11 ann0 12 ⟨h w.params,uem [],D,t,os⟩ (topStub p))=λ os=>some ((stT p B D cs a w os).abs,⟨denote treeTable (cE p),cE p,pos0,[topFrame pos0]⟩)
def BlockT (p:m5):Prop:=∀ (w:ual)(s:d7),segRun treeTable p w 11 ann0 1 1 s (blockOf p.main.body (env p) (cE p) pos0 [topFrame pos0])=some (.next,s,cE p,pos0)
noncomputable def boots (P:Params):List Obj:=[boot_o_0 P,boot_o_1 P,boot_o_2 P,boot_o_3 P,boot_o_4 P,boot_o_5 P,boot_o_6 P,boot_o_7 P,boot_o_8 P,boot_o_9 P,boot_o_10 P]
def qv (p:m5)(is:List Nat):m5:={ p with main:={ p.main with body:=is.map (stt p) } }
def nmO:ude->Option Str
 | .FunctionDef n ..=>some n
 | .ClassDef n ..=>some n
 | _=>none
def lz (p:m5)(is:List Nat)(n:Nat):List Str:=(c7 n).filterMap λ i=>if is.contains i then none else nmO (stt p i)
def kk (a:Nat)(g:Got):List (Nat × Obj):=match g.os with
 | [_,_,_,c,f]=>[(a+3,c),(a+4,f)]
 | [_,_,_,_,_,c,f]=>[(a+5,c),(a+6,f)]
 | _::_::_::_::_::_::_::_::d::C::_=>[(a+8,d),(a+9,C)]
 | _=>[]
def Kf (p:m5)(B:Params->List Obj)(cs:List Ch)(P:Params):Frag :=
 let gs:=cs.map (got p P cs)
 (3,globO p P cs (gs.flatMap (·.en)) ((B P).getD 3 (sT [])))::(cs.zip gs).flatMap λ c=>kk c.1.a c.2
def LookA (p:m5)(B:Params->List Obj)(D:Drawn)(h:Params->Heap)(cs:List Ch)(c:Cut):Prop:=∀ w:ual,(λ os =>
  (staticsOk (importedModules p.main.body) (h w.params) (hpT p B cs c w.params)&&namesBound p (hpT p B cs c w.params)&&gensDone ⟨hpT p B cs c w.params,uem [],D,c.t,os⟩&&laidKept (h w.params) (hpT p B cs c w.params)))=λ _:OsState=>true
def LookB (p:m5)(B:Params->List Obj)(D:Drawn)(cs:List Ch)(c:Cut)(is:List Nat)(rc:WRecords):Prop:=∀ w:ual,(λ os =>
  openSeen (qv p is) (lz p is c.k) (importedModules p.main.body) (λ s=>xlAt (qv p is) [] s&&recOk rc s) true ⟨hpT p B cs c w.params,uem [],D,c.t,os⟩)=λ _:OsState=>openGood (qv p is) (lz p is c.k)
def LookC (p:m5)(B:Params->List Obj)(cs:List Ch)(c:Cut)(as:List Nat):Prop:=∀ w:ual,as.map (hpT p B cs c w.params).get?=(Kf p B cs w.params).map λ p=>some p.2
section
variable {p:m5}{D:Drawn}{cs:List Ch}
theorem zbp {w:ual}{s:d7}{c:Code}{q:Pos}:topRun treeTable p w 11 ann0 2 s ⟨doneF .next,c,q,[topFrame pos0]⟩=some s:=rfl
theorem yL {w:ual}{os:OsState}{c:Cut}(h:p.main.body.drop c.k=[]) :
  topRun treeTable p w 11 ann0 2 (stT p boots boot_drawn cs c w os).abs (restOf (p.main.body.drop c.k) (env p) (cE p) (posOf p c.k) [topFrame pos0])=some (stT p boots boot_drawn cs c w os).abs:=by
 rw[h];exact piece_nil zbp
theorem chain {w:ual}{os:OsState}{a b:Cut}{N M:Nat}{r:d7}(h:PieceT p boots boot_drawn cs a b N)(le:a.k<=b.k)
  (k:topRun treeTable p w 11 ann0 M (stT p boots boot_drawn cs b w os).abs (restOf (p.main.body.drop b.k) (env p) (cE p) (posOf p b.k) [topFrame pos0])=some r) :
  topRun treeTable p w 11 ann0 (N+M) (stT p boots boot_drawn cs a w os).abs (restOf (p.main.body.drop a.k) (env p) (cE p) (posOf p a.k) [topFrame pos0])=some r:=by
 have e:p.main.body.drop a.k=(p.main.body.drop a.k).take (b.k-a.k)++p.main.body.drop b.k:=by
  have x:=(List.take_append_drop (b.k-a.k) (p.main.body.drop a.k)).symm
  rw[List.drop_drop,Nat.add_sub_cancel' le] at x;exact x
 rw[e];exact piece_app (segRun_of (congrFun (h w) os)) k
theorem za3 {w:ual}{os:OsState}{M:Nat}{r:d7}(pre:PreT p boots boot_drawn boot_heap boot_toks cs ⟨0,15,187⟩)(bl:BlockT p)
  (k:topRun treeTable p w 11 ann0 M (stT p boots boot_drawn cs ⟨0,15,187⟩ w os).abs (restOf (p.main.body.drop 0) (env p) (cE p) (posOf p 0) [topFrame pos0])=some r) :
  topRun treeTable p w 11 ann0 (12+(1+M)) ⟨boot_heap w.params,uem [],boot_drawn,boot_toks,os⟩ (topStub p)=some r :=
 go_top (congrFun (pre w) os) (piece_block (bl w _) k)
theorem zbi {is as:List Nat}{rc:WRecords}{c:Cut}{M N:Nat}{e:∀ P,as=(Kf p boots cs P).map (·.1)}
  (op:opening p=plainProg p.main.scope.names) (hN:Nat.ble 600 N=true) (fe:∀ s,fenceModules? p s=some s)
  (size:∀ w:ual,((boot_heap w.params).isNs p8&&(uem []:Array GenState).size==0,(boot_heap w.params).objs.size,(boot_heap w.params).nsMap p8 "__annotations__")=(true,11,ann0))
  (run:∀ (w:ual)(os:OsState),topRun treeTable p w 11 ann0 M ⟨boot_heap w.params,uem [],boot_drawn,boot_toks,os⟩ (topStub p)=some (stT p boots boot_drawn cs c w os).abs) (le:Nat.ble M N=true)
  (hA:LookA p boots boot_drawn boot_heap cs c) (hB:LookB p boots boot_drawn cs c is rc) (hC:LookC p boots cs c as) :
  LeftO p (qv p is) (lz p is c.k) (λ s=>xlAt (qv p is) [] s&&recOk rc s) (Hook.obs (kHook (Kf p boots cs) as e)) (Hook.val (kHook (Kf p boots cs) as e)) N :=
 LeftO.of_pieces (H₀:=boot_heap) (H₁:=hpT p boots cs c) (boot_open op hN fe) size run le λ w=>funext λ os=>by
  have a:=congrFun (hA w) os
  have b:=congrFun (hB w) os
  have c:=hC w
  exact looks_pair a (looks_pair b c)
end
end Hx
set_option hygiene false
local macro_rules | `(tactic| exists $k, $s) => `(tactic| (refine kN (k := $k) D $s (fun vs H Q E h => by first | (obtain ⟨_, rfl, _⟩ := h; rfl) | (obtain ⟨_, _, rfl, _⟩ := h; rfl) | (obtain ⟨_, _, _, rfl, _⟩ := h; rfl) | (obtain ⟨_, _, _, _, rfl, _⟩ := h; rfl) | (obtain ⟨_, _, _, _, _, rfl, _⟩ := h; rfl) | (obtain ⟨_, _, _, _, _, _, rfl, _⟩ := h; rfl) | (obtain ⟨_, _, _, _, _, _, _, rfl, _⟩ := h; rfl) | (obtain ⟨_, _, _, _, _, _, _, _, rfl, _⟩ := h; rfl) | (obtain ⟨_, _, _, _, _, _, _, _, _, rfl, _⟩ := h; rfl) | (obtain ⟨_, _, _, _, _, _, _, _, _, _, rfl, _⟩ := h; rfl) | (obtain ⟨_, _, _, _, _, _, _, _, _, _, _, rfl, _⟩ := h; rfl) | (obtain ⟨_, _, _, _, _, _, _, _, _, _, _, _, rfl, _⟩ := h; rfl) | (obtain ⟨_, _, _, _, _, _, _, _, _, _, _, _, _, rfl, _⟩ := h; rfl) | (obtain ⟨_, _, _, _, _, _, _, _, _, _, _, _, _, _, rfl, _⟩ := h; rfl) | (obtain ⟨_, _, _, _, _, _, _, _, _, _, _, _, _, _, _, rfl, _⟩ := h; rfl)) (fun f cdv A outer s H vs Q E hr h => ?_); have nd := ($s).nd))
local macro_rules | `(tactic| exists $k, $s, $s2) => `(tactic| refine kN (k := $k) D $s (fun vs H Q E h => ?_) (fun f cdv A outer s H vs Q E hr h => ?_))
local macro_rules | `(‹$n:num›) => `(Ok P w K mg base $n)
set_option hygiene true
namespace Me
open PySem PySem.Spec PyProof.Rows L2 L3
def top (i:Nat):ude:=a8.main.body.getD i (.Pass ⟨0,0,0,0⟩)
abbrev s_whole:ude:=top 1
theorem sc_whole:FnScope ["web"] ["web"] (defScope s_whole):=by right
abbrev s_tie_between:ude:=top 2
theorem sc_tie_between:FnScope ["web","a","b","ends","number","tie"] ["web","a","b"] (defScope s_tie_between):=by right
abbrev s_order_of:ude:=top 3
theorem sc_order_of:FnScope ["web"] ["web"] (defScope s_order_of):=by right
abbrev s_ties_along:ude:=top 5
theorem sc_ties_along:FnScope ["web","places"] ["web","places"] (defScope s_ties_along):=by right
abbrev s_way_length:ude:=top 6
theorem sc_way_length:FnScope ["web","way"] ["web","way"] (defScope s_way_length):=by right
abbrev s_tie_weights:ude:=top 7
theorem sc_tie_weights:FnScope ["web","weights","weight","tie"] ["web"] (defScope s_tie_weights):=by right
abbrev s_cost_with:ude:=top 8
theorem sc_cost_with:FnScope ["cost","length","weight"] ["cost","length","weight"] (defScope s_cost_with):=by right
abbrev s_reached_from:ude:=top 9
theorem sc_reached_from:FnScope ["web","keep","root","weights","costs","ahead","again","tie","a","b","length","one","other","cost"] ["web","keep","root"] (defScope s_reached_from):=by right
abbrev s_fars_from:ude:=top 10
theorem sc_fars_from:FnScope ["web","keep","root","costs","ahead"] ["web","keep","root"] (defScope s_fars_from):=by right
abbrev s_tree_from:ude:=top 11
theorem sc_tree_from:FnScope ["web","keep","root","costs","ahead"] ["web","keep","root"] (defScope s_tree_from):=by right
abbrev s_the_way:ude:=top 12
theorem sc_the_way:FnScope ["web","keep","a","b","tree","way"] ["web","keep","a","b"] (defScope s_the_way):=by right
abbrev s_piece_of:ude:=top 13
theorem sc_piece_of:FnScope ["web","keep","place"] ["web","keep","place"] (defScope s_piece_of):=by right
abbrev s_ringless:ude:=top 15
theorem sc_ringless:FnScope ["web","ties","marks","told","tie","a","b","length","one","other"] ["web","ties"] (defScope s_ringless):=by right
abbrev s_least_forest:ude:=top 16
theorem sc_least_forest:FnScope ["web"] ["web"] (defScope s_least_forest):=by right
abbrev s_ties_of_ways:ude:=top 18
theorem sc_ties_of_ways:FnScope ["web","ways","ties","way"] ["web","ways"] (defScope s_ties_of_ways):=by right
abbrev s_neighbours:ude:=top 20
theorem sc_neighbours:FnScope ["web","keep","place","ties"] ["web","keep","place"] (defScope s_neighbours):=by right
abbrev s_first_new:ude:=top 22
theorem sc_first_new:FnScope ["web","forest","place","seen","new"] ["web","forest","place","seen"] (defScope s_first_new):=by right
abbrev s_put_in:ude:=top 23
theorem sc_put_in:FnScope ["web","forest","root","p","q","fars","trail","seen","put","count","here","place"] ["web","forest","root","p","q"] (defScope s_put_in):=by right
abbrev s_ties_in_piece:ude:=top 24
theorem sc_ties_in_piece:FnScope ["web","forest","root","piece"] ["web","forest","root"] (defScope s_ties_in_piece):=by right
abbrev s_near_light:ude:=top 25
theorem sc_near_light:FnScope ["web","root","p","q","forest","put","bought"] ["web","root","p","q"] (defScope s_near_light):=by right
abbrev s__law_pot:ude:=top 27
theorem sc__law_pot:FnScope ["script","k","cell","prime"] ["script","k"] (defScope s__law_pot):=by right
abbrev s__law_take:ude:=top 28
theorem sc__law_take:FnScope ["pot","many","found"] ["pot","many"] (defScope s__law_take):=by right
abbrev s__law_length:ude:=top 29
theorem sc__law_length:FnScope ["pot","way"] ["pot","way"] (defScope s__law_length):=by right
abbrev s__law_tied:ude:=top 30
theorem sc__law_tied:FnScope ["pot","n","style","a","b","beside"] ["pot","n","style","a","b"] (defScope s__law_tied):=by right
abbrev s__law_order:ude:=top 31
theorem sc__law_order:FnScope ["pot","many","left","found","turn"] ["pot","many"] (defScope s__law_order):=by right
abbrev s__law_web:ude:=top 32
theorem sc__law_web:FnScope ["pot","most","n","style","way","names","ties","b","a","one","other"] ["pot","most"] (defScope s__law_web):=by right
abbrev s__law_fars:ude:=top 33
theorem sc__law_fars:FnScope ["web","keep","start","found","turn","number","a","b","length","one","other","more"] ["web","keep","start"] (defScope s__law_fars):=by right
abbrev s__law_joined:ude:=top 34
theorem sc__law_joined:FnScope ["web","numbers","a","b","marks","number","one","other"] ["web","numbers","a","b"] (defScope s__law_joined):=by right
abbrev s__law_grown:ude:=top 35
theorem sc__law_grown:FnScope ["web","order","found","number"] ["web","order"] (defScope s__law_grown):=by right
abbrev s__law_least:ude:=top 36
theorem sc__law_least:FnScope ["web","order"] ["web"] (defScope s__law_least):=by right
abbrev s__law_plain:ude:=top 37
theorem sc__law_plain:FnScope ["thing"] ["thing"] (defScope s__law_plain):=by right
abbrev s__law_slack:ude:=top 38
theorem sc__law_slack:FnScope ["pot","some"] ["pot"] (defScope s__law_slack):=by right
abbrev s__law_gone:ude:=top 39
theorem sc__law_gone:FnScope ["web","forest","here","known","found","there","number","a","b","length"] ["web","forest","here","known"] (defScope s__law_gone):=by right
abbrev s__law_put:ude:=top 40
theorem sc__law_put:FnScope ["web","forest","root","slack","fars","p","q","count","found","place","length","new"] ["web","forest","root","slack","fars"] (defScope s__law_put):=by right
abbrev s__law_along:ude:=top 41
theorem sc__law_along:FnScope ["web","way","found","here","there","some"] ["web","way"] (defScope s__law_along):=by right
abbrev s__law_most:ude:=top 42
theorem sc__law_most:FnScope ["pot","k","most"] ["pot","k","most"] (defScope s__law_most):=by right
abbrev s_law:ude:=top 43
theorem sc_law:FnScope ["script","k","pot","slack","web","root","fars","forest","put","due","place","way","some","keep","told"] ["script"] (defScope s_law):=by right
section
variable {P:m5}{w:ual}{K:c6}{mg:Str->Option d6}{base:Heap}
theorem uI (T:Bi mg)(D:DefOk K mg "_law_take" s__law_take ["pot","many"]):‹1› "_law_take" ["pot","many"] spTake:=by
 exists 0,sc__law_take
 obtain⟨p,m,rfl,⟨a,b,hp,ha,hb,hb2⟩,hm,hm2,q⟩:=h
 refine⟨_,(aD (bH (aT dH (aE aV (pv 0) aC (λ _ _=>rfl)) aC (nomark _)) (aD (aN (i:=2) nd rfl (k8 rfl) (aK cK (aE aV (pv 0) aC (λ _ _=>rfl)) (pv 1))) (aD (bX (aK pW (aE aV (pv 0) aC (λ _ _=>rfl)) (pv 1)) (dR (pv 0) aC dI)) (aG (aR (pv 2))))) bG) (aD (bX (aK cK (aK bQ (aK dD (aE aV (pv 0) aC (λ _ _=>rfl)) aC) aC) aC) (dR (pv 0) aC dI)) (aG (aR (aK cK (aK pW (aK cK (aK cA (aE aV (pv 0) aC (λ _ _=>rfl)) aC) aC) aC) (pv 1)))))),?_⟩
 refine⟨_,rfl,p,_,_,_,rfl,rfl,SqL.of hp,rfl,_,_,rfl,rfl,_,rfl,?_⟩
 refine ite2 (λ c=>?_) (λ c=>?_)
 ·refine⟨_,rfl,p,_,_,_,rfl,rfl,SqL.of hp,rfl,_,rfl,_,_,rfl,rfl,hm,?_⟩
  refine⟨_,rfl,p,_,_,_,rfl,rfl,SqL.of hp,rfl,_,rfl,_,_,rfl,rfl,⟨hm,hm2⟩,?_⟩
  refine⟨_,rfl,p,_,0,0,rfl,rfl,hp,rfl,_,rfl,?_⟩
  refine q _ _ (uct _ (by left)) (uci _ hm) But.upd ⟨a / m,b,aH,Int.ediv_nonneg ha (by left),hb,hb2⟩
 ·refine⟨_,rfl,p,_,_,_,rfl,rfl,SqL.of hp,rfl,_,_,rfl,rfl,.inr ⟨by decide,by decide⟩,_,_,rfl,rfl,_,_,rfl,rfl,(by show (0:Int)<2147483647;decide),?_⟩
  refine⟨_,rfl,p,_,1,1,rfl,rfl,hp,rfl,?_⟩
  have n1:0<=(b*48271+12820163)%2147483647:=uct _ (by decide)
  have n2:(b*48271+12820163)%2147483647<2147483647:=uci _ (by decide)
  refine⟨_,rfl,p,_,_,_,rfl,rfl,SqL.of aH,rfl,_,_,rfl,rfl,⟨by decide,by decide,by left⟩,_,_,rfl,rfl,(by show (0:Int)<2147483629;decide),_,_,rfl,rfl,⟨by decide,by decide⟩,_,rfl,_,_,rfl,rfl,hm,?_⟩
  exact q _ _ (uct _ (by left)) (uci _ hm) But.upd ⟨a,_,aH,ha,n1,n2⟩
theorem vC (T:Bi mg)(D:DefOk K mg "_law_pot" s__law_pot ["script","k"]):‹1› "_law_pot" ["script","k"] (spPot K):=by
 exists 0,sc__law_pot
 obtain⟨a,k,ns,rfl,hS,hk0,hk1,q⟩:=h
 have hl:(ns.map V.int).length=ns.length:=c9 _
 refine⟨_,(aD (aN (i:=2) nd rfl (k8 rfl) aC) (aD (bH (aT fK (pv 1) (aX cM rfl T.z_len (by symm) (aA (pv 0) aB)) (nomark _)) (aG (aN (i:=2) nd rfl (k8 rfl) (aK cK (aE aV (pv 0) (pv 1) (λ _ _=>rfl)) (aK pV (aK pV (aK cA aC aC) (aK cA aC aC)) (aK cA aC aC))))) bG) (aD (aN (i:=3) nd rfl (k8 rfl) (aE aV (dS (aA aC (aA aC (aA aC (aA aC (aA aC aB)))))) (aK cK (pv 1) aC) (λ _ _=>rfl))) (aG (aR (dS (aA (aX (fP rfl) rfl T.z_max (by symm) (aA aC (aA (aK dC (pv 2) (aK cA aC aC)) aB))) (aA (aK cK (aK cA (aK bQ (aK bQ (aK cK (pv 2) (pv 3)) (aK dD aC (pv 1))) aC) aC) aC) aB)))))))),?_⟩
  -- behind the test: cell is some number that is not below nought
 have rest : ∀ (cell : Int), 0 <= cell → ∀ (σ : L2.St), σ = [some (.ref a), some (.int k), some (.int cell), none] →
     (tSeq (tAsg (tOp (rIxL K) (tLst (tCons (tC (.int 2147483629)) (tCons (tC (.int 2147483587)) (tCons (tC (.int 2147483579)) (tCons (tC (.int 2147483563)) (tCons (tC (.int 2147483549)) tNil)))))) (tOp (rI (λ _ j=>0<j) λ i j=>.int (i%j)) (tVar 1) (tC (.int 5)))) (gName 3))
       (tRet (tLst (tCons (tCB (λ xs H Q=>∃ i j,xs=[.int i,.int j]/\Q (.int (if j>i then j else i)) H) (tCons (tC (.int 0)) (tCons (tOp (rI0 λ i j=>.int (i-j)) (tVar 2) (tOp (rI CPow λ i j=>.int (i^j.toNat)) (tC (.int 10)) (tC (.int 18)))) tNil)))
         (tCons (tOp (rI (λ _ j=>0<j) λ i j=>.int (i%j)) (tOp (rI CPow λ i j=>.int (i^j.toNat)) (tOp (rI0 λ i j=>.int (i+j)) (tOp (rI0 λ i j=>.int (i+j)) (tOp (rI (λ _ j=>0<j) λ i j=>.int (i%j)) (tVar 2) (tVar 3)) (tOp (rI CMul λ i j=>.int (i*j)) (tC (.int 7919)) (tVar 1))) (tC (.int 11))) (tC (.int 3))) (tC (.int 2147483647))) tNil)))))
       { nx:=λ _ H'=>Q .non H',rt:=Q } σ H:=by
  intro cell hc σ hσ
  subst hσ
  refine⟨(by show 5<=v5;decide),λ l hl=>?_⟩
  refine⟨_,rfl,_,_,rfl,rfl,(by show (0:Int)<5;decide),?_⟩
  have m0:0<=k%5:=uct _ (by decide)
  have m1:k%5<5:=uci _ (by decide)
  have pr:∃ v:Int,atI [V.int 2147483629,V.int 2147483587,V.int 2147483579,V.int 2147483563,V.int 2147483549] (k%5)=some (.int v)/\2147483549<=v/\v<=2147483629:=by
   have:k%5=0\/k%5=1\/k%5=2\/k%5=3\/k%5=4:=by left
   rcases this with e | e | e | e | e <;> rw[e] <;> exact⟨_,rfl,by decide,by decide⟩
  obtain⟨v,hv,v1,v2⟩:=pr
  refine⟨l,_,_,_,rfl,rfl,SqL.of aH,hv,?_⟩
  have S1:Same H (upd H l (.lst [V.int 2147483629,V.int 2147483587,V.int 2147483579,V.int 2147483563,V.int 2147483549])):=aQ hl
  refine⟨_,rfl,_,_,rfl,rfl,⟨by decide,by decide,by decide⟩,_,_,rfl,rfl,_,_,rfl,?_⟩
  refine⟨_,rfl,_,rfl,_,_,rfl,rfl,(by show (0:Int)<v;left),_,rfl,_,_,rfl,rfl,.inl ⟨by decide,by decide⟩,_,_,rfl,rfl,_,_,rfl,rfl,_,_,rfl,rfl,⟨by decide,by decide,?_⟩,_,_,rfl,rfl,(by show (0:Int)<2147483647;decide),?_⟩
  ·have c0:0<=cell%v:=uct _ (by left)
   have c1:cell%v<v:=uci _ (by left)
   left
  refine⟨(by show 2<=v5;decide),λ l2 hl2=>?_⟩
  refine q l2 _ (S1.trans (aQ hl2)) (S1.free hl2) ⟨_,_,aH,?_,uct _ (by decide),uci _ (by decide)⟩
  split <;> left
 refine⟨_,rfl,_,rfl,a,_,rfl,.inl hS,_,_,rfl,rfl,_,rfl,?_⟩
 refine ite2 (λ c=>?_) (λ c=>?_)
 ·have c':k<(((ns.map V.int).length:Nat):Int):=ug9 c
  rw[hl] at c'
  obtain⟨v,hv⟩:∃ v:Int,atI (ns.map V.int) k=some (.int v):=by
   have hk:k.toNat<ns.length:=by left
   have ek:k=((k.toNat:Nat):Int):=by left
   have z:atI (ns.map V.int) ((k.toNat:Nat):Int)=some (.int ns[k.toNat]):=qI (by rw[k0,d8 hk] <;> rfl)
   rw[← ek] at z
   exact⟨_,z⟩
  refine⟨_,rfl,_,rfl,a,_,_,_,rfl,rfl,hS,hv,?_⟩
  refine⟨_,_,rfl,rfl,⟨by decide,by decide,by decide⟩,_,_,rfl,rfl,⟨by decide,by decide,by decide⟩,_,_,rfl,rfl,mulB,_,_,rfl,rfl,⟨by decide,by decide,by decide⟩,_,_,rfl,rfl,mulB2,_,_,rfl,rfl,posB,?_⟩
  exact rest _ (uct _ (by have:=posB;left)) _ rfl
 ·exact rest 5 (by decide) _ rfl
theorem sO (T:Bi mg)(D:DefOk K mg "_law_length" s__law_length ["pot","way"])(O__law_take:‹1› "_law_take" ["pot","many"] spTake):‹2› "_law_length" ["pot","way"] spLength:=by
 exists 1,sc__law_length
 obtain⟨p,y,rfl,hp,hy0,hy5,q⟩:=h
 refine⟨_,(aD (bH (aT fK (pv 1) aC (nomark _)) (aG (aR (aE aV (dS (aA aC (aA (aK bQ aC (aO O__law_take hr rfl (aA (pv 0) (aA aC aB)))) aB))) (pv 1) (λ _ _=>rfl)))) bG) (aD (bH (aT bL (pv 1) aC (nomark _)) (aG (aR (aK bQ aC (aO O__law_take hr rfl (aA (pv 0) (aA aC aB)))))) bG) (aD (bH (aT bL (pv 1) aC (nomark _)) (aG (aR (aE aV (dS (aA aC (aA aC (aA aC (aA (aK cA aC aC) (aA (aK dC (aK cA aC aC) aC) (aA (aK cA aC aC) aB))))))) (aO O__law_take hr rfl (aA (pv 0) (aA aC aB))) (λ _ _=>rfl)))) bG) (aG (aR (aK bQ aC (aK dD (aO O__law_take hr rfl (aA (pv 0) (aA (aK cA aC aC) aB))) (aO O__law_take hr rfl (aA (pv 0) (aA (aK bQ (aK cA aC aC) aC) aB)))))))))),?_⟩
 refine⟨_,rfl,_,_,rfl,rfl,_,rfl,?_⟩
 refine ite2 (λ c=>?_) (λ c=>?_)
 ·have c':y<2:=ug9 c
  refine⟨_,rfl,p,3,rfl,hp,by decide,by decide,λ r H1 r0 r1 b1 p1=>?_⟩
  refine⟨_,_,rfl,rfl,(by show 2<=v5;decide),λ l hl=>?_⟩
  have at_:∃ v:Int,atI [V.int 1,V.int (1+r)] y=some (.int v)/\1<=v/\v<=10^18:=by
   have:y=0\/y=1:=by left
   rcases this with e | e <;> rw[e]
   ·exact⟨1,rfl,by symm,by symm⟩
   ·exact⟨1+r,rfl,by left,by left⟩
  obtain⟨v,hv,v0,v1⟩:=at_
  refine⟨_,rfl,l,_,_,_,rfl,rfl,SqL.of aH,hv,?_⟩
  obtain⟨a',b',e',z⟩:=p1
  exact q v _ v0 v1 (b1.trans (But.new hl)) ⟨a',b',(aQ hl) _ _ e',z⟩
 refine⟨_,rfl,rfl,_,rfl,?_⟩
 refine ite2 (λ c2=>?_) (λ c2=>?_)
 ·refine⟨_,rfl,p,50,rfl,hp,by decide,by decide,λ r H1 r0 r1 b1 p1=>?_⟩
  exact⟨_,_,rfl,rfl,q _ _ (by left) (by left) b1 p1⟩
 refine⟨_,rfl,rfl,_,rfl,?_⟩
 refine ite2 (λ c3=>?_) (λ c3=>?_)
 ·refine⟨_,_,rfl,rfl,⟨by decide,by decide,by decide⟩,_,_,rfl,rfl,⟨by decide,by decide,by decide⟩,_,_,rfl,rfl,_,_,rfl,rfl,⟨by decide,by decide,by decide⟩,(by show 6<=v5;decide),λ l hl=>?_⟩
  have hp':Pot (upd H l (.lst [V.int 1,V.int 2,V.int 3,V.int ((10:Int)^(18:Int).toNat),V.int ((10:Int)^(18:Int).toNat-1),V.int ((10:Int)^(17:Int).toNat)])) p:=by
   obtain⟨a',b',e',z⟩:=hp
   exact⟨a',b',(aQ hl) _ _ e',z⟩
  have lp:l≠p:=by
   obtain⟨a',b',e',z⟩:=hp
   exact λ e=>by rw[e,e'] at hl;cases hl
  refine⟨_,rfl,p,6,rfl,hp',by decide,by decide,λ r H1 r0 r1 b1 p1=>?_⟩
  have at_:∃ v:Int,atI [V.int 1,V.int 2,V.int 3,V.int ((10:Int)^(18:Int).toNat),V.int ((10:Int)^(18:Int).toNat-1),V.int ((10:Int)^(17:Int).toNat)] r=some (.int v)/\1<=v/\v<=10^18:=by
   have:r=0\/r=1\/r=2\/r=3\/r=4\/r=5:=by left
   rcases this with e | e | e | e | e | e <;> rw[e] <;> exact⟨_,rfl,by symm,by symm⟩
  obtain⟨v,hv,v0,v1⟩:=at_
  refine⟨l,_,_,_,rfl,rfl,SqL.of (b1 _ _ lp aH),hv,?_⟩
  exact q v _ v0 v1 ((But.new hl).trans b1) p1
 ·refine⟨_,rfl,_,_,rfl,rfl,⟨by decide,by decide,by decide⟩,p,_,rfl,hp,by decide,by decide,λ r H1 r0 r1 b1 p1=>?_⟩
  refine⟨_,rfl,_,_,rfl,rfl,⟨by decide,by decide,by decide⟩,_,_,rfl,rfl,p,_,rfl,p1,by decide,by decide,λ r2 H2 r20 r21 b2 p2=>?_⟩
  have e9:((10:Int)^(9:Int).toNat)=1000000000:=by decide
  rw[e9] at r1 r21
  refine⟨_,_,rfl,rfl,.inl ⟨by left,by left⟩,_,_,rfl,rfl,?_⟩
  have m0:0<=r*r2:=Int.mul_nonneg r0 r20
  have m1:r*r2<=999999999*1000000000:=Int.mul_le_mul (by left) (by left) r20 (by decide)
  exact q _ _ (by left) (by left) (b1.trans b2) p2
theorem uH (T:Bi mg)(D:DefOk K mg "_law_tied" s__law_tied ["pot","n","style","a","b"])(O__law_take:‹1› "_law_take" ["pot","many"] spTake):‹2› "_law_tied" ["pot","n","style","a","b"] spTied:=by
 exists 1,sc__law_tied
 obtain⟨p,n,y,a,b,rfl,hp,q⟩:=h
 have q0:∀ k,Q (.bl k) H:=λ k=>q k H But.refl hp
 refine⟨_,(aD (aN (i:=5) nd rfl (k8 rfl) (kM (bS bL (aK dC (pv 4) (pv 3)) aC (nomark _)) (cQ (bS bL (aK dC (pv 4) (pv 3)) (aK dC (pv 1) aC) (nomark _))))) (aD (bH (aT fK (pv 2) aC (nomark _)) (aG (aR (kM (pv 5) (cQ (fH (bS bL (pv 2) aC (nomark _)) (cQ (bS bL (aO O__law_take hr rfl (aA (pv 0) (aA aC aB))) aC (nomark _)))))))) bG) (aD (bH (aT fK (pv 2) aC (nomark _)) (aG (aR (bS bL (bS dH (aO O__law_take hr rfl (aA (pv 0) (aA aC aB))) aC (nomark _)) (bS bL (pv 2) aC (nomark _)) (nomark _)))) bG) (aD (bH (aT bL (pv 2) aC (nomark _)) (aG (aR (kM (bS bL (aK dC (pv 4) (pv 3)) aC (nomark _)) (cQ (fH (bS bL (aK dC (pv 4) (pv 3)) aC (nomark _)) (cQ (bS dH (aK cK (pv 4) aC) aC (nomark _)))))))) bG) (aD (bH (aT fK (pv 2) aC (nomark _)) (aG (aR (fH (bS bL (bS bL (aK cK (pv 3) aC) (aK cK (pv 4) aC) (nomark _)) (bS bL (pv 2) aC (nomark _)) (nomark _)) (cQ (bS dH (aO O__law_take hr rfl (aA (pv 0) (aA aC aB))) aC (nomark _)))))) bG) (aG (aR cR))))))),?_⟩
 refine⟨_,rfl,_,rfl,_,_,rfl,rfl,rfl,_,rfl,?_⟩
 refine ite2 (λ c=>?_) (λ c=>?_)
 all_goals (try refine⟨_,rfl,_,rfl,_,_,rfl,rfl,_,rfl,_,_,rfl,rfl,rfl,?_⟩)
 all_goals
  refine⟨_,rfl,_,_,rfl,rfl,_,rfl,?_⟩
  refine ite2 (λ c1=>?_) (λ c1=>?_)
  ·refine⟨_,rfl,_,rfl,?_⟩
   refine ite2 (λ d=>?_) (λ d=>?_)
   ·exact q0 _
   ·refine⟨_,rfl,rfl,_,rfl,?_⟩
    refine ite2 (λ d=>?_) (λ d=>?_)
    ·exact⟨_,rfl,p,_,rfl,hp,by decide,by decide,λ r H' _ _ b1 p1=>⟨rfl,q _ _ b1 p1⟩⟩
    ·exact q0 _
  refine⟨_,rfl,_,_,rfl,rfl,_,rfl,?_⟩
  refine ite2 (λ c2=>?_) (λ c2=>?_)
  ·exact⟨_,rfl,p,_,rfl,hp,by decide,by decide,λ r H' _ _ b1 p1=>⟨_,_,rfl,rfl,_,rfl,rfl,rfl,q _ _ b1 p1⟩⟩
  refine⟨_,rfl,rfl,_,rfl,?_⟩
  refine ite2 (λ c3=>?_) (λ c3=>?_)
  ·refine⟨_,rfl,_,rfl,_,_,rfl,rfl,rfl,_,rfl,?_⟩
   refine ite2 (λ d=>?_) (λ d=>?_)
   ·exact q0 _
   ·refine⟨_,rfl,_,rfl,_,_,rfl,rfl,rfl,_,rfl,?_⟩
    refine ite2 (λ d=>?_) (λ d=>?_)
    ·exact⟨_,rfl,_,_,rfl,rfl,(by show (0:Int)<3;decide),_,_,rfl,rfl,q0 _⟩
    ·exact q0 _
  refine⟨_,rfl,_,_,rfl,rfl,_,rfl,?_⟩
  refine ite2 (λ c4=>?_) (λ c4=>?_)
  ·refine⟨_,rfl,_,_,rfl,rfl,(by show (0:Int)<2;decide),_,rfl,_,_,rfl,rfl,(by show (0:Int)<2;decide),rfl,_,rfl,rfl,rfl,_,rfl,?_⟩
   refine ite2 (λ d=>?_) (λ d=>?_)
   ·exact⟨_,rfl,p,_,rfl,hp,by decide,by decide,λ r H' _ _ b1 p1=>⟨_,_,rfl,rfl,q _ _ b1 p1⟩⟩
   ·exact q0 _
  ·exact q0 _
theorem tN (T:Bi mg)(D:DefOk K mg "_law_order" s__law_order ["pot","many"])(O__law_take:‹1› "_law_take" ["pot","many"] spTake):‹2› "_law_order" ["pot","many"] spOrder:=by
 exists 1,sc__law_order
 obtain⟨p,m,rfl,hp,hm0,hm1,q⟩:=h
 refine⟨_,(aD (aN (i:=2) nd rfl (k8 rfl) (aY (gH rfl) rfl T.z_list (by symm) (aA (aY fM rfl T.z_range (by symm) (aA (pv 1) aB)) aB))) (aD (aN (i:=3) nd rfl (k8 rfl) (dS aB)) (aD (bP PassesOwn.never rfl (cU rfl T.z_range (aA (pv 1) aB)) (aJ (i:=4) nd rfl (k8 rfl)) (aG (bW (bY v4 uab uaa gN (pv 3) (aA (bY v4 ugz ugx zV (pv 2) (aA (aO O__law_take hr rfl (aA (pv 0) (aA (aX cM rfl T.z_len (by symm) (aA (pv 2) aB)) aB))) aB)) aB))))) (aG (aR (pv 3)))))),?_⟩
 refine⟨_,rfl,m,rfl,λ g hg=>?_⟩
 refine⟨g,m,rfl,aH,hm0,hm1,λ l hl=>?_⟩
 refine⟨(by show 0<=v5;decide),λ l2 hl2=>?_⟩
 obtain⟨H0,eH0⟩:∃ H0,H0=upd (upd (upd H g (.rng 0 m)) l (.lst ((c7 m.toNat).map λ i:Nat=>V.int (i:Int)))) l2 (.lst []):=⟨_,rfl⟩
 rw[← eH0]
 have S1:Same H (upd H g (.rng 0 m)):=aQ hg
 have S2:=S1.trans (aQ (o:=.lst ((c7 m.toNat).map λ i:Nat=>V.int (i:Int))) hl)
 have S3:Same H H0:=by rw[eH0];exact S2.trans (aQ hl2)
 have fl:H l=none:=S1.free hl
 have fl2:H l2=none:=S2.free hl2
 have ll2:l≠l2:=λ e=>by rw[← e,aH] at hl2;cases hl2
 have el:H0 l=some (.lst ((c7 m.toNat).map λ i:Nat=>V.int (i:Int))):=by rw[eH0,aM ll2,aH]
 have el2:H0 l2=some (.lst []):=by rw[eH0,aH]
 have hp0:Pot H0 p:=by
  obtain⟨a,b,e,z⟩:=hp
  exact⟨a,b,S3 _ _ e,z⟩
 have nlp:l≠p:=by
  obtain⟨a,b,e,z⟩:=hp
  exact λ x=>by rw[x,e] at fl;cases fl
 have nl2p:l2≠p:=by
  obtain⟨a,b,e,z⟩:=hp
  exact λ x=>by rw[x,e] at fl2;cases fl2
 refine⟨_,rfl,m,rfl,by left,by left,?_⟩
 refine eK (n:=m.toNat) (λ i σ H'=>∃ (t:Option V)(ls ms:List Int),σ=[some (.ref p),some (.int m),some (.ref l),some (.ref l2),t]/\H' l=some (.lst (ls.map V.int))/\H' l2=some (.lst (ms.map V.int))/\Pot H' p /\
  (∀ b o,b≠p->H b=some o->H' b=some o)/\(ms++ls).Perm ((c7 m.toNat).map λ i:Nat=>(i:Int))/\ms.length=i) ?start ?turn ?fin
 case start=>exact⟨none,(c7 m.toNat).map λ i:Nat=>(i:Int),[],rfl,by rw[el,ubo];rfl,el2,hp0,λ b o _ e=>S3 b o e,ud1 _,rfl⟩
 case turn =>
  rintro i σ H' hi ⟨t,ls,ms,rfl,e1,e2,hp',kp,pm,hl'⟩
  have hlen:ls.length=m.toNat-i:=by
   have:=pm.length_eq
   rw[i9,c9,l7] at this
   left
  refine⟨_,rfl,.inl ⟨rfl,_,SqL.of e2⟩,_,rfl,.inl ⟨rfl,_,SqL.of e1⟩,_,rfl,_,rfl,l,_,rfl,.inl (SqL.of e1),?_⟩
  refine⟨p,_,rfl,hp',(by rw[c9];left),(by rw[c9];left),λ r H1 r0 r1 b1 p1=>?_⟩
  rw[c9] at r1
  have hr1:r.toNat<ls.length:=by left
  have er:r=((r.toNat:Nat):Int):=by left
  have six:seqIndex? r (ls.map V.int).length=some r.toNat:=(jT (by unfold ixN;rw[uhc r0,uhc (by rw[c9];left)])).1
  refine⟨l,_,r,r.toNat,.int ls[r.toNat],rfl,rfl,b1 _ _ nlp e1,by left,by left,six,by rw[k0,d8 hr1];rfl,?_⟩
  refine⟨l2,_,_,rfl,rfl,by rw[aM ll2.symm];exact b1 _ _ nl2p e2,?_,?_⟩
  ·rw[c9]
   exact ubv (by left:ms.length<=1000) (by decide)
  ·refine⟨_,ls.eraseIdx r.toNat,ms++[ls[r.toNat]],rfl,?_,?_,?_,?_,?_,by rw[i9,u5];left⟩
   ·rw[aM ll2,aH,mS]
   ·rw[aH,ua8];rfl
   ·obtain⟨a,b,e,z⟩:=p1
    exact⟨a,b,by rw[aM nl2p.symm,aM nlp.symm];exact e,z⟩
   ·intro b o hb e
    have n1:b≠l:=λ x=>by rw[x,fl] at e;cases e
    have n2:b≠l2:=λ x=>by rw[x,fl2] at e;cases e
    rw[aM n2,aM n1]
    exact b1 _ _ hb (kp _ _ hb e)
   ·refine List.Perm.trans ?_ pm
    rw[ubp]
    refine ugo _ ?_
    show (ls[r.toNat]::ls.eraseIdx r.toNat).Perm ls
    exact lW ls r.toNat hr1
 case fin =>
  rintro σ H' ⟨t,ls,ms,rfl,e1,e2,hp',kp,pm,hl'⟩
  have hlen:ls=[]:=by
   have:=pm.length_eq
   rw[i9,c9,l7] at this
   exact uf0 (by left)
  subst hlen
  rw[ubi] at pm
  exact⟨_,rfl,q l2 H' ms kp hp' fl2 nl2p e2 pm⟩
def WInv (H:Hp)(p ln lt:j9)(m n st wy:Int)(ms:List Int)(b a:Nat)(σ:L2.St)(H':Hp):Prop :=
 ∃ (t7 t8 t9 t10:Option V)(ys:List V)(ties:List Tie),σ=[some (.ref p),some (.int m),some (.int n),some (.int st),some (.int wy),some (.ref ln),some (.ref lt),t7,t8,t9,t10] /\
  H' ln=some (.lst (ms.map V.int))/\H' lt=some (.lst ys)/\TieL H' ys ties/\Pot H' p/\(∀ b o,b≠p->H b=some o->H' b=some o)/\Grown n.toNat ms b a ties
theorem vB (T:Bi mg)(D:DefOk K mg "_law_web" s__law_web ["pot","most"])(O__law_take:‹2› "_law_take" ["pot","many"] spTake)(O__law_order:‹2› "_law_order" ["pot","many"] spOrder)
  (O__law_tied:‹2› "_law_tied" ["pot","n","style","a","b"] spTied) (O__law_length:‹2› "_law_length" ["pot","way"] spLength):‹3› "_law_web" ["pot","most"] (spWeb K):=by
 exists 2,sc__law_web
 obtain⟨p,m,rfl,hp,hm0,hm1,q⟩:=h
 refine⟨_,(aD (aN (i:=2) nd rfl (k8 rfl) (aK bQ aC (aO O__law_take hr rfl (aA (pv 0) (aA (pv 1) aB))))) (aD (aN (i:=3) nd rfl (k8 rfl) (aO O__law_take hr rfl (aA (pv 0) (aA aC aB)))) (aD (aN (i:=4) nd rfl (k8 rfl) (aO O__law_take hr rfl (aA (pv 0) (aA aC aB)))) (aD (aN (i:=5) nd rfl (k8 rfl) (aO O__law_order hr rfl (aA (pv 0) (aA (pv 2) aB)))) (aD (aN (i:=6) nd rfl (k8 rfl) (dS aB)) (aD (bP PassesOwn.never rfl (cU rfl T.z_range (aA (pv 2) aB)) (aJ (i:=7) nd rfl (k8 rfl)) (aG (bP PassesOwn.never rfl (cU rfl T.z_range (aA (pv 7) aB)) (aJ (i:=8) nd rfl (k8 rfl)) (aG (bH (PW.pt (jZ (fG (aO O__law_tied hr rfl (aA (pv 0) (aA (pv 2) (aA (pv 3) (aA (pv 8) (aA (pv 7) aB))))))) (jP (aT fK (aX cM rfl T.z_len (by symm) (aA (pv 6) aB)) aC (nomark _))))) (aD (bX (aX iM rfl T.z_sorted (by symm) (aA (dS (aA (aE aV (pv 5) (pv 8) (λ _ _=>rfl)) (aA (aE aV (pv 5) (pv 7) (λ _ _=>rfl)) aB))) aB)) (zb7 (n:=2) rfl (aS (aJ (i:=9) nd rfl (k8 rfl)) (aS (aJ (i:=10) nd rfl (k8 rfl)) bM)))) (aG (bW (bY v4 uab uaa gN (pv 6) (aA (qP (aA (pv 9) (aA (pv 10) (aA (aO O__law_length hr rfl (aA (pv 0) (aA (pv 4) aB))) aB)))) aB))))) bG))))) (aG (aR (qP (aA (pv 2) (aA (aY gG rfl T.z_tuple (by symm) (aA (aX kZ rfl T.z_sorted (by symm) (aA (pv 6) aB)) aB)) aB))))))))))),?_⟩
 refine⟨_,rfl,_,rfl,p,m,rfl,hp,by left,by left,λ r1 H1 r10 r11 b1 p1=>?_⟩
 refine⟨_,_,rfl,rfl,?_⟩
 refine⟨_,rfl,p,8,rfl,p1,by decide,by decide,λ st H2 _ _ b2 p2=>?_⟩
 refine⟨_,rfl,p,5,rfl,p2,by decide,by decide,λ wy H3 wy0 wy1 b3 p3=>?_⟩
 refine⟨_,rfl,_,rfl,p,_,rfl,p3,by left,by left,λ ln H4 ms b4 p4 f4 n4 e4 pm=>?_⟩
 obtain⟨n,en⟩:∃ n:Int,n=1+r1:=⟨_,rfl⟩
 rw[← en] at pm
 have bt4:But p H H4:=b1.trans (b2.trans (b3.trans b4))
 have fln:H ln=none:=by
  cases e:H ln with
  | none=>rfl
  | some u=>rw[(b1.trans (b2.trans b3)) _ _ n4 e] at f4;cases f4
 refine⟨(by show 0<=v5;decide),λ lt hlt=>?_⟩
 have flt:H lt=none:=by
  by_cases z:lt=p
  ·obtain⟨a',b',e',_⟩:=p4;rw[z,e'] at hlt;cases hlt
  ·cases e:H lt with
   | none=>rfl
   | some u=>rw[bt4 _ _ z e] at hlt;cases hlt
 have nlt:lt≠p:=by
  obtain⟨a',b',e',_⟩:=p4
  exact λ x=>by rw[x,e'] at hlt;cases hlt
 have nln:ln≠lt:=λ x=>by rw[← x,e4] at hlt;cases hlt
 have pm0:Perm0 n.toNat ms:=Perm0.of pm
 refine⟨_,rfl,n,by rw[en],by left,by left,?_⟩
 refine eK (n:=n.toNat) (λ i σ H'=>WInv H p ln lt m n st wy ms i 0 σ H') ?start ?turn ?fin
 case start =>
  refine⟨none,none,none,none,[],[],by rw[en];rfl,by rw[aM nln];exact e4,aH,.nil,?_,λ b o hb e=>?_,Grown.start⟩
  ·obtain⟨a',b',e',z⟩:=p4
   exact⟨a',b',by rw[aM nlt.symm];exact e',z⟩
  ·rw[aM (λ x=>by rw[x,flt] at e;cases e)]
   exact bt4 _ _ hb e
 case turn =>
  rintro i σ H' hi ⟨t7,t8,t9,t10,ys,ties,rfl,g1,g2,g3,g4,g5,g6⟩
  refine⟨_,rfl,_,rfl,by left,by left,?_⟩
  have ei:((0+(i:Int)):Int).toNat=i:=by left
  rw[ei]
  refine eK (n:=i) (λ k σ H''=>(∃ t7,σ[7]?=some (some (.int (0+(i:Int))))/\t7=())/\WInv H p ln lt m n st wy ms i k σ H'') ?start2 ?turn2 ?fin2
  case start2=>exact⟨⟨(),rfl,rfl⟩,some (.int (0+(i:Int))),t8,t9,t10,ys,ties,rfl,g1,g2,g3,g4,g5,g6⟩
  case fin2 =>
   rintro σ H'' ⟨_,t7,t8,t9,t10,ys,ties,rfl,g1,g2,g3,g4,g5,g6⟩
   exact⟨t7,t8,t9,t10,ys,ties,rfl,g1,g2,g3,g4,g5,g6.down⟩
  case turn2 =>
   rintro k σ K1 hk ⟨⟨_,h7,_⟩,t7,t8,t9,t10,ys,ties,rfl,g1,g2,g3,g4,g5,g6⟩
   have e7:t7=some (.int (0+(i:Int))):=by simpa using h7
   subst e7
   have again : ∀ {u8 u9 u10 : Option V}{ys' : List V}{ts : List Tie}{J : Hp}, J ln = some (.lst (ms.map V.int)) → J lt = some (.lst ys') → TieL J ys' ts → Pot J p → (∀ b o, b ≠ p → H b = some o → J b = some o) → Grown n.toNat ms i (k+1) ts →
       (∃ t7,([some (.ref p),some (.int m),some (.int n),some (.int st),some (.int wy),some (.ref ln),some (.ref lt),some (.int (0+(i:Int))),u8,u9,u10]:L2.St)[7]?=some (some (.int (0+(i:Int))))/\t7=())/\WInv H p ln lt m n st wy ms i (k+1) [some (.ref p),some (.int m),some (.int n),some (.int st),some (.int wy),some (.ref ln),some (.ref lt),some (.int (0+(i:Int))),u8,u9,u10] J :=
    λ a1 a2 a3 a4 a5 a6=>⟨⟨(),rfl,rfl⟩,_,_,_,_,_,_,rfl,a1,a2,a3,a4,a5,a6⟩
   refine⟨_,rfl,_,rfl,_,rfl,_,rfl,_,rfl,p,_,_,_,_,rfl,g4,λ kk K2 c2 d2=>⟨kk,rfl,?_⟩⟩
   have nlnp:ln≠p:=n4
   have l1:K2 ln=some (.lst (ms.map V.int)):=c2 _ _ nlnp g1
   have l2:K2 lt=some (.lst ys):=c2 _ _ nlt g2
   have tup2:∀ a xs,K1 a=some (.tup xs)->K2 a=some (.tup xs):=λ a xs e=>c2 _ _ (λ x=>by
    obtain⟨a',b',e',_⟩:=g4
    rw[x,e'] at e;cases e) e
   have l3:TieL K2 ys ties:=g3.keep tup2
   have l5:∀ b o,b≠p->H b=some o->K2 b=some o:=λ b o hb e=>c2 _ _ hb (g5 _ _ hb e)
   have ylen:ys.length=ties.length:=Paired.length g3
   cases kk with
   | false =>
    refine iteF (iteF ?_)
    exact again l1 l2 l3 d2 l5 g6.skip
   | true =>
    refine iteT ?_
    refine⟨_,rfl,lt,_,rfl,.inl (SqL.of l2),_,_,rfl,rfl,_,rfl,?_⟩
    refine ite2 (λ c=>?_) (λ c=>?_)
    case refine_2=>exact again l1 l2 l3 d2 l5 g6.skip
    have c':((ys.length:Nat):Int)<60:=ug9 c
    have hkn:k<n.toNat:=by left
    have at_:∀ j:Nat,j<n.toNat->atI (ms.map V.int) (j:Int)=some (.int (ms.getD j 0)):=λ j hj=>by
     have hj':j<ms.length:=by rw[pm0.len];exact hj
     refine qI ?_
     rw[k0,d8 hj']
     simp [uc4,hj']
    have ak:atI (ms.map V.int) (0+(k:Int))=some (.int (ms.getD k 0)):=by rw[Int.zero_add];exact at_ k hkn
    have ai:atI (ms.map V.int) (0+(i:Int))=some (.int (ms.getD i 0)):=by rw[Int.zero_add];exact at_ i hi
    refine⟨_,rfl,_,rfl,ln,_,_,_,rfl,rfl,SqL.of l1,ak,_,rfl,_,rfl,ln,_,_,_,rfl,rfl,SqL.of l1,ai,(by show 2<=v5;decide),λ s1 hs1=>?_⟩
    refine⟨s1,[ms.getD k 0,ms.getD i 0],rfl,SqL.of aH,(by show 2<64;decide),λ zs pz wz s2 hs2=>?_⟩
    obtain⟨x,y,rfl,hxy,hor⟩:=vP pz wz
    refine⟨s2,_,rfl,SqL.of aH,rfl,?_⟩
    refine⟨_,_,rfl,_,_,rfl,rfl,?_⟩
    have n1:∀ b o,K2 b=some o->b≠s1:=λ b o e=>aP e hs1
    have n2:∀ b o,K2 b=some o->b≠s2:=λ b o e=>aP (aQ hs1 b o e) hs2
    have up:∀ b o,K2 b=some o->upd (upd K2 s1 (.lst [.int (ms.getD k 0),.int (ms.getD i 0)])) s2 (.lst [.int x,.int y]) b=some o:=λ b o e=>by rw[aM (n2 b o e),aM (n1 b o e)];exact e
    refine⟨_,rfl,.inl ⟨rfl,_,SqL.of (up _ _ l2)⟩,_,rfl,_,rfl,_,rfl,_,rfl,?_⟩
    refine⟨p,wy,rfl,?_,wy0,wy1,λ len K5 ln0 ln1 c5 d5=>?_⟩
    ·obtain⟨a',b',e',z⟩:=d2
     exact⟨a',b',up _ _ e',z⟩
    refine⟨(by show 3<=v5;decide),λ tp htp=>?_⟩
    have pl:∃ xs,K2 p=some (.lst xs):=d2.lst
    have up5:∀ b o,b≠p->K2 b=some o->upd K5 tp (.tup [.int x,.int y,.int len]) b=some o:=λ b o hb e=>by
     have e5:=c5 b o hb (up b o e)
     rw[aM (aP e5 htp)];exact e5
    refine⟨lt,_,_,rfl,rfl,up5 _ _ nlt l2,?_,?_⟩
    ·exact ubv (by left:ys.length<=1000) (by decide)
    have k5:∀ b o,b≠p->b≠lt->K2 b=some o->upd (upd K5 tp (.tup [.int x,.int y,.int len])) lt (.lst (ys++[.ref tp])) b=some o:=λ b o hb hb2 e=>by rw[aM hb2];exact up5 b o hb e
    have ntp:tp≠lt:=λ z=>by
     have:=c5 _ _ nlt (up _ _ l2)
     rw[← z,htp] at this;cases this
    refine again (k5 _ _ nlnp nln l1) aH (TieL.snoc (TieL.keep l3 λ a xs e=>k5 _ _ ?_ ?_ e) ?_) ?_ (λ b o hb e=>k5 _ _ hb (λ z=>by rw[z,flt] at e;cases e) (l5 _ _ hb e))
     (g6.add (x:=x) (y:=y) (l:=len) pm0 hk hi (by left) ln0 ln1 hor hxy)
    ·intro z
     obtain⟨xs',e'⟩:=pl
     rw[z,e'] at e;cases e
    ·intro z
     rw[z,l2] at e;cases e
    ·rw[aM ntp,aH];rfl
    ·obtain⟨a',b',e',z⟩:=d5
     exact⟨a',b',by rw[aM nlt.symm,aM (aP e' htp)];exact e',z⟩
 case fin =>
  rintro σ H' ⟨t7,t8,t9,t10,ys,ties,rfl,g1,g2,g3,g4,g5,g6⟩
  have ylen:ys.length=ties.length:=Paired.length g3
  have few:=g6.few
  refine⟨_,rfl,_,rfl,lt,ys,ties.map tieI,rfl,SqL.of g2,by left,lE (λ y t ⟨a,e1,e2⟩=>⟨a,e1,SqT.of e2⟩) g3,λ k hk=>?_,λ qs pq wq l hl=>?_⟩
  ·obtain⟨t,_,rfl⟩:=y2.mp hk
   exact λ z=>by cases z
  obtain⟨ts,pt,tl,wt⟩:=zax g3 pq wq
  refine⟨l,_,rfl,.inl ⟨SqL.of aH,λ l' hl'=>?_⟩⟩
  refine⟨(by show 2<=v5;decide),λ v hv=>?_⟩
  have S1:Same H' (upd H' l (.lst (qs.map (·.1)))):=aQ hl
  have S2:=S1.trans (aQ (o:=.tup (qs.map (·.1))) hl')
  have S3:=S2.trans (aQ (o:=.tup [.int n,.ref l']) hv)
  refine q (.ref v) _ n ts (λ b o hb e=>S3 _ _ (g5 _ _ hb e)) ?_ ⟨by left,by left,za5 wt ((pt.pairwise_iff (λ {a b} h z=>h ⟨z.1.symm,z.2.symm⟩)).mpr g6.nd),by have:=pt.length_eq;left,λ t ht=>?_⟩ (by left) ?_
  ·obtain⟨a',b',e',z⟩:=g4
   exact⟨a',b',S3 _ _ e',z⟩
  ·have:=g6.ok t (pt.mem_iff.mp ht)
   have e:((n.toNat:Nat):Int)=n:=by left
   rw[e] at this
   exact this
  ·refine⟨v,_,rfl,aH,_,_,rfl,rfl,_,_,rfl,⟨l',qs.map (·.1),rfl,?_,?_⟩,rfl⟩
   ·exact (aQ hv) _ _ aH
   ·exact TieL.is (tl.keep λ a xs e=>S3 _ _ e)
theorem cZ {M:List Nat}{i:Int}(h0:0<=i)(h:i.toNat<M.length):atI (natV M) i=some (.int ((M.getD i.toNat 0:Nat):Int)):=by
 refine aZ h0 ?_
 unfold natV
 rw[k0,d8 h,g9,d8 h];rfl
theorem dB (x y:Nat):decide (V.int (x:Int)=V.int (y:Int))=decide (x=y):=by
 by_cases e:x=y
 ·rw[ug8 e,ug8 (by rw[e])]
 ·rw[uha e,uha λ h=>e (by injection h with h;exact_mod_cast h)]
theorem xR {M:List Nat}{p q m:Nat}{zs:List V}(lM:M.length=m)(lnM:(natV M).length=m)(hly:zs.length=(natV M).length)(hys:∀ (i:Nat) (v:V),zs[i]?=some v->v=V.int (((if M.getD i 0=q then p else M.getD i 0:Nat)):Int)):zs=natV (Frs.join M p q):=by
 have lj:(natV (Frs.join M p q)).length=m:=by unfold natV Frs.join;rw[c9,c9];exact lM
 refine uc5 (by left) λ j h1 h2=>?_
 rw[hys j _ (d8 h1)]
 have hj:j<M.length:=by left
 have e:=cZ (M:=Frs.join M p q) (i:=(j:Int)) (m8 _) (by unfold Frs.join;rw[c9];simpa using hj)
 rw[u4,Frs.join_at hj] at e
 have e3:=aZ (i:=(j:Int)) (m8 _) (by rw[u4];exact d8 h2)
 rw[e] at e3
 exact (u7 e3)
def spJoined (K:c6):Sp:=λ vs H Q _=>∃ n ts ks wv u v,∃ l:j9,vs=[wv,.ref l,.int u,.int v]/\Is K H (webD n ts) wv/\WebOk n ts/\(∀ k∈ks,k<ts.length)/\ks.length<=60/\H l=some (.lst (natV ks))/\0<=u/\u<n/\0<=v/\v<n/\∀ b H',(b=true↔Frs.Cn (ks.map (t2 ts)) u.toNat v.toNat)->Same H H'->Q (.bl b) H'
theorem sP (T:Bi mg)(D:DefOk K mg "_law_joined" s__law_joined ["web","numbers","a","b"]):‹1› "_law_joined" ["web","numbers","a","b"] (spJoined K):=by
 exists 0,sc__law_joined
 obtain⟨n,ts,os,wv,u,v,o,rfl,hw,ok,hos,l60,ho,u0,u1,v0,v1,q⟩:=h
 have n1:=ok.n1
 have n24:=ok.n24
 obtain⟨g0,g,ws,rfl,hg0,hg,hall,hlw⟩:=bU hw
 refine⟨_,(aD (aN (i:=4) nd rfl (k8 rfl) (aY (gH rfl) rfl T.z_list (by symm) (aA (aY fM rfl T.z_range (by symm) (aA (aE aU (pv 0) aC (λ _ _=>rfl)) aB)) aB))) (aD (bP PassesOwn.never rfl (bR (pv 1)) (aJ (i:=5) nd rfl (k8 rfl)) (aD (aN (i:=6) nd rfl (ue1 rfl) (aE aV (pv 4) (aE aU (aE aU (aE aU (pv 0) aC (λ _ _=>rfl)) (pv 5) (λ _ _=>rfl)) aC (λ _ _=>rfl)) (λ _ _=>rfl))) (aD (aN (i:=7) nd rfl (ue1 rfl) (aE aV (pv 4) (aE aU (aE aU (aE aU (pv 0) aC (λ _ _=>rfl)) (pv 5) (λ _ _=>rfl)) aC (λ _ _=>rfl)) (λ _ _=>rfl))) (aG (bH (aT fJ (pv 6) (pv 7) (nomark _)) (aG (dZ (i:=4) (N:=["web","numbers","a","b","marks","number","one","other"]) (sc0:=defScope s__law_joined) (own:=["mark"]) (fr:=["other","one"]) (js:=[7,6]) rfl (bR (pv 4)) (λ _ _ _ _=>(aJ (i:=0) (by show uap [("mark":Str),("other":Str),("one":Str)];decide +kernel) rfl (k8 rfl))) (λ _ _ _ _=>cG) (λ _ _ _ _=>(jI (aT bL (pv 0) (pv 1) (nomark _)) (pv 2) (pv 0))) nd rfl (k8 rfl))) bG))))) (aG (aR (bS bL (aE aV (pv 4) (pv 2) (λ _ _=>rfl)) (aE aV (pv 4) (pv 3) (λ _ _=>rfl)) (nomark _)))))),?_⟩
 refine⟨_,rfl,g0,_,_,_,rfl,rfl,SqT.of hg0,rfl,_,rfl,λ r hr'=>⟨r,n,rfl,aH,by left,by left,λ lm hlm=>?_⟩⟩
 have S1:Same H (upd H r (.rng 0 n)):=aQ hr'
 have S2:Same (upd H r (.rng 0 n)) (upd (upd H r (.rng 0 n)) lm (.lst ((c7 n.toNat).map λ i:Nat=>V.int (i:Int)))):=aQ hlm
 have e2:upd (upd H r (.rng 0 n)) lm (.lst ((c7 n.toNat).map λ i:Nat=>V.int (i:Int))) lm=some (.lst (natV (c7 n.toNat))):=aH
 generalize upd (upd H r (.rng 0 n)) lm (.lst ((c7 n.toNat).map λ i:Nat=>V.int (i:Int)))=J2 at S2 e2
 have S03:=S1.trans S2
 refine⟨_,rfl,o,rfl,⟨_,SqL.of (S03 _ _ ho)⟩,?_⟩
 have len:(natV os).length=os.length:=by unfold natV;rw[c9]
 refine cX (xs:=natV os) (λ i σ J=>∃ (lm:j9)(M:List Nat)(y4 y5 y6:Option V),σ=[some (.ref g0),some (.ref o),some (.int u),some (.int v),some (.ref lm),y4,y5,y6]/\Same H J/\J lm=some (.lst (natV M))/\Frs.Mk n.toNat ((os.take i).map (t2 ts)) M) ⟨lm,_,none,none,none,rfl,S03,e2,Frs.Mk.first⟩ (λ i σ J _ h=>?_) (λ i x σ J hx h=>?_) (λ σ J h=>?_)
 ·obtain⟨lm,M,y4,y5,y6,rfl,sm,_⟩:=h
  exact SqL.of (sm _ _ ho)
 ·obtain⟨lm,M,y4,y5,y6,rfl,sm,hM,mk⟩:=h
  obtain⟨k,hk,rfl⟩:=bK hx
  have hi:=m9.mp hk
  have hkl:k<ts.length:=hos k (u6 hk)
  obtain⟨ta,hta,htie⟩:=bV hall hkl
  have tk:=ok.tie _ (bI hkl).2
  obtain⟨t,et⟩:∃ t,t=tieAt ts k:=⟨_,rfl⟩
  rw[← et] at htie tk
  have lM:=mk.1
  have ha:t.1.toNat<n.toNat:=rM tk
  have hb:t.2.1.toNat<n.toNat:=rL tk
  have et2:t2 ts k=(t.1.toNat,t.2.1.toNat):=by unfold t2;rw[← et]
  have mE:(os.take (i+1)).map (t2 ts)=(os.take i).map (t2 ts)++[(t.1.toNat,t.2.1.toNat)]:=by rw[eI hk,ua8,List.map_singleton,et2]
  refine⟨_,rfl,_,rfl,g0,_,_,_,rfl,rfl,SqT.of (sm _ _ hg0),rfl,_,rfl,g,_,_,_,rfl,rfl,SqT.of (sm _ _ hg),aZ (m8 _) hta,ta,_,_,_,rfl,rfl,SqT.of (sm _ _ htie),rfl,lm,_,_,_,rfl,rfl,SqL.of hM,cZ tk.1 (by rw[lM];exact ha),?_⟩
  refine⟨_,rfl,_,rfl,g0,_,_,_,rfl,rfl,SqT.of (sm _ _ hg0),rfl,_,rfl,g,_,_,_,rfl,rfl,SqT.of (sm _ _ hg),aZ (m8 _) hta,ta,_,_,_,rfl,rfl,SqT.of (sm _ _ htie),rfl,lm,_,_,_,rfl,rfl,SqL.of hM,cZ (rO tk) (by rw[lM];exact hb),?_⟩
  refine⟨_,rfl,_,rfl,rfl,_,rfl,?_⟩
  rw[dB]
  by_cases c:M.getD t.1.toNat 0=M.getD t.2.1.toNat 0
  ·exact iteNS c ⟨lm,M,_,_,_,rfl,sm,hM,by rw[mE];exact mk.same ha hb c⟩
  ·rw[uha c]
   refine iteT ?_
   refine⟨_,rfl,lm,rfl,⟨_,SqL.of hM⟩,?_⟩
   have lnM:(natV M).length=n.toNat:=by unfold natV;rw[c9];exact lM
   refine eS hM (λ σ'=>∃ o,σ'=[o,some (.int ((M.getD t.2.1.toNat 0:Nat):Int)),some (.int ((M.getD t.1.toNat 0:Nat):Int))]) (λ i v _=>v=.int (((if M.getD i 0=M.getD t.2.1.toNat 0 then M.getD t.1.toNat 0 else M.getD i 0:Nat)):Int)) (by left) (by exact⟨none,rfl⟩) (λ _ _ _ _ _ h=>h) (λ i2 x2 σ' H' hx2 s4 sg C hC=>?_) (λ L zs J4 hL S4 hH hly hys=>?_)
   ·obtain⟨o2,rfl⟩:=sg
    obtain⟨m,hm,rfl⟩:=bK hx2
    have em:M.getD i2 0=m:=by rw[g9,hm];rfl
    rw[em] at hC
    refine⟨_,rfl,_,rfl,rfl,_,rfl,?_⟩
    rw[dB]
    refine ite2 (λ c2=>⟨_,rfl,hC _ _ _ ⟨_,rfl⟩ (Same.refl _) ?_⟩) (λ c2=>⟨_,rfl,hC _ _ _ ⟨_,rfl⟩ (Same.refl _) ?_⟩)
    ·rw[uhc (ug9 c2)]
    ·rw[uhd (uhb (ucq.mpr c2))]
   rw[xR lM lnM hly hys] at hH
   exact⟨L,_,_,_,_,rfl,sm.trans S4,hH,by rw[mE];exact mk.join ha hb c⟩
 ·obtain⟨lm,M,y4,y5,y6,rfl,sm,hM,mk⟩:=h
  rw[len,ua1] at mk
  have lM:=mk.1
  refine⟨_,rfl,_,rfl,lm,_,_,_,rfl,rfl,SqL.of hM,cZ u0 (by left),_,rfl,_,rfl,lm,_,_,_,rfl,rfl,SqL.of hM,cZ v0 (by left),rfl,?_⟩
  rw[dB]
  exact q _ J (decide_eq_true_iff.trans (mk.2 _ _ (by left) (by left))) sm
theorem sK (T:Bi mg)(D:DefOk K mg "tie_weights" s_tie_weights ["web"]):‹1› "tie_weights" ["web"] (spWeights K):=by
 exists 0,sc_tie_weights
 obtain⟨n,ts,v,rfl,hw,few60,q⟩:=h
 obtain⟨g0,g,ws,rfl,hg0,hg,hall,hlw⟩:=bU hw
 refine⟨_,(aD (aN (i:=1) nd rfl (k8 rfl) (bJ aB)) (aD (aN (i:=2) nd rfl (k8 rfl) aC) (aD (bP PassesOwn.never rfl (cP (aE aU (pv 0) aC (λ _ _=>rfl))) (aJ (i:=3) nd rfl (k8 rfl)) (aD (bW (bY v4 uab uaa cJ (pv 1) (aA (pv 2) aB))) (aG (aN (i:=2) nd rfl (k8 rfl) (aK dD aC (pv 2)))))) (aG (aR (pv 1)))))),?_⟩
 refine⟨(by show 0<=1000;decide),λ l J0 S0 f0 e0=>?_⟩
 refine⟨_,rfl,g0,_,_,_,rfl,rfl,SqT.of (S0 _ _ hg0),rfl,g,rfl,⟨_,SqT.of (S0 _ _ hg)⟩,?_⟩
 refine iB (xs:=ws) (λ i σ J=>∃ y3:Option V,σ=[some (.ref g0),some (.ref l),some (.int (2^i)),y3]/\Same H J/\J l=some (.lst (pows i))) ⟨none,rfl,S0,e0⟩ (λ i σ J _ h=>by obtain⟨_,_,s,_⟩:=h;exact SqT.of (s _ _ hg)) (λ i x σ J hx h=>?_) (λ σ J h=>?_)
 ·obtain⟨y3,rfl,s1,e1⟩:=h
  have hi:i<ws.length:=(m9.mp hx).1
  refine⟨_,rfl,.inl ⟨rfl,_,SqL.of e1⟩,_,rfl,l,_,_,rfl,rfl,e1,(by unfold pows;rw[c9,l7];left),λ J1 b1 e2=>?_⟩
  refine⟨_,rfl,_,_,rfl,rfl,.inl ⟨by decide,by decide⟩,?_⟩
  refine⟨some x,?_,λ b o e=>b1 _ _ (aP e f0) (s1 _ _ e),by rw[e2,xD]⟩
  have ep:(2:Int)*2^i=2^(i+1):=by rw[Int.pow_succ,Int.mul_comm]
  show [some (V.ref g0),some (V.ref l),some (V.int (2*2^i)),some x]=_
  rw[ep]
 ·obtain⟨y3,rfl,s1,e1⟩:=h
  exact⟨_,rfl,q l J s1 f0 (by rw[e1,hlw])⟩
theorem uG (T:Bi mg)(D:DefOk K mg "cost_with" s_cost_with ["cost","length","weight"]):‹1› "cost_with" ["cost","length","weight"] (spCost K):=by
 exists 0,sc_cost_with
 obtain⟨c,x,y,l,ww,rfl,hc,q⟩:=h
 refine⟨_,(aG (aR (bN (aA (aK bQ (aE aU (pv 0) aC (λ _ _=>rfl)) (pv 1)) (aA (aK bQ (aE aU (pv 0) aC (λ _ _=>rfl)) (pv 2)) aB))))),?_⟩
 exact⟨_,rfl,c,_,_,_,rfl,rfl,SqT.of hc,rfl,_,rfl,_,_,rfl,rfl,_,rfl,c,_,_,_,rfl,rfl,SqT.of hc,rfl,_,rfl,_,_,rfl,rfl,(by show 2<=1000;decide),λ t J S f e=>q t J S e⟩
def rWB (H:Hp)(wv kv:V)(n r:Int)(ts:List Tie)(ks:List Nat)(lw lc la:j9)(m:Nat)(σ:L2.St)(J:Hp):Prop:=∃ (cs:List (Option (Int × Int)))(as:List (Option Nat))(ag:Bool)(y7 y8 y9 y10 y11 y12 y13:Option V),σ=[some wv,some kv,some (.int r),some (.ref lw),some (.ref lc),some (.ref la),some (.bl ag),y7,y8,y9,y10,y11,y12,y13] /\
 RA H J lw lc la (pows ts.length) cs as/\Far.Good (arcs ts ks) n.toNat r.toNat cs/\Far.Run (arcsB ts ks) r.toNat cs as/\(ag=false->Far.Stab2 (arcsB ts ks) cs)/\m=Far.mu cs+(if ag=true then 1 else 0)
theorem rV (T:Bi mg)(D:DefOk K mg "reached_from" s_reached_from ["web","keep","root"])(O_tie_weights:‹1› "tie_weights" ["web"] (spWeights K))(O_cost_with:‹1› "cost_with" ["cost","length","weight"] (spCost K)):‹2› "reached_from" ["web","keep","root"] (spReachedC K):=by
 exists 1,sc_reached_from
 obtain⟨n,ts,ks,wv,kv,r,rfl,⟨isw,ok,isk,ko⟩,r0,r1,q⟩:=h
 have few60:=ok.few
 have n1:=ok.n1
 have n24:=ok.n24
 obtain⟨g0,g,ws,rfl,hg0,hg,hall,hlw⟩:=bU isw
 obtain⟨kp,rfl,hkp⟩:=iS isk
 have P:=oW ok ko
 refine⟨_,(aD (aN (i:=3) nd rfl (k8 rfl) (aO O_tie_weights hr rfl (aA (pv 0) aB))) (aD (aN (i:=4) nd rfl (k8 rfl) (aK jR (bJ (aA bT aB)) (aE aU (pv 0) aC (λ _ _=>rfl)))) (aD (aN (i:=5) nd rfl (k8 rfl) (aK jR (bJ (aA bT aB)) (aE aU (pv 0) aC (λ _ _=>rfl)))) (aD (bX (bN (aA aC (aA aC aB))) (dR (pv 4) (pv 2) dI)) (aD (aN (i:=6) nd rfl (k8 rfl) cR) (aD (jG PassesOwn.never (fG (pv 6)) (aD (aN (i:=6) nd rfl (k8 rfl) cR) (aG (bP PassesOwn.never rfl (cP (pv 1)) (aJ (i:=7) nd rfl (k8 rfl)) (aD (bX (aE aU (aE aU (pv 0) aC (λ _ _=>rfl)) (pv 7) (λ _ _=>rfl)) (cC (n:=3) rfl (aS (aJ (i:=8) nd rfl (k8 rfl)) (aS (aJ (i:=9) nd rfl (k8 rfl)) (aS (aJ (i:=10) nd rfl (k8 rfl)) bM))))) (aG (bP PassesOwn.never rfl (cP (bN (aA (bN (aA (pv 8) (aA (pv 9) aB))) (aA (bN (aA (pv 9) (aA (pv 8) aB))) aB)))) (cC (n:=2) rfl (aS (aJ (i:=11) nd rfl (k8 rfl)) (aS (aJ (i:=12) nd rfl (k8 rfl)) bM))) (aD (bH (aT fI (aE aV (pv 4) (pv 11) (λ _ _=>rfl)) bT (nomark _)) (aG lC) bG) (aD (aN (i:=13) nd rfl (k8 rfl) (aO O_cost_with hr rfl (aA (aE aV (pv 4) (pv 11) (λ _ _=>rfl)) (aA (pv 10) (aA (aE aV (pv 3) (pv 7) (λ _ _=>rfl)) aB))))) (aG (bH (PW.pt (dF (aT fI (aE aV (pv 4) (pv 12) (λ _ _=>rfl)) bT (nomark _)) (iG (aT (zce hr.units0) (pv 13) (aE aV (pv 4) (pv 12) (λ _ _=>rfl)) (nomark _))))) (aD (bX (pv 13) (dR (pv 4) (pv 12) dI)) (aD (bX (pv 11) (dR (pv 5) (pv 12) dI)) (aG (aN (i:=6) nd rfl (k8 rfl) cR)))) bG))))))))))) (aG (aR (bN (aA (pv 4) (aA (pv 5) aB))))))))))),?_⟩
 refine⟨_,rfl,n,ts,_,rfl,isw,few60,λ lw J1 S1 f1 e1=>?_⟩
 refine⟨(by show 1<=1000;decide),λ t0 J2 S2 f2 e2=>⟨_,rfl,g0,_,_,_,rfl,rfl,SqT.of (S2 _ _ (S1 _ _ hg0)),rfl,t0,n,_,rfl,rfl,e2,by left,by left,λ lc J3 S3 f3 e3=>?_⟩⟩
 have S13:=S1.trans (S2.trans S3)
 refine⟨(by show 1<=1000;decide),λ t1 J4 S4 f4 e4=>⟨_,rfl,g0,_,_,_,rfl,rfl,SqT.of (S4 _ _ (S13 _ _ hg0)),rfl,t1,n,_,rfl,rfl,e4,by left,by left,λ la J5 S5 f5 e5=>?_⟩⟩
 refine⟨(by show 2<=1000;decide),λ t2 J6 S6 f6 e6=>?_⟩
 have S36:=S4.trans (S5.trans S6)
 have elc:=S36 _ _ e3
 refine⟨_,rfl,_,rfl,lc,_,r,r.toNat,rfl,rfl,elc,dA r0 (by rw[uai];left),?_⟩
 have Sall:Same H J6:=S13.trans S36
 have fc:H lc=none:=(S1.trans S2).free f3
 have fa:H la=none:=(S13.trans S4).free f5
 have nwc:lw≠lc:=λ z=>by rw[← z,S2 _ _ e1] at f3;cases f3
 have nwa:lw≠la:=λ z=>by rw[← z,S4 _ _ (S3 _ _ (S2 _ _ e1))] at f5;cases f5
 have nca:lc≠la:=λ z=>by rw[← z,S4 _ _ e3] at f5;cases f5
 have R0:RA H J6 lw lc la (pows ts.length) (o6 n.toNat none) (o6 n.toNat none):=⟨Sall,fc,fa,nwc,nwa,nca,S36 _ _ (S3 _ _ (S2 _ _ e1)),⟨_,elc,CostL.first _⟩,by rw[S6 _ _ e5,List.map_replicate];rfl⟩
 have R1:=R0.put (k:=r.toNat) elc (by rw[uai];left) e6
  -- the passes
 refine⟨rWB H (.ref g0) (.ref kp) n r ts ks lw lc la,⟨_,_,_,true,none,none,none,none,none,none,none,rfl,R1,Far.Good.first (by left),Far.Run.first (by left),λ z=>(by cases z),rfl⟩,?_⟩
 rintro m σ J ⟨c0,as0,ag,y7,y8,y9,y10,y11,y12,y13,rfl,R,G,AH,St,rfl⟩
 refine⟨_,rfl,ag,rfl,?_⟩
 cases ag with
 | false =>
  refine iteF ?_
  obtain⟨cvs,hc,cl⟩:=R.co
  exact⟨_,rfl,_,rfl,(by show 2<=1000;decide),λ p J' S' f' e'=>q p lc la cvs as0 c0 J' (R.same.trans S') e' (S' _ _ hc) (S' _ _ R.ah) (cl.keep (pH S')) (AH.best P G (St rfl)) G (za0 (St rfl))⟩
 | true =>
  refine iteT ⟨λ σ' J'=>∃ m',m'<Far.mu c0+1/\rWB H (.ref g0) (.ref kp) n r ts ks lw lc la m' σ' J',λ _ _ h=>h,?_⟩
  refine⟨_,rfl,kp,rfl,⟨_,SqT.of (R.same _ _ hkp)⟩,?_⟩
  refine iB (xs:=(keepI ks).map V.int) (λ i σ J=>∃ (cs:List (Option (Int × Int)))(as:List (Option Nat))(ag:Bool)(y7 y8 y9 y10 y11 y12 y13:Option V),σ=[some (.ref g0),some (.ref kp),some (.int r),some (.ref lw),some (.ref lc),some (.ref la),some (.bl ag),y7,y8,y9,y10,y11,y12,y13] /\
   RA H J lw lc la (pows ts.length) cs as/\Far.Good (arcs ts ks) n.toNat r.toNat cs/\Far.Run (arcsB ts ks) r.toNat cs as/\Far.PS2 c0 (λ z=>z∈arcsB ts (ks.take i)) cs ag) ⟨c0,as0,false,_,_,_,_,_,_,_,rfl,R,G,AH,.inl ⟨rfl,rfl,λ u v l k c z=>by cases z⟩⟩ (λ i σ J _ h=>?_) (λ i x σ J hx h=>?_) (λ σ J h=>?_)
  ·obtain⟨cs,as,ag,y7,y8,y9,y10,y11,y12,y13,rfl,R,_⟩:=h
   exact SqT.of (R.same _ _ hkp)
  ·obtain⟨cs,as,ag,y7,y8,y9,y10,y11,y12,y13,rfl,R,G,AH,Pt⟩:=h
   obtain⟨k,hk,rfl⟩:=hX hx
   have hkl:k<ts.length:=ko.2 k (u6 hk)
   obtain⟨ta,hta,htie⟩:=bV hall hkl
   obtain⟨t,et⟩:∃ t,t=tieAt ts k:=⟨_,rfl⟩
   rw[← et] at htie
   have tk:=ok.tie _ (bI hkl).2
   rw[← et] at tk
   refine⟨_,rfl,g0,_,_,_,rfl,rfl,SqT.of (R.same _ _ hg0),rfl,_,rfl,g,_,_,_,rfl,rfl,SqT.of (R.same _ _ hg),aZ (m8 _) hta,ta,_,rfl,SqT.of (R.same _ _ htie),rfl,_,_,rfl,_,_,rfl,_,_,rfl,rfl,?_⟩
   refine⟨_,rfl,_,rfl,(by show 2<=1000;decide),λ t1 K1 T1 u1 v1=>⟨_,rfl,_,rfl,(by show 2<=1000;decide),λ t2 K2 T2 u2 v2=>⟨(by show 2<=1000;decide),λ t3 K3 T3 u3 v3=>⟨t3,rfl,⟨_,SqT.of v3⟩,?_⟩⟩⟩⟩
   have R3:=R.step (T1.trans (T2.trans T3))
   have v1':=T3 _ _ (T2 _ _ v1)
   have v2':=T3 _ _ v2
   refine iB (xs:=[V.ref t1,.ref t2]) (λ j σ J=>∃ (cs:List (Option (Int × Int)))(as:List (Option Nat))(ag:Bool)(y11 y12 y13:Option V),σ=[some (.ref g0),some (.ref kp),some (.int r),some (.ref lw),some (.ref lc),some (.ref la),some (.bl ag),some (.int (k:Int)),some (.int t.1),some (.int t.2.1),some (.int t.2.2),y11,y12,y13] /\
    RA H J lw lc la (pows ts.length) cs as/\Far.Good (arcs ts ks) n.toNat r.toNat cs/\Far.Run (arcsB ts ks) r.toNat cs as/\Far.PS2 c0 (λ z=>z∈arcsB ts (ks.take i)\/z∈(arcs2B t k).take j) cs ag/\TupKeep K3 J) ⟨cs,as,ag,_,_,_,rfl,R3,G,AH,Pt.less λ a z=>z.elim id λ z=>(by cases z),λ _ _ e=>e⟩ (λ j σ J _ h=>?_) (λ j x σ J hx h=>?_) (λ σ J h=>?_)
   ·obtain⟨cs,as,ag,y11,y12,y13,rfl,R,G,AH,Pt,tk⟩:=h
    exact SqT.of (tk _ _ v3)
   ·obtain⟨cs,as,ag,y11,y12,y13,rfl,R,G,AH,Pt,tkp⟩:=h
    obtain⟨p,u,v,rfl,hp,u0,un,v0,vn,arc,arcB,more⟩:∃ p u v,x=.ref p/\J p=some (.tup [.int u,.int v])/\0<=u/\u<n/\0<=v/\v<n/\(u.toNat,v.toNat,t.2.2)∈arcs ts ks/\(u.toNat,v.toNat,t.2.2,k)∈arcsB ts ks/\∀ z,z∈(arcs2B t k).take (j+1)->z∈(arcs2B t k).take j\/z=(u.toNat,v.toNat,t.2.2,k):=by
     have memB:∀ z,z∈arcs2B t k->z∈arcsB ts ks:=λ z hz=>arcsB_mem.mpr ⟨k,u6 hk,by rw[← et];exact hz⟩
     have mem:∀ z,z∈arcs2 t->z∈arcs ts ks:=λ z hz=>arcs_mem.mpr ⟨k,u6 hk,by rw[← et];exact hz⟩
     match j,hx with
     | 0,hx=>cases hx;exact⟨t1,t.1,t.2.1,rfl,tkp _ _ v1',by left,by left,by left,by left,mem _ (arcs2_mem.mpr (.inl rfl)),memB _ (arcs2B_mem.mpr (.inl rfl)),λ z hz=>by unfold arcs2B at *;simpa using hz⟩
     | 1,hx=>cases hx;exact⟨t2,t.2.1,t.1,rfl,tkp _ _ v2',by left,by left,by left,by left,mem _ (arcs2_mem.mpr (.inr rfl)),memB _ (arcs2B_mem.mpr (.inr rfl)),λ z hz=>by unfold arcs2B at *;simpa using hz⟩
    refine⟨p,_,rfl,SqT.of hp,rfl,_,_,rfl,_,_,rfl,rfl,?_⟩
    obtain⟨cvs,hc,cl⟩:=R.co
    have lenC:cvs.length=n.toNat:=by rw[cl.1];exact G.len
    obtain⟨x1,at1,cv1⟩:=qF cl u0 (by rw[G.len];left)
    obtain⟨x2,at2,cv2⟩:=qF cl v0 (by rw[G.len];left)
    have next:∀ {cs':List (Option (Int × Int))}{ag':Bool},Far.PS2 c0 (Far.plusA (λ z=>z∈arcsB ts (ks.take i)\/z∈(arcs2B t k).take j) (u.toNat,v.toNat,t.2.2,k)) cs' ag'->Far.PS2 c0 (λ z=>z∈arcsB ts (ks.take i)\/z∈(arcs2B t k).take (j+1)) cs' ag':=λ h=>h.less λ z hz=>by
     rcases hz with hz | hz
     ·exact .inl (.inl hz)
     ·exact (more z hz).elim (λ y=>.inl (.inr y)) .inr
    refine⟨_,rfl,_,rfl,lc,_,_,_,rfl,rfl,SqL.of hc,at1,rfl,_,rfl,ite2 (λ c1=>?_) (λ c1=>?_)⟩
    ·-- not reached
     have gu:Far.get cs u.toNat=none:=by
      cases e:Far.get cs u.toNat with
      | none=>rfl
      | some d =>
       rw[e] at cv1
       obtain⟨tt,rfl,_⟩:=cv1
       cases ug9 c1
     exact⟨cs,as,ag,_,_,_,rfl,R,G,AH,next (Pt.no gu),tkp⟩
    ·obtain⟨d,gu⟩:∃ d,Far.get cs u.toNat=some d:=by
      cases e:Far.get cs u.toNat with
      | none=>rw[e] at cv1;exact absurd (ug8 (show x1=V.non from cv1)) c1
      | some d=>exact⟨d,rfl⟩
     rw[gu] at cv1
     obtain⟨td,rfl,htd⟩:=cv1
     have pw:=zb5 (i:=k) (by left)
     refine⟨_,rfl,_,rfl,lc,_,_,_,rfl,rfl,SqL.of hc,at1,_,rfl,_,rfl,_,rfl,lw,_,_,_,rfl,rfl,SqL.of R.wl,aZ (m8 _) (za9 hkl),td,_,_,_,_,rfl,htd,λ tn L1 Z1 en=>?_⟩
     have R':=R.step Z1
     have hc':=Z1 _ _ hc
     have tkp':TupKeep K3 L1:=λ a xs e=>Z1 _ _ (tkp a xs e)
     have done : ∀ (hlt : Far.get cs v.toNat = none \/ ∃ c', Far.get cs v.toNat = some c' /\ Far.lt2 (d.1+t.2.2, d.2+2^k) c') , ∀ L, L = upd (upd L1 lc (.lst (cvs.set v.toNat (.ref tn)))) la (.lst ((as.map oa).set v.toNat (.int u))) →
         RA H L lw lc la (pows ts.length) (cs.set v.toNat (some (d.1+t.2.2,d.2+2^k))) (as.set v.toNat (some u.toNat))/\Far.Good (arcs ts ks) n.toNat r.toNat (cs.set v.toNat (some (d.1+t.2.2,d.2+2^k)))/\Far.Run (arcsB ts ks) r.toNat (cs.set v.toNat (some (d.1+t.2.2,d.2+2^k))) (as.set v.toNat (some u.toNat))/\Far.PS2 c0 (λ z=>z∈arcsB ts (ks.take i)\/z∈(arcs2B t k).take (j+1)) (cs.set v.toNat (some (d.1+t.2.2,d.2+2^k))) true/\TupKeep K3 L:=λ hlt L eL=>by
      subst eL
      obtain⟨G',mm⟩:=G.step P (by left) arc (by left) pw.1 pw.2 (by left) gu hlt
      have Rp:=R'.put hc' (k:=v.toNat) (by left) en
      have Rm:=Rp.mark (k:=v.toNat) (u:=u.toNat)
      rw[uar u0] at Rm
      exact⟨Rm,G',Far.Run.step P G AH arc arcB (by left) gu hlt,next (Pt.put mm),λ a xs e=>gB Rp.ah _ _ (gB hc' _ _ (tkp' a xs e))⟩
     have ha:=R'.ah
     have hal:(as.map oa).length=n.toNat:=by rw[c9,AH.len];exact G.len
     refine⟨_,rfl,_,rfl,lc,_,_,_,rfl,rfl,SqL.of hc',at2,rfl,_,rfl,ite2 (λ c2=>iteT ?_) (λ c2=>?_)⟩
     ·have gv:Far.get cs v.toNat=none:=by
       cases e:Far.get cs v.toNat with
       | none=>rfl
       | some d =>
        rw[e] at cv2
        obtain⟨tt,rfl,_⟩:=cv2
        cases ug9 c2
      obtain⟨R2,G2,A2,P2,k2⟩:=done (.inl gv) _ rfl
      exact⟨_,rfl,_,rfl,_,rfl,lc,_,_,_,rfl,rfl,hc',dA v0 (by left),_,rfl,_,rfl,_,rfl,la,_,_,_,rfl,rfl,(by rw[aM R.nca.symm];exact ha),dA v0 (by left),_,_,true,_,_,_,rfl,R2,G2,A2,P2,k2⟩
     ·obtain⟨d2,gv⟩:∃ d,Far.get cs v.toNat=some d:=by
       cases e:Far.get cs v.toNat with
       | none=>rw[e] at cv2;exact absurd (ug8 (show x2=V.non from cv2)) c2
       | some d=>exact⟨d,rfl⟩
      rw[gv] at cv2
      obtain⟨te,rfl,hte⟩:=cv2
      refine⟨_,rfl,_,rfl,_,rfl,lc,_,_,_,rfl,rfl,SqL.of hc',at2,tn,te,L3.e2 (d.1+t.2.2,d.2+2^k),L3.e2 d2,rfl,rfl,SqT.of en,SqT.of (Z1 _ _ hte),_,rfl,ite2 (λ c3=>?_) (λ c3=>?_)⟩
      ·have hl:=(nY _ _).mp c3
       obtain⟨R2,G2,A2,P2,k2⟩:=done (.inr ⟨d2,gv,hl⟩) _ rfl
       exact⟨_,rfl,_,rfl,_,rfl,lc,_,_,_,rfl,rfl,hc',dA v0 (by left),_,rfl,_,rfl,_,rfl,la,_,_,_,rfl,rfl,(by rw[aM R.nca.symm];exact ha),dA v0 (by left),_,_,true,_,_,_,rfl,R2,G2,A2,P2,k2⟩
      ·have hn:¬ Far.lt2 (d.1+t.2.2,d.2+2^k) d2:=λ z=>c3 ((nY _ _).mpr z)
       exact⟨cs,as,ag,_,_,_,rfl,R',G,AH,next (Pt.old gu gv hn),tkp'⟩
   ·obtain⟨cs,as,ag,y11,y12,y13,rfl,R,G,AH,Pt,tkp⟩:=h
    refine⟨cs,as,ag,_,_,_,_,_,_,_,rfl,R,G,AH,Pt.less λ z hz=>?_⟩
    exact (wO hk hz).elim .inl λ y=>.inr (by rw[← et] at y;exact y)
  ·obtain⟨cs,as,ag,y7,y8,y9,y10,y11,y12,y13,rfl,R2,G2,A2,Pt⟩:=h
   have lk:((keepI ks).map V.int).length=ks.length:=by unfold keepI;rw[c9,c9]
   rw[lk,ua1] at Pt
   rcases Pt with ⟨ea,ec,st⟩ | ⟨ea,lt⟩
   ·subst ea
    rw[← ec] at st
    exact⟨Far.mu cs+0,by rw[ec];left,cs,as,false,_,_,_,_,_,_,_,rfl,R2,G2,A2,λ _=>st,rfl⟩
   ·subst ea
    exact⟨Far.mu cs+1,by left,cs,as,true,_,_,_,_,_,_,_,rfl,R2,G2,A2,λ z=>(by cases z),rfl⟩
theorem uF (T:Bi mg)(D:DefOk K mg "fars_from" s_fars_from ["web","keep","root"])(O_reached_from:‹2› "reached_from" ["web","keep","root"] (spReached K)):‹3› "fars_from" ["web","keep","root"] (spFars K):=by
 exists 2,sc_fars_from
 obtain⟨n,ts,ks,wv,kv,r,rfl,wk,r0,r1,q⟩:=h
 have n24:=wk.2.1.n24
 refine⟨_,(aD (bX (aO O_reached_from hr rfl (aA (pv 0) (aA (pv 1) (aA (pv 2) aB)))) (cC (n:=2) rfl (aS (aJ (i:=3) nd rfl (k8 rfl)) (aS (aJ (i:=4) nd rfl (k8 rfl)) bM)))) (aG (aR (cF (N:=["web","keep","root","costs","ahead"]) (sc0:=defScope s_fars_from) (own:=["cost"]) (fr:=[]) (js:=[]) rfl (bR (pv 3)) (λ _ _ _ _=>(aJ (i:=0) (by show uap [("cost":Str)];decide +kernel) rfl (k8 rfl))) (λ _ _ _ _=>cG) (λ _ _ _ _=>(jI (aT fI (pv 0) bT (nomark _)) bT (aE bO (pv 0) aC (λ _ _=>rfl)))))))),?_⟩
 refine⟨_,rfl,_,rfl,_,rfl,n,ts,ks,wv,kv,r,rfl,wk,r0,r1,λ p lc la cvs avs cs J S ep ec ea cl G St=>?_⟩
 refine⟨p,_,rfl,SqT.of ep,rfl,_,_,rfl,_,_,rfl,rfl,?_⟩
 have lenC:cvs.length=n.toNat:=by rw[cl.1];exact G.len
 refine⟨_,rfl,lc,rfl,⟨_,SqL.of ec⟩,?_⟩
 refine eS ec (λ σ'=>σ'.length=1) (λ i v _=>v=ov ((Far.get cs i).map (·.1))) (by left) (by rfl) (λ _ _ _ _ _ h=>h) (λ i x σ' H' hx s2 sg C hC=>?_) (λ L ys H2 hL s2 hH hly hys=>?_)
 ·match σ',sg with
  | [o],_ =>
   have cv:=cl.2 i x hx
   refine⟨_,rfl,rfl,_,rfl,ite2 (λ c=>?_) (λ c=>?_)⟩
   ·have e:Far.get cs i=none:=by
     cases e:Far.get cs i with
     | none=>rfl
     | some d =>
      rw[e] at cv
      obtain⟨tt,rfl,_⟩:=cv
      cases ug9 c
    exact hC _ _ _ rfl (Same.refl _) (by rw[e];rfl)
   ·obtain⟨d,gu⟩:∃ d,Far.get cs i=some d:=by
     cases e:Far.get cs i with
     | none=>rw[e] at cv;exact absurd (ug8 (show x=V.non from cv)) c
     | some d=>exact⟨d,rfl⟩
    rw[gu] at cv
    obtain⟨td,rfl,htd⟩:=cv
    exact⟨_,rfl,td,_,_,_,rfl,rfl,SqT.of (s2 _ _ htd),rfl,hC _ _ _ rfl (Same.refl _) (by rw[gu];rfl)⟩
 ·obtain⟨DD,eD⟩:∃ DD,DD=cs.map λ o=>o.map (·.1):=⟨_,rfl⟩
  have gD:∀ v,Far.get DD v=(Far.get cs v).map (·.1):=λ v=>by
   rw[eD];unfold Far.get
   rw[g9,k0,g9]
   cases cs[v]? <;> rfl
  refine q L DD H2 (S.trans s2) (S.free hL) ?_ (by rw[eD,c9];exact G.len) λ v hv=>by rw[gD];exact G.dst St v
  rw[hH]
  refine congrArg (λ z=>some (HO.lst z)) (ub5 λ i=>?_)
  have lD:DD.length=n.toNat:=by rw[eD,c9];exact G.len
  by_cases hi:i<n.toNat
  ·rw[dG (by left),gD]
   have e:ys[i]?=some ys[i]:=d8 (by left)
   rw[e,hys i _ e]
  ·rw[v7 (by left),v7 (by rw[c9];left)]
theorem sL (T:Bi mg)(D:DefOk K mg "tie_between" s_tie_between ["web","a","b"]):‹1› "tie_between" ["web","a","b"] (spTB K):=by
 exists 0,sc_tie_between
 obtain⟨n,ts,wv,u,v,rfl,isw,few60,q⟩:=h
 have units:∀ {x:Nat},x<=3->(A.deeper (envOfC "tie_between" (defScope s_tie_between) s.heap.objs.size f cdv)).units+x<cLine:=λ {x} hu=>by have:=hr.units;left
 obtain⟨g0,g,ws,rfl,hg0,hg,hall,hlw⟩:=bU isw
 refine⟨_,(aD (aN (i:=3) nd rfl (k8 rfl) (bN (aA (aX (gR rfl) rfl T.z_min (by symm) (aA (pv 1) (aA (pv 2) aB))) (aA (aX (fP rfl) rfl T.z_max (by symm) (aA (pv 1) (aA (pv 2) aB))) aB)))) (aD (bP PassesOwn.never rfl (pQ true rfl T.z_enumerate (aA (aE aU (pv 0) aC (λ _ _=>rfl)) aB)) (cC (n:=2) rfl (aS (aJ (i:=4) nd rfl (k8 rfl)) (aS (aJ (i:=5) nd rfl (k8 rfl)) bM))) (aG (bH (aT kD (eQ fX (pv 5) eY (eW aC)) (pv 3) (nomark _)) (aG (aR (pv 4))) bG))) (aG (aR bT)))),?_⟩
 refine⟨_,rfl,_,rfl,_,_,rfl,_,rfl,_,rfl,_,_,rfl,(by show 2<=1000;decide),λ te J1 S1 f1 e1=>?_⟩
 have eMin:(if (v:Int)<(u:Int) then (v:Int) else u)=min (u:Int) v:=by split <;> left
 have eMax:(if (v:Int)>(u:Int) then (v:Int) else u)=max (u:Int) v:=by split <;> left
 rw[eMin,eMax] at e1
 refine⟨_,rfl,g0,_,_,_,rfl,rfl,SqT.of (S1 _ _ hg0),rfl,g,rfl,⟨ws,SqX.of (S1 _ _ hg)⟩,?_⟩
 refine⟨λ i m σ J=>m=ts.length-i/\i<=ts.length/\(∃ y4 y5:Option V,σ=[some (.ref g0),some (.int (u:Int)),some (.int (v:Int)),some (.ref te),y4,y5])/\Same J1 J/\∀ k,k<i->isTB ts u v k=false,⟨_,rfl,w8 _,⟨none,none,rfl⟩,Same.refl _,λ k hk=>(by left)⟩,?_⟩
 rintro i m σ J ⟨rfl,hi,⟨y4,y5,rfl⟩,sm,pre⟩
 have sH:=S1.trans sm
 have sq:SqX true K J g ws:=SqX.of (sH _ _ hg)
 by_cases hlt:i<ts.length
 ·refine .inr ⟨⟨ws,ws[i]'(by left),sq,by simp [show i<ws.length by left]⟩,λ σ' J'=>∃ m',m'<ts.length-i/\(m'=ts.length-(i+1)/\i+1<=ts.length/\(∃ y4 y5:Option V,σ'=[some (.ref g0),some (.int (u:Int)),some (.int (v:Int)),some (.ref te),y4,y5])/\Same J1 J'/\∀ k,k<i+1->isTB ts u v k=false),λ _ _ h=>h,λ x J' hy=>?_⟩
  obtain⟨T',y,hT,rfl,rfl,ey⟩:=hy
  have hyi:=ey ws sq
  obtain⟨ta,hta,htie⟩:=bV hall hlt
  rw[hta] at hyi
  cases hyi
  have S2:=aQ (o:=.tup [.int (i:Nat),.ref ta]) hT
  have htie':=S2 _ _ (sH _ _ htie)
  refine⟨T',_,rfl,SqT.of aH,rfl,_,_,rfl,_,_,rfl,rfl,?_⟩
  refine⟨_,rfl,_,rfl,ta,_,rfl,htie',λ tc J3 S3 e3=>?_⟩
  have e3':J3 tc=some (.tup (([(tieAt ts i).1,(tieAt ts i).2.1]:List Int).map V.int)):=e3
  have e1':J3 te=some (.tup (([min (u:Int) v,max (u:Int) v]:List Int).map V.int)):=S3 _ _ (S2 _ _ (sm _ _ e1))
  refine⟨_,rfl,.tuple (([(tieAt ts i).1,(tieAt ts i).2.1]:List Int).map .int),.tuple (([min (u:Int) v,max (u:Int) v]:List Int).map .int),⟨tc,_,rfl,e3',IsAll.ints _⟩,⟨te,_,rfl,e1',IsAll.ints _⟩,cD _,cD _,?_,_,rfl,?_⟩
  ·have d1:=eM [(tieAt ts i).1,(tieAt ts i).2.1]
   have d2:udj (.tuple (([(tieAt ts i).1,(tieAt ts i).2.1]:List Int).map .int))=uda (([(tieAt ts i).1,(tieAt ts i).2.1]:List Int).map .int)+1:=rfl
   exact units (uas (ugl _ _) (by rw[d2];left))
  have eq:ufc (.tuple (([(tieAt ts i).1,(tieAt ts i).2.1]:List Int).map .int)) (.tuple (([min (u:Int) v,max (u:Int) v]:List Int).map .int))=isTB ts u v i:=jJ _ _ _ _
  rw[eq]
  have SS:=S2.trans S3
  refine ite2 (λ c=>?_) (λ c=>?_)
  ·have et:tbN ts u v=some i:=by
    unfold tbN
    refine List.find?_range_eq_some.mpr ⟨c,j4.mpr hlt,λ j hj=>?_⟩
    rw[pre j hj];rfl
   have q1:=q J3 (sH.trans SS)
   rw[et] at q1
   exact⟨_,rfl,q1⟩
  ·refine⟨ts.length-(i+1),by left,rfl,hlt,⟨_,_,rfl⟩,sm.trans SS,λ k hk=>?_⟩
   by_cases z:k=i
   ·rw[z];exact ucq.mpr c
   ·exact pre k (by left)
 ·have e:i=ts.length:=by left
  subst e
  refine .inl ⟨⟨ws,sq,by left⟩,?_⟩
  have et:tbN ts u v=none:=by
   unfold tbN
   refine ud9.mpr λ k hk=>?_
   rw[pre k (j4.mp hk)];exact j6
  have q1:=q J sH
  rw[et] at q1
  exact q1
theorem tJ (T:Bi mg)(D:DefOk K mg "ties_along" s_ties_along ["web","places"])(O_tie_between:‹1› "tie_between" ["web","a","b"] (spTB K)):‹2› "ties_along" ["web","places"] (spAlong K):=by
 exists 1,sc_ties_along
 obtain⟨n,ts,wv,t,ws,rfl,isw,few60,ht,l24,lk,q⟩:=h
 have lenW:(natV ws).length=ws.length:=by unfold natV;rw[c9]
 have ecut:cutV (natV ws) (some 1) none=natV (ws.drop 1):=by
  unfold cutV
  have h1:HT.sIx (natV ws).length (natV ws).length none=(natV ws).length:=rfl
  rw[h1]
  by_cases z:ws=[]
  ·subst z;rfl
  ·have pos:=ue7.mpr z
   have h0:HT.sIx (natV ws).length 0 (some 1)=1:=by
    unfold HT.sIx
    simp
    left
   rw[h0,ub9 (by rw[uby];exact h9 _)]
   unfold natV
   rw[ug6]
 refine⟨_,(aG (aR (cF (N:=["web","places"]) (sc0:=defScope s_ties_along) (own:=["one","other"]) (fr:=["web"]) (js:=[0]) rfl (kC true true rfl T.z_zip (aA (pv 1) (aA (eQ fX (pv 1) (eW aC) eY) aB))) (λ _ _ _ _=>(eZ (n:=2) rfl (aS (aJ (i:=0) (by show uap [("one":Str),("other":Str),("web":Str)];decide +kernel) rfl (k8 rfl)) (aS (aJ (i:=1) (by show uap [("one":Str),("other":Str),("web":Str)];decide +kernel) rfl (k8 rfl)) bM)))) (λ _ _ _ _=>cG) (λ _ _ _ _=>(aO O_tie_between hr rfl (aA (pv 2) (aA (pv 0) (aA (pv 1) aB)))))))),?_⟩
 refine⟨_,rfl,_,rfl,_,rfl,t,_,rfl,ht,λ t2 J1 S1 e1=>?_⟩
 rw[ecut] at e1
 refine⟨t,t2,rfl,⟨_,SqX.of (t:=true) (S1 _ _ ht)⟩,⟨_,SqX.of (t:=true) e1⟩,?_⟩
 have lenD:(natV (ws.drop 1)).length=ws.length-1:=by unfold natV;rw[c9,uby]
 refine oP (t1:=true) (t2:=true) (xs:=natV ws) (zs:=natV (ws.drop 1)) (S1 _ _ ht) e1 (λ σ'=>∃ o1 o2,σ'=[o1,o2,some wv]) (λ i x _=>x=V.int (((tbN ts (ws.getD i 0) (ws.getD (i+1) 0)).getD 0:Nat):Int)) (by left) (by exact⟨none,none,rfl⟩) (λ _ _ _ _ _ h=>h) (λ i x z U σ' H' hxi hzi s2 hU sg C hC=>?_) (λ L ys H2 hL s2 hH hly hys=>?_)
 ·obtain⟨o1,o2,rfl⟩:=sg
  obtain⟨u,hu,rfl⟩:=bK hxi
  obtain⟨v,hv,rfl⟩:=bK hzi
  rw[ufd,ufx] at hv
  obtain⟨k,ek,hk⟩:=fN lk hu hv
  have eu:ws.getD i 0=u:=by rw[g9,hu];rfl
  have ev:ws.getD (i+1) 0=v:=by rw[g9,hv];rfl
  refine⟨U,_,rfl,SqT.of aH,rfl,_,_,rfl,_,_,rfl,rfl,?_⟩
  have SU:=aQ (o:=.tup [V.int (u:Int),.int (v:Int)]) hU
  refine⟨_,rfl,_,rfl,_,rfl,n,ts,wv,u,v,rfl,Is.same (S1.trans (s2.trans SU)) _ isw,few60,λ H5 s5=>hC _ _ _ ⟨_,_,rfl⟩ (SU.trans s5) ?_⟩
  rw[eu,ev,ek];rfl
 ·refine q L H2 (S1.trans s2) ?_
  rw[hH]
  refine congrArg (λ z=>some (HO.lst z)) (ub5 λ i=>?_)
  have hl2:ys.length=ws.length-1:=by rw[hly,lenW,lenD];left
  unfold alongN natV
  rw[ubo,k0]
  by_cases hi:i<ws.length-1
  ·have e:ys[i]?=some ys[i]:=d8 (by left)
   rw[e,hys i _ e,uba hi];rfl
  ·rw[v7 (by left),v7 (by rw[l7];left)];rfl
theorem tG (T:Bi mg)(D:DefOk K mg "way_length" s_way_length ["web","way"])(O_ties_along:‹2› "ties_along" ["web","places"] (spAlong K)):‹3› "way_length" ["web","way"] (spWLen K):=by
 exists 2,sc_way_length
 obtain⟨n,ts,wv,t,ws,rfl,isw,few60,ht,l24,lk,q⟩:=h
 obtain⟨g0,g,tws,rfl,hg0,hg,hall,hlw⟩:=bU isw
 refine⟨_,(aG (aR (aX (nA rfl) rfl T.z_sum (by symm) (aA (cF (N:=["web","way"]) (sc0:=defScope s_way_length) (own:=["tie"]) (fr:=["web"]) (js:=[0]) rfl (bR (aO O_ties_along hr rfl (aA (pv 0) (aA (pv 1) aB)))) (λ _ _ _ _=>(aJ (i:=0) (by show uap [("tie":Str),("web":Str)];decide +kernel) rfl (k8 rfl))) (λ _ _ _ _=>cG) (λ _ _ _ _=>(aE bO (aE bO (aE bO (pv 1) aC (λ _ _=>rfl)) (pv 0) (λ _ _=>rfl)) aC (λ _ _=>rfl)))) aB)))),?_⟩
 refine⟨_,rfl,_,rfl,n,ts,_,t,ws,rfl,isw,few60,ht,l24,lk,λ l J1 S1 e1=>?_⟩
 refine⟨l,rfl,⟨_,SqL.of e1⟩,?_⟩
 have lenA:(natV (alongN ts ws)).length=ws.length-1:=by unfold natV alongN;rw[c9,c9,l7]
 refine eS e1 (λ σ'=>∃ o,σ'=[o,some (.ref g0)]) (λ i x _=>x=V.int (tieAt ts ((alongN ts ws).getD i 0)).2.2) (by left) (by exact⟨none,rfl⟩) (λ _ _ _ _ _ h=>h) (λ i x σ' H' hx s2 sg C hC=>?_) (λ L ys H2 hL s2 hH hly hys=>?_)
 ·obtain⟨o,rfl⟩:=sg
  obtain⟨k,hk,rfl⟩:=bK hx
  have hkl:=gZ lk k (u6 hk)
  obtain⟨ta,hta,htie⟩:=bV hall hkl
  have s12:=S1.trans s2
  have ek:(alongN ts ws).getD i 0=k:=by rw[g9,hk];rfl
  exact⟨_,rfl,g0,_,_,_,rfl,rfl,SqT.of (s12 _ _ hg0),rfl,_,rfl,g,_,_,_,rfl,rfl,SqT.of (s12 _ _ hg),aZ (m8 _) hta,ta,_,_,_,rfl,rfl,SqT.of (s12 _ _ htie),rfl,hC _ _ _ ⟨_,rfl⟩ (Same.refl _) (by rw[ek])⟩
 ·refine⟨L,(alongN ts ws).map λ k=>(tieAt ts k).2.2,rfl,?_,?_⟩
  ·rw[hH]
   refine congrArg (λ z=>some (HO.lst z)) (ub5 λ i=>?_)
   have hl2:ys.length=ws.length-1:=by rw[hly,lenA]
   have la:(alongN ts ws).length=ws.length-1:=by unfold alongN;rw[c9,l7]
   rw[k0,k0]
   by_cases hi:i<ws.length-1
   ·have e:ys[i]?=some ys[i]:=d8 (by left)
    have e2:(alongN ts ws)[i]?=some ((alongN ts ws).getD i 0):=by rw[g9,d8 (by left)];rfl
    rw[e,hys i _ e,e2];rfl
   ·rw[v7 (by left),v7 (by left)];rfl
  ·rw[jA]
   exact q H2 (S1.trans s2)
theorem sJ (T:Bi mg)(D:DefOk K mg "ties_along" s_ties_along ["web","places"])(O_tie_between:‹1› "tie_between" ["web","a","b"] (spTB K)):‹2› "ties_along" ["web","places"] (spAlongW K):=by
 exists 1,sc_ties_along
 obtain⟨n,ts,wv,t,ws,rfl,isw,few60,ht,l24,lk,q⟩:=h
 have lenW:(natV ws).length=ws.length:=by unfold natV;rw[c9]
 have ecut:cutV (natV ws) (some 1) none=natV (ws.drop 1):=by
  unfold cutV
  have h1:HT.sIx (natV ws).length (natV ws).length none=(natV ws).length:=rfl
  rw[h1]
  by_cases z:ws=[]
  ·subst z;rfl
  ·have pos:=ue7.mpr z
   have h0:HT.sIx (natV ws).length 0 (some 1)=1:=by
    unfold HT.sIx
    simp
    left
   rw[h0,ub9 (by rw[uby];exact h9 _)]
   unfold natV
   rw[ug6]
 refine⟨_,(aG (aR (cF (N:=["web","places"]) (sc0:=defScope s_ties_along) (own:=["one","other"]) (fr:=["web"]) (js:=[0]) rfl (kC true true rfl T.z_zip (aA (pv 1) (aA (eQ fX (pv 1) (eW aC) eY) aB))) (λ _ _ _ _=>(eZ (n:=2) rfl (aS (aJ (i:=0) (by show uap [("one":Str),("other":Str),("web":Str)];decide +kernel) rfl (k8 rfl)) (aS (aJ (i:=1) (by show uap [("one":Str),("other":Str),("web":Str)];decide +kernel) rfl (k8 rfl)) bM)))) (λ _ _ _ _=>cG) (λ _ _ _ _=>(aO O_tie_between hr rfl (aA (pv 2) (aA (pv 0) (aA (pv 1) aB)))))))),?_⟩
 refine⟨_,rfl,_,rfl,_,rfl,t,_,rfl,ht,λ t2 J1 S1 e1=>?_⟩
 rw[ecut] at e1
 refine⟨t,t2,rfl,⟨_,SqX.of (t:=true) (S1 _ _ ht)⟩,⟨_,SqX.of (t:=true) e1⟩,?_⟩
 have lenD:(natV (ws.drop 1)).length=ws.length-1:=by unfold natV;rw[c9,uby]
 refine oP (t1:=true) (t2:=true) (xs:=natV ws) (zs:=natV (ws.drop 1)) (S1 _ _ ht) e1 (λ σ'=>∃ o1 o2,σ'=[o1,o2,some wv]) (λ i x _=>x=V.int (((tbN ts (ws.getD i 0) (ws.getD (i+1) 0)).getD 0:Nat):Int)) (by left) (by exact⟨none,none,rfl⟩) (λ _ _ _ _ _ h=>h) (λ i x z U σ' H' hxi hzi s2 hU sg C hC=>?_) (λ L ys H2 hL s2 hH hly hys=>?_)
 ·obtain⟨o1,o2,rfl⟩:=sg
  obtain⟨u,hu,rfl⟩:=bK hxi
  obtain⟨v,hv,rfl⟩:=bK hzi
  rw[ufd,ufx] at hv
  obtain⟨k,ek,hk⟩:=fN lk hu hv
  have eu:ws.getD i 0=u:=by rw[g9,hu];rfl
  have ev:ws.getD (i+1) 0=v:=by rw[g9,hv];rfl
  refine⟨U,_,rfl,SqT.of aH,rfl,_,_,rfl,_,_,rfl,rfl,?_⟩
  have SU:=aQ (o:=.tup [V.int (u:Int),.int (v:Int)]) hU
  refine⟨_,rfl,_,rfl,_,rfl,n,ts,wv,u,v,rfl,Is.same (S1.trans (s2.trans SU)) _ isw,few60,λ H5 s5=>hC _ _ _ ⟨_,_,rfl⟩ (SU.trans s5) ?_⟩
  rw[eu,ev,ek];rfl
 ·refine q L H2 (S1.trans s2) ?_
  rw[hH]
  refine congrArg (λ z=>some (HO.lst z)) (ub5 λ i=>?_)
  have hl2:ys.length=ws.length-1:=by rw[hly,lenW,lenD];left
  unfold alongN natV
  rw[ubo,k0]
  by_cases hi:i<ws.length-1
  ·have e:ys[i]?=some ys[i]:=d8 (by left)
   rw[e,hys i _ e,uba hi];rfl
  ·rw[v7 (by left),v7 (by rw[l7];left)];rfl
theorem zU (T:Bi mg)(D:DefOk K mg "whole" s_whole ["web"]):‹1› "whole" ["web"] (spWhole K):=by
 exists 0,sc_whole
 obtain⟨n,ts,v,rfl,hw,few60,q⟩:=h
 obtain⟨g0,g,ws,rfl,hg0,hg,hall,hlw⟩:=bU hw
 refine⟨_,(aG (aR (aY (sV rfl) rfl T.z_tuple (by symm) (aA (aY fM rfl T.z_range (by symm) (aA (aX cM rfl T.z_len (by symm) (aA (aE aU (pv 0) aC (λ _ _=>rfl)) aB)) aB)) aB)))),?_⟩
 refine⟨_,rfl,g0,_,_,_,rfl,rfl,SqT.of hg0,rfl,g,_,rfl,.inr (SqT.of hg),_,rfl,λ r hr'=>?_⟩
 refine⟨r,_,rfl,aH,by left,by left,λ l H' S f e=>q l H' ((aQ hr').trans S) ((aQ (o:=.rng 0 _) hr').free f) ?_⟩
 rw[e,show ((ws.length:Nat):Int).toNat=ts.length by left]
theorem tH (T:Bi mg)(D:DefOk K mg "tree_from" s_tree_from ["web","keep","root"])(O_reached_from:‹2› "reached_from" ["web","keep","root"] (spReachedB K)):‹3› "tree_from" ["web","keep","root"] (spTreeB K):=by
 exists 2,sc_tree_from
 obtain⟨n,ts,ks,wv,kv,r,rfl,wk,r0,r1,q⟩:=h
 refine⟨_,(aD (bX (aO O_reached_from hr rfl (aA (pv 0) (aA (pv 1) (aA (pv 2) aB)))) (cC (n:=2) rfl (aS (aJ (i:=3) nd rfl (k8 rfl)) (aS (aJ (i:=4) nd rfl (k8 rfl)) bM)))) (aG (aR (aY cI rfl T.z_tuple (by symm) (aA (pv 4) aB))))),?_⟩
 refine⟨_,rfl,_,rfl,_,rfl,n,ts,ks,wv,kv,r,rfl,wk,r0,r1,λ p lc la cvs as cs J S ep ec ea cl G=>?_⟩
 refine⟨p,_,rfl,SqT.of ep,rfl,_,_,rfl,_,_,rfl,rfl,?_⟩
 exact⟨_,rfl,la,_,rfl,ea,λ t J2 S2 f2 e2=>q t as cs J2 (S.trans S2) e2 G⟩
theorem oV {ws:List V}{x:V}:atI (ws++[x]) (-1)=some x:=by
 unfold atI ixN
 rw[uhd (by decide),uhc (by rw[i9,u5];left)]
 show (ws++[x])[(-1+((ws++[x]).length:Int)).toNat]?=some x
 rw[i9,u5,show (-1+((ws.length+1:Nat):Int)).toNat=ws.length by left]
 simp
theorem uX (T:Bi mg)(D:DefOk K mg "the_way" s_the_way ["web","keep","a","b"])(O_tree_from:‹3› "tree_from" ["web","keep","root"] (spTreeB K)):‹4› "the_way" ["web","keep","a","b"] (spWayB K):=by
 exists 3,sc_the_way
 obtain⟨n,ts,ks,wv,kv,a,b,rfl,wk,a0,a1,b0,b1,q⟩:=h
 have n24:=wk.2.1.n24
 have KB:=gL wk.2.1 wk.2.2.2
 refine⟨_,(aD (aN (i:=4) nd rfl (k8 rfl) (aO O_tree_from hr rfl (aA (pv 0) (aA (pv 1) (aA (pv 3) aB))))) (aD (aN (i:=5) nd rfl (k8 rfl) (bJ (aA (pv 2) aB))) (aD (jG PassesOwn.never (aT fJ (aE aV (pv 5) (dX dQ aC) (λ _ _=>rfl)) (pv 3) (nomark _)) (aD (bH (aT fI (aE aU (pv 4) (aE aV (pv 5) (dX dQ aC) (λ _ _=>rfl)) (λ _ _=>rfl)) bT (nomark _)) (aG (aR bT)) bG) (aG (bW (bY v4 uab uaa cJ (pv 5) (aA (aE aU (pv 4) (aE aV (pv 5) (dX dQ aC) (λ _ _=>rfl)) (λ _ _=>rfl)) aB)))))) (aG (aR (aY cI rfl T.z_tuple (by symm) (aA (pv 5) aB))))))),?_⟩
 refine⟨_,rfl,_,rfl,_,rfl,n,ts,ks,wv,kv,b,rfl,wk,b0,b1,λ p as cs J S ep G=>?_⟩
 refine⟨_,rfl,(by show 1<=1000;decide),λ lw J1 S1 f1 e1=>?_⟩
 have lA:=G.alen
 have ep1:=S1 _ _ ep
 have fw:H lw=none:=S.free f1
 have nlp:p≠lw:=λ z=>by rw[z,f1] at ep;cases ep
 refine⟨λ m σ J2=>∃ (pre:List Nat)(c:Nat),σ=[some wv,some kv,some (.int a),some (.int b),some (.ref p),some (.ref lw)]/\Same H J2/\J2 p=some (.tup (as.map oa))/\J2 lw=some (.lst (natV (pre++[c])))/\c<n.toNat /\
  ((pre=[]/\c=a.toNat/\Far.get cs c=none/\m=0)\/∃ ca cc,Far.get cs a.toNat=some ca/\Far.get cs c=some cc/\(∀ P,Far.TPw as b.toNat P c->Far.TPw as b.toNat (P++pre.reverse) a.toNat)/\pre.length+1<=Far.beyond n.toNat cs cc.1/\m=cc.1.toNat),?_,?_⟩
 ·have e1':J1 lw=some (.lst (natV ([]++[a.toNat]))):=by rw[e1];show some (HO.lst [V.int a])=some (HO.lst [V.int ((a.toNat:Nat):Int)]);rw[uar a0]
  cases e:Far.get cs a.toNat with
  | none=>exact⟨0,[],a.toNat,rfl,S.trans S1,ep1,e1',by left,.inl ⟨rfl,rfl,e,rfl⟩⟩
  | some ca=>exact⟨_,[],a.toNat,rfl,S.trans S1,ep1,e1',by left,.inr ⟨ca,ca,rfl,e,λ P t=>by rw[List.reverse_nil,ubi];exact t,Far.wI (by left) e,rfl⟩⟩
 rintro m σ J2 ⟨pre,c,rfl,sm,hp,hw,hc,inv⟩
 have lastV:atI (natV (pre++[c])) (-1)=some (.int (c:Int)):=by
  unfold natV;rw[ua8];exact oV
 have hat:atI (as.map oa) (c:Int)=some (oa (Far.get as c)):=aZ (m8 _) (by rw[u4];exact zcy (by left))
 refine⟨_,rfl,_,rfl,lw,_,_,_,rfl,rfl,SqL.of hw,lastV,_,rfl,rfl,_,rfl,?_⟩
 by_cases cb:c=b.toNat
 ·refine iteNS (by rw[cb,uar b0]) ?_
  refine⟨_,rfl,lw,_,rfl,hw,λ t J3 S3 f3 e3=>q _ J3 (sm.trans S3) ⟨cs,as,G,.inr ?_⟩⟩
  rcases inv with ⟨_,_,ec,_⟩ | ⟨ca,cc,e1',e2',tp,hl,_⟩
  ·rw[cb,G.start] at ec;cases ec
  ·have:=Far.nI n.toNat cs cc.1
   refine⟨t,pre++[c],ca,rfl,e3,by rw[i9,u5];left,e1',?_⟩
   rw[ud3]
   have:=tp [b.toNat] (by rw[cb];exact .root)
   rw[cb];exact this
 ·have ne:decide (V.int (c:Int)=V.int b)=false:=uha λ z=>cb (by injection z with z;left)
  rw[ne]
  refine iteT ⟨λ σ' J'=>∃ m',m'<m/\∃ (pre:List Nat)(c:Nat),σ'=[some wv,some kv,some (.int a),some (.int b),some (.ref p),some (.ref lw)]/\Same H J'/\J' p=some (.tup (as.map oa))/\J' lw=some (.lst (natV (pre++[c])))/\c<n.toNat /\
   ((pre=[]/\c=a.toNat/\Far.get cs c=none/\m'=0)\/∃ ca cc,Far.get cs a.toNat=some ca/\Far.get cs c=some cc/\(∀ P,Far.TPw as b.toNat P c->Far.TPw as b.toNat (P++pre.reverse) a.toNat)/\pre.length+1<=Far.beyond n.toNat cs cc.1/\m'=cc.1.toNat),λ _ _ h=>h,?_⟩
  refine⟨_,rfl,_,rfl,_,rfl,lw,_,_,_,rfl,rfl,SqL.of hw,lastV,p,_,_,_,rfl,rfl,SqT.of hp,hat,rfl,_,rfl,?_⟩
  cases ea:Far.get as c with
  | none =>
   refine iteT (q _ _ sm ⟨cs,as,G,.inl ⟨rfl,?_⟩⟩)
   rcases inv with ⟨_,ec,e2',_⟩ | ⟨ca,cc,_,e2',_⟩
   ·rw[← ec];exact e2'
   ·exact absurd ea (G.has c cc e2' cb)
  | some u =>
   obtain⟨l,k,cu,mm,e1',e2'⟩:=G.arc _ _ ea
   rw[ea] at hat
   rcases inv with ⟨_,_,ec,_⟩ | ⟨ca,cc,e3',e4',tp,hl,rfl⟩
   ·rw[ec] at e2';cases e2'
   ·have ecc:cc=(cu.1+l,cu.2+2^k):=u7 (e4'.symm.trans e2')
    have l1:=KB.pos _ _ _ _ mm
    have cu0:=G.nn _ _ e1'
    have hu:=(zas wk.2.1 wk.2.2.2 mm).1
    have c1:cc.1=cu.1+l:=by rw[ecc]
    have bl:=Far.yP hu e1' (show cu.1<cc.1 by left)
    have ble:=Far.nI n.toNat cs cu.1
    have lenW:(natV (pre++[c])).length=pre.length+1:=by unfold natV;rw[c9,i9,u5]
    refine iteF ⟨_,rfl,.inl ⟨rfl,_,SqL.of hw⟩,_,rfl,_,rfl,_,rfl,lw,_,_,_,rfl,rfl,SqL.of hw,lastV,p,_,_,_,rfl,rfl,SqT.of hp,hat,lw,_,_,rfl,rfl,hw,by left,λ J3 b3 e3=>?_⟩
    refine⟨cu.1.toNat,by left,pre++[c],u,rfl,λ c o z=>b3 _ _ (aP z fw) (sm _ _ z),b3 _ _ nlp hp,?_,hu,.inr ⟨ca,cu,e3',e1',λ P t=>?_,by rw[i9,u5];left,rfl⟩⟩
    ·rw[e3];unfold natV;rw[ua8 (l₂:=[u])];rfl
    ·have:=tp (P++[c]) (.step ea t)
     rw[ud3]
     rw[ubp] at this
     exact this
theorem xP:LamScope "tie" "web" (lamScopeOf s_order_of):=⟨rfl,rfl,rfl,rfl,rfl,by symm,λ z h=>(show ∀ z∈(lamScopeOf s_order_of).names,z.2=NameKind.free->z.1=o8 "web" by symm) _ (ubk h) rfl,by decide⟩
theorem vA {c Pt:j9}(T:Bi mg)(D:DefOkC K mg "order_of" s_order_of ["web"] c)(L:LamHd mg base c Pt)(O_whole:‹3› "whole" ["web"] (spWhole K)):‹4› "order_of" ["web"] (spOrd K Pt (lamPosOf s_order_of)):=by
 refine zcj (k:=3) D sc_order_of (λ vs H Q E h=>?_) (λ f A outer s H vs Q E hr h=>?_)
 ·obtain⟨n,ts,v,rfl,_⟩:=h
  rfl
 obtain⟨n,ts,v,rfl,hw,ok,tb,q⟩:=h
 have nd:=sc_order_of.nd
 refine⟨_,(aG (aR (aY cI rfl T.z_tuple (by symm) (aA (zR (cy:=s.heap.objs.size+1) (x:="tie") (y:="web") (i:=0) L rfl hr rfl T.z_sorted (aA (aO O_whole hr rfl (aA (pv 0) aB)) aB) xP rfl rfl rfl rfl (λ _ _ _ _=>rfl) (λ _ _ _ _ _=>bN (aA (aE (jS (K:=K) rfl) (aE (jS (K:=K) rfl) (aE (jS (K:=K) rfl) (pv 1) aC (λ _ _=>rfl)) (pv 0) (λ _ _=>rfl)) aC (λ _ _=>rfl)) (aA (pv 0) aB)))) aB)))),?_⟩
 have few60:=ok.few
 refine⟨_,rfl,n,ts,v,rfl,hw,few60,λ l J S fr e=>?_⟩
 obtain⟨g0,g,ws,rfl,hg0,hg,hall,hlw⟩:=bU hw
 have len:(natV (c7 ts.length)).length=ts.length:=by unfold natV;rw[c9,l7]
 refine⟨l,_,(c7 ts.length).map (okey ts),.ref g0,rfl,e,by left,by rw[c9,l7,len],λ k hk=>?_,rfl,tb.same S,λ j x k hx hk H2 b2=>?_,λ qs pq wq l2 J2 b2 tb2 sm2 f2 e2=>?_⟩
 ·obtain⟨i,_,rfl⟩:=y2.mp hk
  exact λ z=>by cases z
 ·obtain⟨i,hi,rfl⟩:=bK hx
  have hj:j<ts.length:=by have:=(m9.mp hi).1;rw[l7] at this;exact this
  rw[uba hj] at hi;cases hi
  rw[k0,uba hj] at hk;cases hk
  obtain⟨ta,hta,htie⟩:=bV hall hj
  have nt:∀ {b:j9}{xs:List V},J b=some (.tup xs)->H2 b=some (.tup xs):=λ e=>b2 _ _ (λ z=>by
   obtain⟨ps,e',_⟩:=tb.same S
   rw[z,e'] at e;cases e) e
  refine⟨_,rfl,g0,_,_,_,rfl,rfl,SqT.of (nt (S _ _ hg0)),rfl,_,rfl,g,_,_,_,rfl,rfl,SqT.of (nt (S _ _ hg)),aZ (m8 _) hta,ta,_,_,_,rfl,rfl,SqT.of (nt (S _ _ htie)),rfl,_,rfl,(by show 2<=1000;decide),λ t J3 S3 f3 e3=>⟨S3,t,rfl,e3⟩⟩
 ·refine⟨l2,_,rfl,e2,λ l3 J3 S3 f3 e3=>q l3 _ J3 (zcb pq wq) ((Same.but S).trans (b2.trans (Same.but S3))) (tb2.same S3) (λ z=>S.trans ((sm2 (z.same S)).trans S3)) (S.free ?_) ?_⟩
  ·cases e4:J l3 with
   | none=>rfl
   | some o =>
    by_cases z:l3=Pt
    ·obtain⟨ps,e5,_⟩:=tb2
     rw[z,e5] at f3;cases f3
    ·rw[b2 _ _ z e4] at f3;cases f3
  ·rw[e3];exact congrArg (λ z=>some (HO.tup z)) (zT pq)
theorem uY (T:Bi mg)(D:DefOk K mg "ringless" s_ringless ["web","ties"]):‹1› "ringless" ["web","ties"] (spRingless K):=by
 exists 0,sc_ringless
 obtain⟨n,ts,os,wv,o,rfl,hw,ok,hos,l60,ho,q⟩:=h
 have n1:=ok.n1
 have n24:=ok.n24
 obtain⟨g0,g,ws,rfl,hg0,hg,hall,hlw⟩:=bU hw
 refine⟨_,(aD (aN (i:=2) nd rfl (k8 rfl) (aY (gH rfl) rfl T.z_list (by symm) (aA (aY fM rfl T.z_range (by symm) (aA (aE aU (pv 0) aC (λ _ _=>rfl)) aB)) aB))) (aD (aN (i:=3) nd rfl (k8 rfl) (bJ aB)) (aD (bP PassesOwn.never rfl (cP (pv 1)) (aJ (i:=4) nd rfl (k8 rfl)) (aD (bX (aE aU (aE aU (pv 0) aC (λ _ _=>rfl)) (pv 4) (λ _ _=>rfl)) (cC (n:=3) rfl (aS (aJ (i:=5) nd rfl (k8 rfl)) (aS (aJ (i:=6) nd rfl (k8 rfl)) (aS (aJ (i:=7) nd rfl (k8 rfl)) bM))))) (aD (aN (i:=8) nd rfl (ue1 rfl) (aE aV (pv 2) (pv 5) (λ _ _=>rfl))) (aD (aN (i:=9) nd rfl (ue1 rfl) (aE aV (pv 2) (pv 6) (λ _ _=>rfl))) (aG (bH (aT fJ (pv 8) (pv 9) (nomark _)) (aD (dZ (i:=2) (N:=["web","ties","marks","told","tie","a","b","length","one","other"]) (sc0:=defScope s_ringless) (own:=["mark"]) (fr:=["other","one"]) (js:=[9,8]) rfl (bR (pv 2)) (λ _ _ _ _=>(aJ (i:=0) (by show uap [("mark":Str),("other":Str),("one":Str)];decide +kernel) rfl (k8 rfl))) (λ _ _ _ _=>cG) (λ _ _ _ _=>(jI (aT bL (pv 0) (pv 1) (nomark _)) (pv 2) (pv 0))) nd rfl (k8 rfl)) (aG (bW (bY v4 uab uaa cJ (pv 3) (aA (pv 4) aB))))) bG)))))) (aG (aR (pv 3)))))),?_⟩
 refine⟨_,rfl,g0,_,_,_,rfl,rfl,SqT.of hg0,rfl,_,rfl,λ r hr'=>⟨r,n,rfl,aH,by left,by left,λ lm hlm=>?_⟩⟩
 have S1:Same H (upd H r (.rng 0 n)):=aQ hr'
 have S2:Same (upd H r (.rng 0 n)) (upd (upd H r (.rng 0 n)) lm (.lst ((c7 n.toNat).map λ i:Nat=>V.int (i:Int)))):=aQ hlm
 have e2:upd (upd H r (.rng 0 n)) lm (.lst ((c7 n.toNat).map λ i:Nat=>V.int (i:Int))) lm=some (.lst (natV (c7 n.toNat))):=aH
 generalize upd (upd H r (.rng 0 n)) lm (.lst ((c7 n.toNat).map λ i:Nat=>V.int (i:Int)))=J2 at S2 e2
 refine⟨(by show 0<=1000;decide),λ lt J3 S3 f3 e3=>?_⟩
 have S03:=S1.trans (S2.trans S3)
 have fl:H lt=none:=(S1.trans S2).free f3
 have nlm:lm≠lt:=λ z=>by rw[← z,e2] at f3;cases f3
 refine⟨_,rfl,o,rfl,⟨_,SqT.of (S03 _ _ ho)⟩,?_⟩
 have len:(natV os).length=os.length:=by unfold natV;rw[c9]
 refine iB (xs:=natV os) (λ i σ J=>∃ (lm:j9)(M tl:List Nat)(y4 y5 y6 y7 y8 y9:Option V),σ=[some (.ref g0),some (.ref o),some (.ref lm),some (.ref lt),y4,y5,y6,y7,y8,y9]/\Same H J/\lm≠lt/\J lm=some (.lst (natV M))/\J lt=some (.lst (natV tl))/\tl.length<=i/\Frs.Mk n.toNat ((os.take i).map (t2 ts)) M/\tl++rgN ts (os.take i) (os.drop i)=rgN ts [] os) ⟨lm,_,[],none,none,none,none,none,none,rfl,S03,nlm,S3 _ _ e2,e3,w8 _,Frs.Mk.first,rfl⟩ (λ i σ J _ h=>?_) (λ i x σ J hx h=>?_) (λ σ J h=>?_)
 ·obtain⟨lm,M,tl,y4,y5,y6,y7,y8,y9,rfl,sm,_⟩:=h
  exact SqT.of (sm _ _ ho)
 ·obtain⟨lm,M,tl,y4,y5,y6,y7,y8,y9,rfl,sm,nlm,hM,hT,ltl,mk,er⟩:=h
  obtain⟨k,hk,rfl⟩:=bK hx
  have hi:=m9.mp hk
  have hkl:k<ts.length:=hos k (u6 hk)
  obtain⟨ta,hta,htie⟩:=bV hall hkl
  have tk:=ok.tie _ (bI hkl).2
  obtain⟨t,et⟩:∃ t,t=tieAt ts k:=⟨_,rfl⟩
  rw[← et] at htie tk
  have lM:=mk.1
  have il:i<os.length:=hi.1
  have ha:t.1.toNat<n.toNat:=rM tk
  have hb:t.2.1.toNat<n.toNat:=rL tk
  have ed:os.drop i=k::os.drop (i+1):=by rw[uee hi.1,hi.2]
  have et2:t2 ts k=(t.1.toNat,t.2.1.toNat):=by unfold t2;rw[← et]
  have tn:os.take (i+1)=os.take i++[k]:=eI hk
  have mE:(os.take (i+1)).map (t2 ts)=(os.take i).map (t2 ts)++[(t.1.toNat,t.2.1.toNat)]:=by rw[tn,ua8,List.map_singleton,et2]
  refine⟨_,rfl,g0,_,_,_,rfl,rfl,SqT.of (sm _ _ hg0),rfl,_,rfl,g,_,_,_,rfl,rfl,SqT.of (sm _ _ hg),aZ (m8 _) hta,ta,_,rfl,SqT.of (sm _ _ htie),rfl,_,_,rfl,_,_,rfl,_,_,rfl,rfl,?_⟩
  refine⟨_,rfl,_,rfl,lm,_,_,_,rfl,rfl,SqL.of hM,cZ tk.1 (by rw[lM];exact ha),?_⟩
  refine⟨_,rfl,_,rfl,lm,_,_,_,rfl,rfl,SqL.of hM,cZ (rO tk) (by rw[lM];exact hb),?_⟩
  refine⟨_,rfl,_,rfl,rfl,_,rfl,?_⟩
  rw[dB]
  by_cases c:M.getD t.1.toNat 0=M.getD t.2.1.toNat 0
  ·refine iteNS c ⟨lm,M,tl,_,_,_,_,_,_,rfl,sm,nlm,hM,hT,by left,by rw[mE];exact mk.same ha hb c,?_⟩
   rw[← er,ed,tn]
   have cB:cnB ts (os.take i) k=true:=cnB_iff.mpr (by rw[et2];exact (mk.2 _ _ ha hb).mp c)
   show _=tl++(if cnB ts (os.take i) k=true then _ else _)
   rw[uhc cB]
  ·rw[uha c]
   refine iteT ?_
   refine⟨_,rfl,lm,rfl,⟨_,SqL.of hM⟩,?_⟩
   have lnM:(natV M).length=n.toNat:=by unfold natV;rw[c9];exact lM
   refine eS hM (λ σ'=>∃ o,σ'=[o,some (.int ((M.getD t.2.1.toNat 0:Nat):Int)),some (.int ((M.getD t.1.toNat 0:Nat):Int))]) (λ i v _=>v=.int (((if M.getD i 0=M.getD t.2.1.toNat 0 then M.getD t.1.toNat 0 else M.getD i 0:Nat)):Int)) (by left) (by exact⟨none,rfl⟩) (λ _ _ _ _ _ h=>h) (λ i2 x2 σ' H' hx2 s4 sg C hC=>?_) (λ L zs J4 hL S4 hH hly hys=>?_)
   ·obtain⟨o2,rfl⟩:=sg
    obtain⟨m,hm,rfl⟩:=bK hx2
    have em:M.getD i2 0=m:=by rw[g9,hm];rfl
    rw[em] at hC
    refine⟨_,rfl,_,rfl,rfl,_,rfl,?_⟩
    rw[dB]
    refine ite2 (λ c2=>⟨_,rfl,hC _ _ _ ⟨_,rfl⟩ (Same.refl _) ?_⟩) (λ c2=>⟨_,rfl,hC _ _ _ ⟨_,rfl⟩ (Same.refl _) ?_⟩)
    ·rw[uhc (ug9 c2)]
    ·rw[uhd (uhb (ucq.mpr c2))]
   have ez:zs=natV (Frs.join M (M.getD t.1.toNat 0) (M.getD t.2.1.toNat 0)):=by
    have lj:(natV (Frs.join M (M.getD t.1.toNat 0) (M.getD t.2.1.toNat 0))).length=n.toNat:=by unfold natV Frs.join;rw[c9,c9];exact lM
    refine uc5 (by left) λ j h1 h2=>?_
    have:=hys j _ (d8 h1)
    rw[this]
    have hj:j<M.length:=by left
    have e:=cZ (M:=Frs.join M (M.getD t.1.toNat 0) (M.getD t.2.1.toNat 0)) (i:=(j:Int)) (m8 _) (by unfold Frs.join;rw[c9];simpa using hj)
    rw[u4,Frs.join_at hj] at e
    have e2:(natV (Frs.join M (M.getD t.1.toNat 0) (M.getD t.2.1.toNat 0)))[j]?=some (natV (Frs.join M (M.getD t.1.toNat 0) (M.getD t.2.1.toNat 0)))[j]:=d8 h2
    have e3:=aZ (i:=(j:Int)) (m8 _) (by rw[u4];exact e2)
    rw[e] at e3
    exact (u7 e3)
   rw[ez] at hH
   have hT4:=S4 _ _ hT
   have nL:L≠lt:=λ z=>by rw[z,hT] at hL;cases hL
   have ltv:(natV tl).length=tl.length:=by unfold natV;rw[c9]
   refine⟨_,rfl,.inl ⟨rfl,_,SqL.of hT4⟩,_,rfl,lt,_,_,rfl,rfl,hT4,by left,λ J5 b5 e5=>?_⟩
   refine⟨L,_,tl++[k],_,_,_,_,_,_,rfl,λ b o' e=>b5 _ _ (aP e fl) ((sm.trans S4) _ _ e),nL,b5 _ _ nL hH,by rw[e5];unfold natV;rw[ua8];rfl,by rw[i9,u5];left,by rw[mE];exact mk.join ha hb c,?_⟩
   rw[← er,ed,tn]
   have cB:¬ cnB ts (os.take i) k=true:=λ z=>c ((mk.2 _ _ ha hb).mpr (by have:=cnB_iff.mp z;rw[et2] at this;exact this))
   show _=tl++(if cnB ts (os.take i) k=true then _ else _)
   rw[uhd cB,ubp];rfl
 ·obtain⟨lm,M,tl,y4,y5,y6,y7,y8,y9,rfl,sm,nlm,hM,hT,ltl,mk,er⟩:=h
  refine⟨_,rfl,q lt J sm fl ?_⟩
  rw[len,List.drop_length,ua1] at er
  rw[hT,← er]
  show some (HO.lst (natV tl))=some (HO.lst (natV (tl++[])))
  rw[ubi]
theorem rZ {Pt:j9}(T:Bi mg)(D:DefOk K mg "least_forest" s_least_forest ["web"])(O_order_of:‹4› "order_of" ["web"] (spOrd K Pt (lamPosOf s_order_of)))(O_ringless:‹4› "ringless" ["web","ties"] (spRingless K)):‹5› "least_forest" ["web"] (spForest K Pt (lamPosOf s_order_of)):=by
 exists 4,sc_least_forest
 obtain⟨n,ts,v,rfl,hw,ok,tb,q⟩:=h
 have few60:=ok.few
 refine⟨_,(aG (aR (aY cI rfl T.z_tuple (by symm) (aA (aX iM rfl T.z_sorted (by symm) (aA (aO O_ringless hr rfl (aA (pv 0) (aA (aO O_order_of hr rfl (aA (pv 0) aB)) aB))) aB)) aB)))),?_⟩
 refine⟨_,rfl,_,rfl,n,ts,v,rfl,hw,ok,tb,λ lo os J1 ord b1 tb1 sm1 f1 e1=>?_⟩
 have hw1:Is K J1 (webD n ts) v:=oE b1 tb _ (eV n ts) hw
 have lo60:os.length<=60:=by rw[ord.1.length_eq,l7];exact few60
 refine⟨n,ts,os,v,lo,rfl,hw1,ok,λ k hk=>j4.mp (ord.1.mem_iff.mp hk),lo60,e1,λ lr J2 S2 f2 e2=>?_⟩
 have e2':J2 lr=some (.lst ((keepI (rgN ts [] os)).map V.int)):=by rw[← bZ];exact e2
 have lr60:(rgN ts [] os).length<=60:=uas rg_sub.length_le lo60
 refine⟨lr,_,rfl,SqL.of e2',by unfold keepI;rw[c9];left,λ ms pm pw l3 f3=>?_⟩
 rw[kW ord pm pw]
 refine⟨l3,_,rfl,aH,λ l4 J4 S4 f4 e4=>?_⟩
 have S24:=(aQ (o:=.lst ((keepI (forestN ts)).map V.int)) f3).trans S4
 have B:But Pt H J4:=b1.trans (Same.but (S2.trans S24))
 refine q l4 J4 B ((tb1.same S2).same S24) (λ z=>(sm1 z).trans (S2.trans S24)) ?_ (by rw[e4,bZ])
 cases e5:H l4 with
 | none=>rfl
 | some u =>
  by_cases z:l4=Pt
  ·obtain⟨ps,e6,_⟩:=(tb1.same S2).same (aQ (o:=.lst ((keepI (forestN ts)).map V.int)) f3)
   rw[z,e6] at f4;cases f4
  ·have:=aQ (o:=.lst ((keepI (forestN ts)).map V.int)) f3 _ _ (S2 _ _ (b1 _ _ z e5))
   rw[this] at f4;cases f4
theorem kE (f:Nat->Option Nat):∀ ks:List Nat,ks.filterMap (λ k=>(f k).map λ v:Nat=>V.int (v:Int))=natV (ks.filterMap f)
 | []=>rfl
 | k::r=>by
  rw[ub6,ub6,kE f r]
  cases f k <;> rfl
theorem tK (T:Bi mg)(D:DefOk K mg "neighbours" s_neighbours ["web","keep","place"]):‹1› "neighbours" ["web","keep","place"] (spNeigh K):=by
 exists 0,sc_neighbours
 obtain⟨n,ts,ks,wv,kv,p,rfl,wk,q⟩:=h
 have ok:=wk.2.1
 have ko:=wk.2.2.2
 have few60:=ok.few
 have lks:=ko.len
 obtain⟨g0,g,ws,rfl,hg0,hg,hall,hlw⟩:=bU wk.1
 obtain⟨kp,rfl,hkp⟩:=iS wk.2.2.1
 have len:((keepI ks).map V.int).length=ks.length:=by unfold keepI;rw[c9,c9]
 refine⟨_,(aD (dZ (i:=3) (N:=["web","keep","place","ties"]) (sc0:=defScope s_neighbours) (own:=["tie"]) (fr:=["web"]) (js:=[0]) rfl (cP (pv 1)) (λ _ _ _ _=>(aJ (i:=0) (by show uap [("tie":Str),("web":Str)];decide +kernel) rfl (k8 rfl))) (λ _ _ _ _=>cG) (λ _ _ _ _=>(aE bO (aE bO (pv 1) aC (λ _ _=>rfl)) (pv 0) (λ _ _=>rfl))) nd rfl (k8 rfl)) (aG (aR (aK fD (cF (N:=["web","keep","place","ties"]) (sc0:=defScope s_neighbours) (own:=["a","b","length"]) (fr:=["place"]) (js:=[2]) rfl (bR (pv 3)) (λ _ _ _ _=>(eZ (n:=3) rfl (aS (aJ (i:=0) (by show uap [("a":Str),("b":Str),("length":Str),("place":Str)];decide +kernel) rfl (k8 rfl)) (aS (aJ (i:=1) (by show uap [("a":Str),("b":Str),("length":Str),("place":Str)];decide +kernel) rfl (k8 rfl)) (aS (aJ (i:=2) (by show uap [("a":Str),("b":Str),("length":Str),("place":Str)];decide +kernel) rfl (k8 rfl)) bM))))) (λ _ _ _ _=>(dM (aT bL (pv 0) (pv 3) (nomark _)))) (λ _ _ _ _=>(pv 1))) (cF (N:=["web","keep","place","ties"]) (sc0:=defScope s_neighbours) (own:=["a","b","length"]) (fr:=["place"]) (js:=[2]) rfl (bR (pv 3)) (λ _ _ _ _=>(eZ (n:=3) rfl (aS (aJ (i:=0) (by show uap [("a":Str),("b":Str),("length":Str),("place":Str)];decide +kernel) rfl (k8 rfl)) (aS (aJ (i:=1) (by show uap [("a":Str),("b":Str),("length":Str),("place":Str)];decide +kernel) rfl (k8 rfl)) (aS (aJ (i:=2) (by show uap [("a":Str),("b":Str),("length":Str),("place":Str)];decide +kernel) rfl (k8 rfl)) bM))))) (λ _ _ _ _=>(dM (aT bL (pv 1) (pv 3) (nomark _)))) (λ _ _ _ _=>(pv 0))))))),?_⟩
 refine⟨_,rfl,kp,rfl,⟨_,SqT.of hkp⟩,?_⟩
 refine jN hkp (λ σ'=>∃ o,σ'=[o,some (.ref g0)]) (λ i v J=>∃ t k,ks[i]?=some k/\v=.ref t/\J t=some (.tup [.int (tieAt ts k).1,.int (tieAt ts k).2.1,.int (tieAt ts k).2.2])) (by left) (by exact⟨none,rfl⟩) (λ i v H H' tk ⟨t,k,h0,h1,h2⟩=>⟨t,k,h0,h1,tk _ _ h2⟩) (λ i x σ' H' hx s2 sg C hC=>?_) (λ L ys H2 hL s2 hH hly hys=>?_)
 ·obtain⟨o,rfl⟩:=sg
  obtain⟨k,hk,rfl⟩:=hX hx
  have hkl:k<ts.length:=ko.2 k (u6 hk)
  obtain⟨ta,hta,htie⟩:=bV hall hkl
  exact⟨_,rfl,g0,_,_,_,rfl,rfl,SqT.of (s2 _ _ hg0),rfl,_,rfl,g,_,_,_,rfl,rfl,SqT.of (s2 _ _ hg),aZ (m8 _) hta,hC _ _ _ ⟨_,rfl⟩ (Same.refl _) ⟨ta,k,hk,rfl,s2 _ _ htie⟩⟩
 have half:∀ (J:Hp)(i:Nat)(x:V),Same H2 J->ys[i]?=some x->∃ t k,ks.getD i 0=k/\k<ts.length/\x=.ref t/\J t=some (.tup [.int (tieAt ts k).1,.int (tieAt ts k).2.1,.int (tieAt ts k).2.2]):=λ J i x S hx=>by
  obtain⟨t,k,h0,h1,h2⟩:=hys i x hx
  exact⟨t,k,by rw[g9,h0];rfl,ko.2 k (u6 h0),h1,S _ _ h2⟩
 refine⟨_,rfl,L,rfl,⟨_,SqL.of hH⟩,?_⟩
 refine iZ hH (λ σ'=>∃ o1 o2 o3,σ'=[o1,o2,o3,some (.int p)]) (λ i=>(nb1 ts p (ks.getD i 0)).map λ v:Nat=>V.int (v:Int)) (by left) (by exact⟨none,none,none,rfl⟩) (λ i x σ' H' hx s3 sg C M hC hM=>?_) (λ L3 H3 hL3 s3 hH3=>?_)
 ·obtain⟨o1,o2,o3,rfl⟩:=sg
  obtain⟨t,k,ek,hkl,rfl,ht⟩:=half H' i x s3 hx
  have tk:=ok.tie _ (bI hkl).2
  refine⟨t,_,rfl,SqT.of ht,rfl,_,_,rfl,_,_,rfl,_,_,rfl,rfl,?_⟩
  refine⟨_,rfl,_,rfl,rfl,_,rfl,?_⟩
  rw[ek] at hC hM
  by_cases z:(tieAt ts k).1=p
  ·rw[ug8 (by rw[z])]
   refine iteT ⟨_,rfl,hC _ _ _ ⟨_,_,_,rfl⟩ (Same.refl _) ?_⟩
   unfold nb1;rw[uhc z]
   show some (V.int _)=some (V.int _)
   rw[uar (by left)]
  ·rw[uha λ e=>z (by injection e)]
   refine iteF (hM _ _ ⟨_,_,_,rfl⟩ (Same.refl _) ?_)
   unfold nb1;rw[uhd z];rfl
 refine⟨_,rfl,L,rfl,⟨_,SqL.of (s3 _ _ hH)⟩,?_⟩
 refine iZ (s3 _ _ hH) (λ σ'=>∃ o1 o2 o3,σ'=[o1,o2,o3,some (.int p)]) (λ i=>(nb2 ts p (ks.getD i 0)).map λ v:Nat=>V.int (v:Int)) (by left) (by exact⟨none,none,none,rfl⟩) (λ i x σ' H' hx s4 sg C M hC hM=>?_) (λ L4 H4 hL4 s4 hH4=>?_)
 ·obtain⟨o1,o2,o3,rfl⟩:=sg
  obtain⟨t,k,ek,hkl,rfl,ht⟩:=half H' i x (s3.trans s4) hx
  have tk:=ok.tie _ (bI hkl).2
  refine⟨t,_,rfl,SqT.of ht,rfl,_,_,rfl,_,_,rfl,_,_,rfl,rfl,?_⟩
  refine⟨_,rfl,_,rfl,rfl,_,rfl,?_⟩
  rw[ek] at hC hM
  by_cases z:(tieAt ts k).2.1=p
  ·rw[ug8 (by rw[z])]
   refine iteT ⟨_,rfl,hC _ _ _ ⟨_,_,_,rfl⟩ (Same.refl _) ?_⟩
   unfold nb2;rw[uhc z]
   show some (V.int _)=some (V.int _)
   rw[uar (by left)]
  ·rw[uha λ e=>z (by injection e)]
   refine iteF (hM _ _ ⟨_,_,_,rfl⟩ (Same.refl _) ?_)
   unfold nb2;rw[uhd z];rfl
 have ly:ys.length=ks.length:=by rw[hly,len]
 rw[ly,mF (λ k=>(nb1 ts p k).map λ v:Nat=>V.int (v:Int)) 0,kE] at hH3
 rw[ly,mF (λ k=>(nb2 ts p k).map λ v:Nat=>V.int (v:Int)) 0,kE] at hH4
 have l1:(natV (ks.filterMap (nb1 ts p))).length<=ks.length:=by unfold natV;rw[c9];exact uco _ _
 have l2:(natV (ks.filterMap (nb2 ts p))).length<=ks.length:=by unfold natV;rw[c9];exact uco _ _
 refine⟨L3,L4,_,_,rfl,rfl,s4 _ _ hH3,hH4,by left,λ pp J S fr e=>q pp J (s2.trans (s3.trans (s4.trans S))) ((s2.trans (s3.trans s4)).free fr) ?_⟩
 rw[e];unfold nbN natV;rw[ua8]
theorem uZ (T:Bi mg)(D:DefOk K mg "piece_of" s_piece_of ["web","keep","place"])(O_fars_from:‹3› "fars_from" ["web","keep","root"] (spFars K)):‹4› "piece_of" ["web","keep","place"] (spPiece K):=by
 exists 3,sc_piece_of
 obtain⟨n,ts,ks,wv,kv,a,rfl,wk,a0,a1,q⟩:=h
 have n24:=wk.2.1.n24
 refine⟨_,(aG (aR (aY cI rfl T.z_tuple (by symm) (aA (cF (N:=["web","keep","place"]) (sc0:=defScope s_piece_of) (own:=["other","length"]) (fr:=[]) (js:=[]) rfl (pQ false rfl T.z_enumerate (aA (aO O_fars_from hr rfl (aA (pv 0) (aA (pv 1) (aA (pv 2) aB)))) aB)) (λ _ _ _ _=>(eZ (n:=2) rfl (aS (aJ (i:=0) (by show uap [("other":Str),("length":Str)];decide +kernel) rfl (k8 rfl)) (aS (aJ (i:=1) (by show uap [("other":Str),("length":Str)];decide +kernel) rfl (k8 rfl)) bM)))) (λ _ _ _ _=>(dM (aT hV (pv 1) bT (nomark _)))) (λ _ _ _ _=>(pv 0))) aB)))),?_⟩
 refine⟨_,rfl,_,rfl,_,rfl,n,ts,ks,wv,kv,a,rfl,wk,a0,a1,λ l DD J S f1 e1 lD hD=>?_⟩
 refine⟨l,rfl,⟨_,SqL.of e1⟩,?_⟩
 have lm:(DD.map ov).length=n.toNat:=by rw[c9];exact lD
 refine yJ (t:=false) e1 (λ σ'=>σ'.length=2) (λ i=>if Far.rB (arcs ts ks) a.toNat i=true then some (V.int (i:Int)) else none) (by left) (by rfl) (λ i x T' σ' H' hx s2 hT sg C L hC hL=>?_) (λ L H2 hL s2 hH=>?_)
 ·match σ',sg with
  | [o1,o2],_ =>
   have hi:i<DD.length:=by have:=(m9.mp hx).1;rw[c9] at this;exact this
   rw[dG hi] at hx
   cases hx
   have es:=(hD i (by left)).isSome
   refine⟨T',_,rfl,SqT.of aH,rfl,_,_,rfl,_,_,rfl,rfl,?_⟩
   refine⟨_,rfl,rfl,_,rfl,?_⟩
   cases e:Far.get DD i with
   | none=>rw[e] at es;exact iteF (hL _ _ rfl (aQ hT) (by rw[← es];rfl))
   | some x=>rw[e] at es;exact iteT ⟨_,rfl,hC _ _ _ rfl (aQ hT) (by rw[← es];rfl)⟩
 ·refine⟨L,_,rfl,hH,λ t J2 S2 f2 e2=>q t J2 (S.trans (s2.trans S2)) ?_⟩
  rw[e2,lm,fR];rfl
def newN (ts:List Tie)(ks:List Nat)(h:Nat)(sn:List Nat):List Nat:=(nbN ts ks (h:Int)).filter λ p=>!sn.contains p
def spFirst79 (K:c6):Sp:=λ vs H Q _=>∃ (n:Int)(ts:List Tie)(ks:List Nat)(wv kv:V)(h:Nat)(sa:j9)(sn:List Nat),vs=[wv,kv,.int (h:Int),.ref sa]/\WK K H n ts ks wv kv/\H sa=some (.lst (natV sn))/\sn.length<=1000/\(newN ts ks h sn=[]->∀ H',Same H H'->Q .non H')/\∀ (p:Nat) H',Same H H'->p∈newN ts ks h sn->(∀ j∈newN ts ks h sn,p<=j)->Q (.int (p:Int)) H'
theorem sM (T:Bi mg)(D:DefOk K mg "first_new" s_first_new ["web","forest","place","seen"])(O_neighbours:‹1› "neighbours" ["web","keep","place"] (spNeigh K)):‹2› "first_new" ["web","forest","place","seen"] (spFirst79 K):=by
 exists 1,sc_first_new
 obtain⟨n,ts,ks,wv,kv,h,sa,sn,rfl,wk,hsn,l1000,q0,q1⟩:=h
 refine⟨_,(aD (dZ (i:=4) (N:=["web","forest","place","seen","new"]) (sc0:=defScope s_first_new) (own:=["other"]) (fr:=["seen"]) (js:=[3]) rfl (bR (aO O_neighbours hr rfl (aA (pv 0) (aA (pv 1) (aA (pv 2) aB))))) (λ _ _ _ _=>(aJ (i:=0) (by show uap [("other":Str),("seen":Str)];decide +kernel) rfl (k8 rfl))) (λ _ _ _ _=>(dM (aT tF (pv 0) (pv 1) (by with_unfolding_all rfl)))) (λ _ _ _ _=>(pv 0)) nd rfl (k8 rfl)) (aG (aR (zbb rfl rfl T.z_min (aA (pv 4) aB) (zba bT zb6))))),?_⟩
 refine⟨_,rfl,_,rfl,_,rfl,n,ts,ks,wv,kv,_,rfl,wk,λ l J1 S1 f1 e1=>?_⟩
 have ln:(natV (nbN ts ks (h:Int))).length<=1000:=by
  have a:=uco (nb1 ts (h:Int)) ks
  have b:=uco (nb2 ts (h:Int)) ks
  have c:=wk.2.2.2.len
  have d:=wk.2.1.few
  unfold natV nbN;rw[c9,i9];left
 refine⟨l,rfl,⟨_,SqL.of e1⟩,?_⟩
 refine iZ e1 (λ σ'=>∃ o,σ'=[o,some (.ref sa)]) (λ i=>if (!sn.contains ((nbN ts ks (h:Int)).getD i 0))=true then some (V.int (((nbN ts ks (h:Int)).getD i 0:Nat):Int)) else none) ln ⟨none,rfl⟩ (λ i x σ' H' hx s2 sg C L hC hL=>?_) (λ L H2 hL s2 hH=>?_)
 ·obtain⟨o,rfl⟩:=sg
  obtain⟨j,hj,rfl⟩:=bK hx
  have ej:(nbN ts ks (h:Int)).getD i 0=j:=by rw[g9,hj];rfl
  rw[ej] at hC hL
  refine⟨_,rfl,_,rfl,sa,_,rfl,.inl (SqL.of (s2 _ _ (S1 _ _ hsn))),rfl,gU sn,_,rfl,?_⟩
  show if (!inV (V.int (j:Int)) (natV sn))=true then _ else _
  rw[jW (m8 _),u4]
  have ec:decide (j∈sn)=sn.contains j:=by rw[ubw]
  rw[ec]
  exact ite2 (λ c=>⟨_,rfl,hC _ _ _ ⟨_,rfl⟩ (Same.refl _) (by rw[uhc c])⟩) (λ c=>hL _ _ ⟨_,rfl⟩ (Same.refl _) (by rw[uhd c]))
 ·have lw:(natV (nbN ts ks (h:Int))).length=(nbN ts ks (h:Int)).length:=by unfold natV;rw[c9]
  rw[lw,jE (λ p=>!sn.contains p)] at hH
  have hH':H2 L=some (.lst ((keepI (newN ts ks h sn)).map V.int)):=by rw[hH,← bZ];rfl
  refine⟨_,rfl,L,keepI (newN ts ks h sn),.non,rfl,rfl,hH',λ z=>?_,λ b hb least=>?_⟩
  ·exact q0 (List.map_eq_nil_iff.mp z) H2 (S1.trans s2)
  ·obtain⟨p,hp,rfl⟩:=y2.mp hb
   exact q1 p H2 (S1.trans s2) hp λ j hj=>by
    have:=least (j:Int) (y2.mpr ⟨j,hj,rfl⟩)
    left
def spPut79 (K:c6):Sp:=λ vs H Q _=>∃ (n:Int)(ts:List Tie)(ks:List Nat)(wv kv:V)(r:Nat)(p q:Int)(es:List Dfs.Ev)(out:List Nat),vs=[wv,kv,.int (r:Int),.int p,.int q]/\WK K H n ts ks wv kv/\r<n.toNat/\(0<=p/\p<=10^9)/\(0<=q/\q<=10^9)/\Dfs.Run (tiedN ts ks) n.toNat [r] [r] es out/\∀ t pl H',Same H H'->H' t=some (.tup (natV pl))->pl=(es.foldl (goS ts (farZ (arcs ts (c7 ts.length)) r) p q) (0,[])).2->pl.length<=24->(∀ x∈pl,x<n.toNat/\∃ L,Far.Walk (arcs ts (c7 ts.length)) r x L)->Q (.ref t) H'
theorem xG (T:Bi mg)(D:DefOk K mg "put_in" s_put_in ["web","forest","root","p","q"])(O_fars_from:‹3› "fars_from" ["web","keep","root"] (spFars K))(O_whole:‹3› "whole" ["web"] (spWhole K))(O_first_new:‹3› "first_new" ["web","forest","place","seen"] (spFirst79 K))(O_way_length:‹3› "way_length" ["web","way"] (spWLen K)):‹4› "put_in" ["web","forest","root","p","q"] (spPut79 K):=by
 exists 3,sc_put_in
 obtain⟨n,ts,ks,wv,kv,r,p,q,es,out,rfl,wk,hrn,⟨p0,p9⟩,⟨q0,q9⟩,run,fin⟩:=h
 have ok:=wk.2.1
 have ko:=wk.2.2.2
 have few60:=ok.few
 have n24:=ok.n24
 refine⟨_,(aD (aN (i:=5) nd rfl (k8 rfl) (aO O_fars_from hr rfl (aA (pv 0) (aA (aO O_whole hr rfl (aA (pv 0) aB)) (aA (pv 2) aB))))) (aD (aN (i:=6) nd rfl (k8 rfl) (bJ (aA (pv 2) aB))) (aD (aN (i:=7) nd rfl (k8 rfl) (bJ (aA (pv 2) aB))) (aD (aN (i:=8) nd rfl (k8 rfl) (bJ aB)) (aD (aN (i:=9) nd rfl (k8 rfl) aC) (aD (jG PassesOwn.never (aT dH (aX cM rfl T.z_len (by symm) (aA (pv 6) aB)) aC (nomark _)) (aD (aN (i:=10) nd rfl (k8 rfl) (aE aV (pv 6) (dX dQ aC) (λ _ _=>rfl))) (aD (aN (i:=11) nd rfl (k8 rfl) (aO O_first_new hr rfl (aA (pv 0) (aA (pv 1) (aA (pv 10) (aA (pv 7) aB)))))) (aD (bH (aT fI (pv 11) bT (nomark _)) (aD (bW (zca v4 ugz ugx zci (pv 6))) (aD (aN (i:=9) nd rfl (k8 rfl) (aK bQ (pv 9) (aO O_way_length hr rfl (aA (pv 0) (aA (aY gG rfl T.z_tuple (by symm) (aA (aK fD (bJ (aA (pv 10) aB)) (eQ za1 (pv 6) (eW (dX dQ aC)) eY)) aB)) aB))))) (aG lC))) bG) (aD (bW (bY v4 uab uaa cJ (pv 6) (aA (pv 11) aB))) (aD (bW (bY v4 uab uaa cJ (pv 7) (aA (pv 11) aB))) (aD (aN (i:=9) nd rfl (k8 rfl) (aK bQ (pv 9) (aO O_way_length hr rfl (aA (pv 0) (aA (bN (aA (pv 10) (aA (pv 11) aB))) aB))))) (aG (bH (aT dH (aK dD (pv 4) (pv 9)) (aK dD (aK bQ (pv 3) (pv 4)) (aE aV (pv 5) (pv 11) (λ _ _=>rfl))) (nomark _)) (aD (bW (bY v4 uab uaa cJ (pv 8) (aA (pv 11) aB))) (aG (aN (i:=9) nd rfl (k8 rfl) (aE aV (pv 5) (pv 11) (λ _ _=>rfl))))) bG))))))))) (aG (aR (aY gG rfl T.z_tuple (by symm) (aA (pv 8) aB)))))))))),?_⟩
 refine⟨_,rfl,_,rfl,n,ts,wv,rfl,wk.1,few60,λ lk J1 S1 f1 e1=>?_⟩
 refine⟨_,rfl,n,ts,c7 ts.length,wv,.ref lk,_,rfl,⟨Is.same S1 _ wk.1,ok,gQ e1,cW ts⟩,m8 _,by left,λ lD FD J2 S2 f2 e2 lFD dst=>?_⟩
 rw[u4] at dst
 refine⟨_,rfl,(by show 1<=1000;decide),λ lt J3 S3 f3 e3=>?_⟩
 refine⟨_,rfl,(by show 1<=1000;decide),λ ls J4 S4 f4 e4=>?_⟩
 refine⟨(by show 0<=1000;decide),λ lp J5 S5 f5 e5=>?_⟩
 have S13:Same H J5:=S1.trans (S2.trans (S3.trans (S4.trans S5)))
 have fr:∀ {b:j9}{o:HO},H b=some o->b≠lt/\b≠ls/\b≠lp:=λ {b o} e =>
  ⟨aP (S1.trans S2 _ _ e) f3,aP ((S1.trans S2).trans S3 _ _ e) f4,aP (((S1.trans S2).trans S3).trans S4 _ _ e) f5⟩
 have nD:lD≠lt/\lD≠ls/\lD≠lp:=⟨aP e2 f3,aP (S3 _ _ e2) f4,aP ((S3.trans S4) _ _ e2) f5⟩
 have n1:lt≠ls:=aP e3 f4
 have n2:lt≠lp:=aP (S4 _ _ e3) f5
 have n3:ls≠lp:=aP e4 f5
 obtain⟨T0,eT⟩:∃ T0,T0=es.foldl (goS ts (farZ (arcs ts (c7 ts.length)) r) p q) (0,[]):=⟨_,rfl⟩
 obtain⟨W,hW⟩:∃ W:Nat->L2.St->Hp->Prop,W=λ m σ J=>∃ (tr sn pl:List Nat)(c:Int)(es':List Dfs.Ev)(y10 y11:Option V),σ=[some wv,some kv,some (.int (r:Int)),some (.int p),some (.int q),some (.ref lD),some (.ref lt),some (.ref ls),some (.ref lp),some (.int c),y10,y11]/\Same H J/\J lD=some (.lst (FD.map ov))/\J lt=some (.lst (natV tr.reverse))/\J ls=some (.lst (natV sn))/\J lp=some (.lst (natV pl))/\PuI n ts ks r tr sn pl/\(∀ x∈pl,x∈sn)/\Dfs.Run (tiedN ts ks) n.toNat tr sn es' out/\es'.foldl (goS ts (farZ (arcs ts (c7 ts.length)) r) p q) (c,pl)=T0/\es'.length=m:=⟨_,rfl⟩
 refine⟨W,⟨es.length,by rw[hW];exact⟨[r],[r],[],0,es,none,none,rfl,S13,(S3.trans (S4.trans S5)) _ _ e2,(S4.trans S5) _ _ e3,S5 _ _ e4,e5,PuI.start hrn,by simp,run,eT.symm,rfl⟩⟩,λ m σ J h=>?_⟩
 rw[hW] at h
 obtain⟨tr,sn,pl,c,es',y10,y11,rfl,sm,hD,ht,hs,hp,I,psub,run',efo,rfl⟩:=h
 have few:=I.few
 have ltr:=I.ltr
 have lpl:=I.lpl
 have lsn:sn.length<=24:=by left
 refine⟨_,rfl,lt,_,rfl,.inl (SqL.of ht),_,_,rfl,rfl,?_⟩
 have full:∀ (x:Nat)(l:List Nat),(V.bl (decide ((0:Int)<(((natV (x::l).reverse).length:Nat):Int))))=V.bl true:=λ x l=>by
  rw[ug8]
  rw[bC,ua9,z0];left
 have lastT:∀ (x:Nat)(l:List Nat),atI (natV (x::l).reverse) (-1)=some (V.int (x:Int)):=λ x l=>by
  unfold atI ixN
  rw[uhd (by decide),uhc (by rw[bC,ua9,z0];left)]
  show (natV (x::l).reverse)[(-1+((natV (x::l).reverse).length:Int)).toNat]?=_
  rw[bC,ua9,z0,show (-1+((l.length+1:Nat):Int)).toNat=l.length by left,ub0,cH,uaq (by rw[bC,ua9];left),bC,ua9,Nat.sub_self];rfl
 cases run' with
 | nil =>
  refine⟨false,rfl,iteF ?_⟩
  refine⟨_,rfl,lp,_,rfl,.inl ⟨SqL.of hp,λ t f=>?_⟩⟩
  have sn':=aQ (H:=J) (o:=.tup (natV pl)) f
  refine fin t pl _ (sm.trans sn') aH ?_ (by left) λ x hx=>⟨I.lt x (psub x hx),I.rch x (psub x hx)⟩
  rw[← eT,← efo];rfl
 | @pop here rest _ es2 _ nn rn =>
  refine⟨true,full _ _,iteT ?_⟩
  refine⟨λ σ' H'=>∃ m',m'<(Dfs.Ev.back here rest.head?::es2).length/\W m' σ' H',λ _ _ h=>h,?_⟩
  refine⟨_,rfl,_,rfl,lt,_,_,_,rfl,rfl,SqL.of ht,lastT here rest,?_⟩
  refine⟨_,rfl,_,rfl,_,rfl,_,rfl,n,ts,ks,wv,kv,here,ls,sn,rfl,wk.same sm,hs,by left,λ z J6 S6=>?_,λ pn H6 S6 hp least=>?_⟩
  ·refine⟨_,rfl,rfl,_,rfl,iteT ?_⟩
   have t6:=S6 _ _ ht
   have l6:(natV (here::rest).reverse).length=rest.length+1:=by rw[bC,ua9,z0]
   have r6:natV (here::rest).reverse=natV rest.reverse++[V.int (here:Int)]:=by rw[ub0,cH];rfl
   refine⟨_,rfl,.inl ⟨rfl,_,SqL.of t6⟩,lt,_,V.int (here:Int),rfl,rfl,t6,?_,?_⟩
   ·rw[l6,r6,uaq (by rw[bC,ua9];left),bC,ua9]
    rw[show rest.length+1-1-rest.length=0 by left];rfl
   have e7:(upd J6 lt (.lst (natV (here::rest).reverse).dropLast)) lt=some (.lst (natV rest.reverse)):=by
    rw[aH,r6,List.dropLast_concat]
   have o7:∀ b o,b≠lt->J6 b=some o->(upd J6 lt (.lst (natV (here::rest).reverse).dropLast)) b=some o:=λ b o z e=>by rw[aM z];exact e
   generalize upd J6 lt (.lst (natV (here::rest).reverse).dropLast)=J7 at e7 o7
   have sm7:Same H J7:=λ b o e=>o7 _ _ (fr e).1 (S6 _ _ (sm _ _ e))
   refine⟨_,rfl,_,rfl,_,rfl,(by show 1<=1000;decide),λ l1 J8 S8 f8 e8=>?_⟩
   refine⟨_,rfl,_,rfl,_,rfl,lt,_,rfl,SqL.of (S8 _ _ e7),λ l2 f9=>?_⟩
   have S9:=aQ (H:=J8) (o:=.lst (cutV (natV rest.reverse) (some (-1)) none)) f9
   refine⟨l1,l2,[V.int (here:Int)],natV rest.head?.toList,rfl,rfl,S9 _ _ e8,?_,?_,λ l3 J10 S10 f10 e10=>?_⟩
   ·show upd J8 l2 (.lst (cutV (natV rest.reverse) (some (-1)) none)) l2=_
    rw[aH,yH]
   ·cases rest <;> (show _<=1000;simp [natV])
   refine⟨l3,_,rfl,.inl ⟨SqL.of e10,λ t ft=>?_⟩⟩
   have S11:=aQ (H:=J10) (o:=.tup ([V.int (here:Int)]++natV rest.head?.toList)) ft
   have S7':=(S8.trans S9).trans (S10.trans S11)
   have e11:upd J10 t (.tup ([V.int (here:Int)]++natV rest.head?.toList)) t=some (.tup (natV (here::rest.head?.toList))):=by rw[aH];rfl
   refine⟨n,ts,wv,t,here::rest.head?.toList,rfl,Is.same (sm7.trans S7') _ wk.1,few60,e11,?_,wM ko I.chn,λ J12 S12=>?_⟩
   ·cases rest <;> simp
   have S712:=S7'.trans S12
   refine⟨_,_,rfl,rfl,?_⟩
   rw[hW]
   refine⟨_,ua4 _,rest,sn,pl,_,es2,_,_,rfl,sm7.trans S712,S712 _ _ (o7 _ _ nD.1 (S6 _ _ hD)),S712 _ _ e7,S712 _ _ (o7 _ _ (Ne.symm n1) (S6 _ _ hs)),S712 _ _ (o7 _ _ (Ne.symm n2) (S6 _ _ hp)),I.pop,psub,rn,?_,rfl⟩
   rw[← efo,udd,nJ]
  ·exfalso
   have hp':=uac.mp hp
   have:=zbf ok ko nn pn hp'.1
   have h2:=hp'.2
   rw[ubw,ug8 this] at h2
   cases h2
 | @push here rest _ pn es2 _ fst rn =>
  refine⟨true,full _ _,iteT ?_⟩
  refine⟨λ σ' H'=>∃ m',m'<(Dfs.Ev.go here pn::es2).length/\W m' σ' H',λ _ _ h=>h,?_⟩
  refine⟨_,rfl,_,rfl,lt,_,_,_,rfl,rfl,SqL.of ht,lastT here rest,?_⟩
  have inN:∀ j,j∈newN ts ks here sn↔j∈nbN ts ks (here:Int)/\j∉sn:=λ j=>by
   unfold newN
   rw[uac,ubw];simp
  have hpn:pn∈newN ts ks here sn:=(inN pn).mpr ⟨by
   have:=fst.2.1
   unfold tiedN at this
   rw[ubw] at this
   exact ug9 this,fst.2.2.1⟩
  refine⟨_,rfl,_,rfl,_,rfl,_,rfl,n,ts,ks,wv,kv,here,ls,sn,rfl,wk.same sm,hs,by left,λ z J6 S6=>?_,λ pn' J6 S6 hp' least=>?_⟩
  ·rw[z] at hpn;cases hpn
  obtain rfl:pn'=pn:=yF ok ko fst ((inN _).mp hp').1 ((inN _).mp hp').2 λ j h1 h2=>least j ((inN j).mpr ⟨h1,h2⟩)
  refine⟨_,rfl,rfl,_,rfl,iteF ?_⟩
  have aj:=(eF ok ko).mp fst.2.1
  have fl:=fst.1
  obtain⟨L,wlk⟩:=fW ok ko aj (I.rch here (I.sub here i5))
  have dd:=dst pn' fl
  obtain⟨d,ed,_⟩:=dd.2 _ wlk
  rw[ed] at dd
  have fz:=qC dd
  have aF:atI (FD.map ov) (pn':Int)=some (ov (some d)):=by rw[← ed];exact aZ (m8 _) (by rw[u4];exact dG (by left))
  have t6:=S6 _ _ ht
  refine⟨_,rfl,.inl ⟨rfl,_,SqL.of t6⟩,_,rfl,lt,_,_,rfl,rfl,t6,?_,λ J7 b7 e7=>?_⟩
  ·rw[bC,ua9];left
  have e7':J7 lt=some (.lst (natV (pn'::here::rest).reverse)):=by rw[e7,ub0 (a:=pn'),cH];rfl
  have hs7:=b7 _ _ (Ne.symm n1) (S6 _ _ hs)
  refine⟨_,rfl,.inl ⟨rfl,_,SqL.of hs7⟩,_,rfl,ls,_,_,rfl,rfl,hs7,?_,λ J8 b8 e8=>?_⟩
  ·rw[bC];left
  have e8':J8 ls=some (.lst (natV (sn++[pn']))):=by rw[e8,cH];rfl
  have sm8:Same H J8:=λ b o e=>b8 _ _ (fr e).2.1 (b7 _ _ (fr e).1 (S6 _ _ (sm _ _ e)))
  have hD8:=b8 _ _ nD.2.1 (b7 _ _ nD.1 (S6 _ _ hD))
  have hp8:=b8 _ _ (Ne.symm n3) (b7 _ _ (Ne.symm n2) (S6 _ _ hp))
  have ht8:=b8 _ _ n1 e7'
  refine⟨_,rfl,_,rfl,_,rfl,_,rfl,(by show 2<=1000;decide),λ t J9 S9 f9 e9=>?_⟩
  have e9':J9 t=some (.tup (natV [here,pn'])):=e9
  refine⟨n,ts,wv,t,[here,pn'],rfl,Is.same (sm8.trans S9) _ wk.1,few60,e9',by simp,?_,λ JA SA=>?_⟩
  ·obtain⟨k,hk,ek⟩:=aj
   exact⟨⟨k,ek,ko.2 k hk⟩,True.intro⟩
  refine⟨_,_,rfl,rfl,?_⟩
  have S8A:=S9.trans SA
  have hDA:=S8A _ _ hD8
  have hpA:=S8A _ _ hp8
  have cm1:CMul q (c+wl ts [here,pn']):=.inl ⟨by left,by left⟩
  have cm2:CMul (p+q) d:=.inl ⟨by left,by left⟩
  have ew:wl ts [here,pn']=tlen ts here pn':=Int.add_zero _
  rw[ew] at cm1 ⊢
  refine⟨_,rfl,_,rfl,_,_,rfl,rfl,cm1,_,rfl,_,rfl,_,_,rfl,rfl,_,rfl,_,rfl,lD,_,_,_,rfl,rfl,SqL.of hDA,aF,_,_,rfl,rfl,cm2,_,_,rfl,rfl,_,rfl,?_⟩
  refine ite2 (λ cc=>?_) (λ cc=>?_)
  ·refine⟨_,rfl,.inl ⟨rfl,_,SqL.of hpA⟩,_,rfl,lp,_,_,rfl,rfl,hpA,by rw[bC];left,λ JB bB eB=>?_⟩
   have oB:∀ b o,b≠lp->J8 b=some o->JB b=some o:=λ b o z e=>bB _ _ z (S8A _ _ e)
   have hDB:=oB _ _ nD.2.2 hD8
   refine⟨_,rfl,_,rfl,lD,_,_,_,rfl,rfl,SqL.of hDB,aF,?_⟩
   rw[hW]
   refine⟨_,ua4 _,pn'::here::rest,sn++[pn'],pl++[pn'],d,es2,_,_,rfl,λ b o e=>oB _ _ (fr e).2.2 (sm8 _ _ e),hDB,oB _ _ n2 ht8,oB _ _ n3 e8',?_,I.push ok ko fst (by simp),?_,rn,?_,rfl⟩
   ·rw[eB,cH];rfl
   ·intro x hx
    rcases o9.mp hx with h | h
    ·exact uag _ (psub x h)
    ·exact r8 _ h
   ·rw[← efo,udd,hZ,fz,uhc (ug9 cc)]
  ·rw[hW]
   refine⟨_,ua4 _,pn'::here::rest,sn++[pn'],pl,_,es2,_,_,rfl,sm8.trans S8A,hDA,S8A _ _ ht8,S8A _ _ e8',hpA,I.push ok ko fst (by left),λ x hx=>uag _ (psub x hx),rn,?_,rfl⟩
   rw[← efo,udd,hZ,fz,uhd (λ z=>by rw[ug8 z] at cc;exact absurd cc (by decide))]
def spTOL (K:c6):Sp:=λ vs H Q _=>∃ (n:Int)(ts:List Tie)(wv:V)(p:j9)(ys:List V)(os:List (Option (List Nat))),vs=[wv,.ref p]/\Is K H (webD n ts) wv/\WebOk n ts/\H p=some (.lst ys)/\ys.length=os.length/\ys.length<=30/\(∀ (i:Nat)(o:Option (List Nat))(v:V),os[i]?=some o->ys[i]?=some v->WyV H ts o v)/\∀ t H',Same H H'->H' t=some (.tup (natV (twK ts os)))->Q (.ref t) H'
theorem rR (T:Bi mg)(D:DefOk K mg "ties_of_ways" s_ties_of_ways ["web","ways"])(O_ties_along:‹2› "ties_along" ["web","places"] (spAlongW K)):‹3› "ties_of_ways" ["web","ways"] (spTOL K):=by
 exists 2,sc_ties_of_ways
 obtain⟨n,ts,wv,p,ys,os,rfl,isw,ok,hp,leq,l30,hos,q⟩:=h
 have few60:=ok.few
 refine⟨_,(aD (aN (i:=2) nd rfl (k8 rfl) (bJ aB)) (aD (bP PassesOwn.never rfl (bR (pv 1)) (aJ (i:=3) nd rfl (k8 rfl)) (aG (bH (aT hV (pv 3) bT (nomark _)) (aG (bW (bY v4 uga uf9 vX (pv 2) (aA (aO O_ties_along hr rfl (aA (pv 0) (aA (pv 3) aB))) aB)))) bG))) (aG (aR (aY cI rfl T.z_tuple (by symm) (aA (aX (iL rfl) rfl T.z_sorted (by symm) (aA (aY (lY rfl) rfl T.z_set (by symm) (aA (pv 2) aB)) aB)) aB)))))),?_⟩
 refine⟨(by show 0<=1000;decide),λ lf J1 S1 f1 e1=>?_⟩
 have vof:∀ i o,os[i]?=some o->∃ v,ys[i]?=some v/\WyV H ts o v:=λ i o e=>by
  have hi:=(m9.mp e).1
  have ev:ys[i]?=some ys[i]:=d8 (by left)
  exact⟨_,ev,hos i o _ e ev⟩
 have lt:∀ k∈os.flatMap (awN ts),k<ts.length:=λ k hk=>by
  obtain⟨o,ho,hk⟩:=ufy.mp hk
  obtain⟨i,hi⟩:=uew.mp ho
  obtain⟨v,_,wy⟩:=vof i o hi
  exact (iK wy).1 k hk
 have fl:∀ i,((os.take i).flatMap (awN ts)).length<=690:=λ i=>by
  have h1:=oJ (f:=awN ts) (m:=23) (os.take i) λ o ho=>by
   obtain⟨j,hj⟩:=uew.mp (ue2 ho)
   obtain⟨v,_,wy⟩:=vof j o hj
   exact (iK wy).2
  have h2:(os.take i).length<=30:=by rw[uc3];left
  have h3:=Nat.mul_le_mul_right 23 h2
  left
 refine⟨_,rfl,p,rfl,⟨_,SqL.of (S1 _ _ hp)⟩,?_⟩
 refine cX (xs:=ys) (λ i σ J=>∃ y3:Option V,σ=[some wv,some (.ref p),some (.ref lf),y3]/\But lf J1 J/\J lf=some (.lst (natV ((os.take i).flatMap (awN ts))))) ⟨none,rfl,But.refl,e1⟩ (λ i σ J _ h=>?_) (λ i x σ J hx h=>?_) (λ σ J h=>?_)
 ·obtain⟨y3,rfl,bt,_⟩:=h
  exact SqL.of (bt _ _ (aP hp f1) (S1 _ _ hp))
 ·obtain⟨y3,rfl,bt,hf⟩:=h
  have hi:=(m9.mp hx).1
  have ho:os[i]?=some os[i]:=d8 (by left)
  have wy:=hos i _ _ ho hx
  have tn:os.take (i+1)=os.take i++[os[i]]:=by rw[ucl,ho];rfl
  have sm:Same H J:=λ b o e=>bt _ _ (aP e f1) (S1 _ _ e)
  have l1:=fl i
  have l2:=(iK wy).2
  generalize os[i]=o at wy tn l2
  rcases wy with ⟨rfl,rfl⟩ | ⟨t,ws,rfl,rfl,ht,l24,lk⟩
  ·refine⟨_,rfl,rfl,_,rfl,iteF ⟨_,rfl,bt,?_⟩⟩
   rw[hf,tn,ue8]
   show _=some (HO.lst (natV (_++[])))
   rw[ubi]
  ·refine⟨_,rfl,rfl,_,rfl,iteT ⟨_,rfl,.inl ⟨rfl,_,SqL.of hf⟩,_,rfl,_,rfl,n,ts,wv,t,ws,rfl,Is.same sm _ isw,few60,sm _ _ ht,by left,lk,λ l4 J4 S4 e4=>?_⟩⟩
   refine⟨lf,l4,_,_,rfl,rfl,S4 _ _ hf,e4,by rw[bC,bC];change (alongN ts ws).length<=23 at l2;left,λ J5 b5 e5=>⟨_,rfl,λ b o z e=>b5 _ _ z (S4 _ _ (bt _ _ z e)),?_⟩⟩
   rw[e5,tn,ue8,cH]
   show _=some (HO.lst (_++natV (alongN ts ws++[])))
   rw[ubi]
 ·obtain⟨y3,rfl,bt,hf⟩:=h
  have l1:=fl os.length
  rw[leq,ua1] at hf
  rw[ua1] at l1
  have sm:Same H J:=λ b o e=>bt _ _ (aP e f1) (S1 _ _ e)
  have mfu:=pF lt
  obtain⟨fu,efu⟩:∃ fu,fu=os.flatMap (awN ts):=⟨_,rfl⟩
  rw[← efu] at hf l1 lt mfu
  have few:=nV (ns:=keepI fu) (m:=60) λ x hx=>by
   obtain⟨c,hc,rfl⟩:=y2.mp hx
   have:=lt c hc
   left
  rw[bZ] at hf
  refine⟨_,rfl,lf,keepI fu,rfl,hf,by unfold keepI;rw[c9];left,λ q1 J2 S2 f2 e2=>⟨q1,_,_,rfl,e2,by left,λ ms m1 m2 m3 l3 J3 S3 f3 e3=>⟨l3,_,rfl,e3,λ t J4 S4 f4 e4=>?_⟩⟩⟩
  rw[lB m1 m2 m3 (qM ts os).1 mfu] at e4
  exact q t J4 (sm.trans (S2.trans (S3.trans S4))) e4
noncomputable def tipN (n:Int)(ts:List Tie)(ks:List Nat)(r:Nat):List Nat:=ks.filter λ k=>decide ((tieAt ts k).1.toNat∈Far.rN (arcs ts (c7 ts.length)) n.toNat r)
def spTip79 (K:c6):Sp:=λ vs H Q _=>∃ (n:Int)(ts:List Tie)(ks:List Nat)(wv kv:V)(r:Nat),vs=[wv,kv,.int (r:Int)]/\WK K H n ts ks wv kv/\r<n.toNat/\∀ t H',Same H H'->H' t=some (.tup (natV (tipN n ts ks r)))->Q (.ref t) H'
theorem rT (T:Bi mg)(D:DefOk K mg "ties_in_piece" s_ties_in_piece ["web","forest","root"])(O_piece_of:‹4› "piece_of" ["web","keep","place"] (spPiece K))(O_whole:‹4› "whole" ["web"] (spWhole K)):‹5› "ties_in_piece" ["web","forest","root"] (spTip79 K):=by
 exists 4,sc_ties_in_piece
 obtain⟨n,ts,ks,wv,kv,r,rfl,wk,hrn,q⟩:=h
 have ok:=wk.2.1
 have ko:=wk.2.2.2
 have few60:=ok.few
 have lk:=ko.len
 refine⟨_,(aD (aN (i:=3) nd rfl (ue1 rfl) (aO O_piece_of hr rfl (aA (pv 0) (aA (aO O_whole hr rfl (aA (pv 0) aB)) (aA (pv 2) aB))))) (aG (aR (aY cI rfl T.z_tuple (by symm) (aA (cF (N:=["web","forest","root","piece"]) (sc0:=defScope s_ties_in_piece) (own:=["tie"]) (fr:=["web","piece"]) (js:=[0,3]) rfl (cP (pv 1)) (λ _ _ _ _=>(aJ (i:=0) (by show uap [("tie":Str),("web":Str),("piece":Str)];decide +kernel) rfl (k8 rfl))) (λ _ _ _ _=>(dM (aT vV (aE bO (aE bO (aE bO (pv 1) aC (λ _ _=>rfl)) (pv 0) (λ _ _=>rfl)) aC (λ _ _=>rfl)) (pv 2) (by with_unfolding_all rfl)))) (λ _ _ _ _=>(pv 0))) aB))))),?_⟩
 refine⟨_,rfl,_,rfl,n,ts,wv,rfl,wk.1,few60,λ lk J1 S1 f1 e1=>?_⟩
 refine⟨_,rfl,n,ts,c7 ts.length,wv,.ref lk,_,rfl,⟨Is.same S1 _ wk.1,ok,gQ e1,cW ts⟩,m8 _,by left,λ pp J2 S2 e2=>?_⟩
 rw[u4] at e2
 obtain⟨g0,g,ws,rfl,hg0,hg,hall,hlw⟩:=bU wk.1
 obtain⟨kp,rfl,hkp⟩:=iS wk.2.2.1
 rw[← bZ] at hkp
 have S12:=S1.trans S2
 refine⟨_,rfl,kp,rfl,⟨_,SqT.of (S12 _ _ hkp)⟩,?_⟩
 have lN:=bC ks
 obtain⟨PN,ePN⟩:∃ PN,PN=Far.rN (arcs ts (c7 ts.length)) n.toNat r:=⟨_,rfl⟩
 refine mY (S12 _ _ hkp) (λ σ'=>∃ o,σ'=[o,some (.ref g0),some (.ref pp)]) (λ i=>if decide ((tieAt ts (ks.getD i 0)).1.toNat∈PN)=true then some (V.int ((ks.getD i 0:Nat):Int)) else none) (by left) (by exact⟨none,rfl⟩) (λ i x σ' H' hx s2 sg C L hC hL=>?_) (λ L H2 hL S3 hH=>?_)
 ·obtain⟨o,rfl⟩:=sg
  obtain⟨k,hk,rfl⟩:=bK hx
  have ek:ks.getD i 0=k:=by rw[g9,hk];rfl
  rw[ek] at hC hL
  have hkl:=ko.2 k (u6 hk)
  have tk:=ok.tie _ (bI hkl).2
  obtain⟨ta,hta,htie⟩:=bV hall hkl
  have s3:=S12.trans s2
  refine⟨_,rfl,g0,_,_,_,rfl,rfl,SqT.of (s3 _ _ hg0),rfl,_,rfl,g,_,_,_,rfl,rfl,SqT.of (s3 _ _ hg),aZ (m8 _) hta,ta,_,_,_,rfl,rfl,SqT.of (s3 _ _ htie),rfl,_,rfl,pp,_,rfl,.inr (SqT.of (s2 _ _ e2)),rfl,gU _,_,rfl,?_⟩
  show if (inV (V.int (tieAt ts k).1) (natV _))=true then _ else _
  rw[jW (by left),← ePN]
  exact ite2 (λ c=>⟨_,rfl,hC _ _ _ ⟨_,rfl⟩ (Same.refl _) (by rw[uhc c])⟩) (λ c=>hL _ _ ⟨_,rfl⟩ (Same.refl _) (by rw[uhd (λ z=>c z)]))
 ·rw[lN,jE (λ k=>decide ((tieAt ts k).1.toNat∈PN))] at hH
  refine⟨L,_,rfl,hH,λ t J S f e=>q t J (S12.trans (S3.trans S)) ?_⟩
  rw[e,ePN];rfl
noncomputable def putN (ts:List Tie)(r:Nat)(p q:Int)(es:List Dfs.Ev):List Nat:=(es.foldl (goS ts (farZ (arcs ts (c7 ts.length)) r) p q) (0,[])).2
def spNear79 (K:c6)(Pt:j9)(lp:Pos):Sp:=λ vs H Q _=>∃ (n:Int)(ts:List Tie)(wv:V)(r:Nat)(p q:Int)(es:List Dfs.Ev)(out:List Nat),vs=[wv,.int (r:Int),.int p,.int q]/\Is K H (webD n ts) wv/\WebOk n ts/\Tb Pt lp lamQ H/\r<n.toNat/\(0<=p/\p<=10^9)/\(0<=q/\q<=10^9)/\Dfs.Run (tiedN ts (forestN ts)) n.toNat [r] [r] es out /\
 ∀ t tk tp ms H',But Pt H H'->Tf Pt lp lamQ H'->H' t=some (.tup [.ref tk,.ref tp])->H' tk=some (.tup (natV ms))->H' tp=some (.tup (natV (putN ts r p q es)))->ms.Pairwise (·<·)->(∀ k,k∈ms↔k∈tipN n ts (forestN ts) r\/k∈twK ts ((putN ts r p q es).map λ x=>wyN ts r x))->Q (.ref t) H'
theorem rY {Pt:j9}(T:Bi mg)(D:DefOk K mg "near_light" s_near_light ["web","root","p","q"])(O_least_forest:‹6› "least_forest" ["web"] (spForest K Pt (lamPosOf s_order_of)))(O_put_in:‹6› "put_in" ["web","forest","root","p","q"] (spPut79 K))(O_ties_of_ways:‹6› "ties_of_ways" ["web","ways"] (spTOL K))(O_the_way:‹6› "the_way" ["web","keep","a","b"] (spWayM K))(O_whole:‹6› "whole" ["web"] (spWhole K))(O_ties_in_piece:‹6› "ties_in_piece" ["web","forest","root"] (spTip79 K)):‹7› "near_light" ["web","root","p","q"] (spNear79 K Pt (lamPosOf s_order_of)):=by
 exists 6,sc_near_light
 obtain⟨n,ts,v,r,p,q,es,out,rfl,isw,ok,tb,hrn,hp,hq,run,fin⟩:=h
 have few60:=ok.few
 have n24:=ok.n24
 refine⟨_,(aD (aN (i:=4) nd rfl (k8 rfl) (aO O_least_forest hr rfl (aA (pv 0) aB))) (aD (aN (i:=5) nd rfl (k8 rfl) (aO O_put_in hr rfl (aA (pv 0) (aA (pv 4) (aA (pv 1) (aA (pv 2) (aA (pv 3) aB))))))) (aD (aN (i:=6) nd rfl (k8 rfl) (aO O_ties_of_ways hr rfl (aA (pv 0) (aA (cF (N:=["web","root","p","q","forest","put","bought"]) (sc0:=defScope s_near_light) (own:=["place"]) (fr:=["web","root"]) (js:=[0,1]) rfl (cP (pv 5)) (λ _ _ _ _=>(aJ (i:=0) (by show uap [("place":Str),("web":Str),("root":Str)];decide +kernel) rfl (k8 rfl))) (λ _ _ _ _=>cG) (λ _ _ _ _=>(aO O_the_way hr rfl (aA (pv 1) (aA (aO O_whole hr rfl (aA (pv 1) aB)) (aA (pv 2) (aA (pv 0) aB))))))) aB)))) (aG (aR (bN (aA (aY cI rfl T.z_tuple (by symm) (aA (aX (iL rfl) rfl T.z_sorted (by symm) (aA (aK zcd (aY (nB rfl) rfl T.z_set (by symm) (aA (aO O_ties_in_piece hr rfl (aA (pv 0) (aA (pv 4) (aA (pv 1) aB)))) aB)) (aY (nB rfl) rfl T.z_set (by symm) (aA (pv 6) aB))) aB)) aB)) (aA (pv 5) aB)))))))),?_⟩
 refine⟨_,rfl,n,ts,v,rfl,isw,ok,tb,λ kp H1 b1 t1 same1 f1 e1=>?_⟩
 have isw1:Is K H1 (webD n ts) v:=oE b1 tb _ (eV n ts) isw
 have isk1:Is K H1 (keepD (forestN ts)) (.ref kp):=⟨kp,_,rfl,e1,by rw[bZ];exact IsAll.ints _⟩
 have wk1:WK K H1 n ts (forestN ts) v (.ref kp):=⟨isw1,ok,isk1,gK ts⟩
 refine⟨_,rfl,_,rfl,_,rfl,_,rfl,_,rfl,n,ts,forestN ts,v,_,r,p,q,es,out,rfl,wk1,hrn,hp,hq,run,λ pt pl J2 S2 e2 epl lpl hpl=>?_⟩
 refine⟨_,rfl,_,rfl,pt,rfl,⟨_,SqT.of e2⟩,?_⟩
 have lnp:=bC pl
 have S12:Same H1 J2:=S2
 refine jN e2 (λ σ'=>∃ o,σ'=[o,some v,some (.int (r:Int))]) (λ i x J=>WyV J ts (wyN ts r (pl.getD i 0)) x) (by left) (by exact⟨none,rfl⟩) (λ i x J J' k h=>h.tk k) (λ i x σ' H' hx s2 sg C hC=>?_) (λ L ys J3 hL S3 hH hly hys=>?_)
 ·obtain⟨o,rfl⟩:=sg
  obtain⟨b,hb,rfl⟩:=bK hx
  have eb:pl.getD i 0=b:=by rw[g9,hb];rfl
  rw[eb] at hC
  have hbl:=(hpl b (u6 hb)).1
  refine⟨_,rfl,_,rfl,n,ts,v,rfl,Is.same (S2.trans s2) _ isw1,few60,λ lk J4 S4 f4 e4=>?_⟩
  refine⟨_,rfl,_,rfl,n,ts,c7 ts.length,v,.ref lk,_,_,rfl,⟨Is.same ((S2.trans s2).trans S4) _ isw1,ok,gQ e4,cW ts⟩,by left,by left,by left,by left,λ x J5 S5 hv=>hC _ _ _ ⟨_,rfl⟩ (S4.trans S5) ?_⟩
  rw[u4,u4] at hv
  exact rE ok hv
 have S13:=S2.trans S3
 have hos:∀ (i:Nat)(o:Option (List Nat))(x:V),(pl.map λ x=>wyN ts r x)[i]?=some o->ys[i]?=some x->WyV J3 ts o x:=λ i o x ho hx=>by
  rw[k0] at ho
  obtain⟨b,hb,rfl⟩:=udu.mp ho
  have:=hys i x hx
  rw[g9,hb] at this
  exact this
 refine⟨n,ts,v,L,ys,pl.map λ x=>wyN ts r x,rfl,Is.same S13 _ isw1,ok,hH,by rw[hly,lnp,c9],by left,hos,λ bt J4 S4 e4=>?_⟩
 have S14:=S13.trans S4
 refine⟨_,rfl,_,rfl,_,rfl,n,ts,forestN ts,v,.ref kp,r,rfl,wk1.same S14,hrn,λ tp J5 S5 e5=>?_⟩
 have lI:∀ ks:List Nat,(keepI ks).length=ks.length:=λ ks=>by unfold keepI;rw[c9]
 have okt:KeepOk ts.length (tipN n ts (forestN ts) r):=⟨uc6 _ (gK ts).1,λ k hk=>(gK ts).2 k (uac.mp hk).1⟩
 obtain⟨TW,eTW⟩:∃ TW,TW=twK ts (pl.map λ x=>wyN ts r x):=⟨_,rfl⟩
 have okw:KeepOk ts.length TW:=by rw[eTW];exact qM ts _
 rw[← eTW] at e4
 obtain⟨TI,eTI⟩:∃ TI,TI=tipN n ts (forestN ts) r:=⟨_,rfl⟩
 rw[← eTI] at e5 okt
 have lt:=okt.len
 have lw:=okw.len
 rw[bZ] at e4 e5
 refine⟨tp,keepI TI,rfl,e5,by rw[lI];left,λ q1 J6 S6 f6 e6=>?_⟩
 refine⟨_,rfl,bt,keepI TW,rfl,(S5.trans S6) _ _ e4,by rw[lI];left,λ q2 J7 S7 f7 e7=>?_⟩
 have bd:∀ ks:List Nat,KeepOk ts.length ks->∀ k,HT.setS (keepI ks) (keepI ks).length k=true->0<=k/\k<(60:Nat):=λ ks ko k h=>by
  obtain⟨c,hc,rfl⟩:=y2.mp ((dJ _ k).mp h)
  have:=ko.2 c hc
  left
 have c1:=rC (keepI TI)
 have c2:=rC (keepI TW)
 have g1:=kJ c1 (bd _ okt)
 have g2:=kJ c2 (bd _ okw)
 refine⟨q1,q2,_,_,_,_,rfl,rfl,λ z=>(by rw[← z,e6] at f7;cases f7),S7 _ _ e6,e7,c1,c2,by left,λ rr S8' n8 J8 S8 f8 e8 c3 m3=>?_⟩
 have bd3:∀ k,S8' k=true->0<=k/\k<(ts.length:Nat):=λ k h=>by
  rcases (m3 k).mp h with h | h
  ·obtain⟨c,hc,rfl⟩:=y2.mp ((dJ _ k).mp h)
   have:=okt.2 c hc
   left
  ·obtain⟨c,hc,rfl⟩:=y2.mp ((dJ _ k).mp h)
   have:=okw.2 c hc
   left
 have g3:=kJ c3 bd3
 refine⟨rr,_,_,rfl,e8,by left,λ ms m1 m2 m3' l3 J9 S9 f9 e9=>⟨l3,_,rfl,e9,λ tk JA SA fA eA=>?_⟩⟩
 obtain⟨ek,ko3⟩:=yK c3 m1 m2 m3' bd3
 rw[ek] at eA
 have S5A:=S6.trans (S7.trans (S8.trans (S9.trans SA)))
 refine⟨_,rfl,(by show 2<=1000;decide),λ t JB SB fB eB=>?_⟩
 have S1B:=S14.trans (S5.trans (S5A.trans SB))
 have S2B:=S3.trans (S4.trans (S5.trans (S5A.trans SB)))
 refine fin t tk pt _ JB (b1.trans (Same.but S1B)) (t1.same S1B) eB (SB _ _ eA) (by rw[show putN ts r p q es=pl from epl.symm];exact S2B _ _ e2) ko3.1 λ k=>?_
 rw[show putN ts r p q es=pl from epl.symm,← eTW,← eTI,uac,j4,m3,dJ,dJ]
 have mI:∀ ks:List Nat,(k:Int)∈keepI ks↔k∈ks:=λ ks=>by
  unfold keepI
  rw[y2]
  exact⟨λ ⟨x,hx,e⟩=>by rw[← Int.ofNat.inj e];exact hx,λ h=>⟨k,h,rfl⟩⟩
 rw[mI,mI]
 refine⟨λ h=>h.2,λ h=>⟨?_,h⟩⟩
 rcases h with h | h
 ·exact okt.2 k h
 ·exact okw.2 k h
def spGrown79 (K:c6):Sp:=λ vs H Q _=>∃ n ts wv,∃ (o:j9)(os:List Nat),vs=[wv,.ref o]/\Is K H (webD n ts) wv/\WebOk n ts/\H o=some (.lst (natV os))/\OrdOk ts os/\∀ l H',Same H H'->H' l=some (.tup (natV (forestN ts)))->Q (.ref l) H'
theorem sC (T:Bi mg)(D:DefOk K mg "_law_grown" s__law_grown ["web","order"])(O__law_joined:‹1› "_law_joined" ["web","numbers","a","b"] (spJoined K)):‹2› "_law_grown" ["web","order"] (spGrown79 K):=by
 exists 1,sc__law_grown,sc__law_grown
 ·obtain⟨n,ts,wv,o,os,rfl,_⟩:=h
  rfl
 obtain⟨n,ts,wv,o,os,rfl,isw,ok,ho,ord,q⟩:=h
 have pm:=ord.1
 have nd:=sc__law_grown.nd
 have few60:=ok.few
 have l60:os.length<=60:=by rw[pm.length_eq,l7];exact few60
 have hos:∀ k∈os,k<ts.length:=λ k hk=>j4.mp (pm.mem_iff.mp hk)
 obtain⟨g0,g,ws,rfl,hg0,hg,hall,hlw⟩:=bU isw
 have gsub:∀ i,∀ k∈grN ts [] (os.take i),k∈os.take i:=λ i k hk=>(qV hk).resolve_left λ z=>(by cases z)
 have glen:∀ i,(grN ts [] (os.take i)).length<=60:=λ i=>by
  have ndt:(grN ts [] (os.take i)).Nodup:=oH (by rw[ucn];exact (pm.nodup_iff.mpr udk).sublist (ufq i os))
  have:=Peel.cV ts.length _ ndt λ k hk=>hos k (ue2 (gsub i k hk))
  left
 refine⟨_,(aD (aN (i:=2) nd rfl (k8 rfl) (bJ aB)) (aD (bP PassesOwn.never rfl (bR (pv 1)) (aJ (i:=3) nd rfl (k8 rfl)) (aG (bH (kB (fG (aO O__law_joined hr rfl (aA (pv 0) (aA (pv 2) (aA (aE aU (aE aU (aE aU (pv 0) aC (λ _ _=>rfl)) (pv 3) (λ _ _=>rfl)) aC (λ _ _=>rfl)) (aA (aE aU (aE aU (aE aU (pv 0) aC (λ _ _=>rfl)) (pv 3) (λ _ _=>rfl)) aC (λ _ _=>rfl)) aB))))))) (aG (bW (bY v4 uab uaa cJ (pv 2) (aA (pv 3) aB)))) bG))) (aG (aR (aY cI rfl T.z_tuple (by symm) (aA (aX iM rfl T.z_sorted (by symm) (aA (pv 2) aB)) aB)))))),?_⟩
 refine⟨(by show 0<=1000;decide),λ lf J0 S0 f0 e0=>?_⟩
 refine⟨_,rfl,o,rfl,⟨_,SqL.of (S0 _ _ ho)⟩,?_⟩
 have len:(natV os).length=os.length:=by unfold natV;rw[c9]
 refine cX (xs:=natV os) (λ i σ J=>∃ y3:Option V,σ=[some (.ref g0),some (.ref o),some (.ref lf),y3]/\Same H J/\J lf=some (.lst (natV (grN ts [] (os.take i))))) ⟨none,rfl,S0,e0⟩ (λ i σ J _ h=>?_) (λ i x σ J hx h=>?_) (λ σ J h=>?_)
 ·obtain⟨y3,rfl,sm,_⟩:=h
  exact SqL.of (sm _ _ ho)
 ·obtain⟨y3,rfl,sm,hf⟩:=h
  obtain⟨k,hk,rfl⟩:=bK hx
  have hkl:k<ts.length:=hos k (u6 hk)
  obtain⟨ta,hta,htie⟩:=bV hall hkl
  have tk:=ok.tie _ (bI hkl).2
  have tn:os.take (i+1)=os.take i++[k]:=by rw[ucl,hk];rfl
  have htie':=sm _ _ htie
  refine⟨_,rfl,_,rfl,_,rfl,g0,_,_,_,rfl,rfl,SqT.of (sm _ _ hg0),rfl,_,rfl,g,_,_,_,rfl,rfl,SqT.of (sm _ _ hg),aZ (m8 _) hta,ta,_,_,_,rfl,rfl,SqT.of htie',rfl,?_⟩
  refine⟨_,rfl,g0,_,_,_,rfl,rfl,SqT.of (sm _ _ hg0),rfl,_,rfl,g,_,_,_,rfl,rfl,SqT.of (sm _ _ hg),aZ (m8 _) hta,ta,_,_,_,rfl,rfl,SqT.of htie',rfl,?_⟩
  refine⟨n,ts,grN ts [] (os.take i),_,_,_,lf,rfl,Is.same sm _ isw,ok,λ k hk=>hos k (ue2 (gsub i k hk)),glen i,hf,by left,by left,by left,by left,λ b J1 hb S1=>?_⟩
  have eb:b=cnB ts (grN ts [] (os.take i)) k:=ubb.mpr (hb.trans cnB_iff.symm)
  refine⟨_,rfl,?_⟩
  subst eb
  refine iteB2 (λ c=>?_) (λ c=>?_)
  ·refine⟨_,rfl,sm.trans S1,?_⟩
   rw[tn,qA,uhc c];exact S1 _ _ hf
  ·refine⟨_,rfl,.inl ⟨rfl,_,SqL.of (S1 _ _ hf)⟩,_,rfl,lf,_,_,rfl,rfl,S1 _ _ hf,by unfold natV;rw[c9];have:=glen i;left,λ J2 b2 e2=>?_⟩
   refine⟨_,rfl,λ b o e=>b2 _ _ (aP e f0) (S1 _ _ (sm _ _ e)),?_⟩
   rw[tn,qA,uhd (by rw[c];exact j6),e2]
   unfold natV
   rw[ua8];rfl
 ·obtain⟨y3,rfl,sm,hf⟩:=h
  rw[len,ua1] at hf
  have gl:=glen os.length
  rw[ua1] at gl
  have e2':J lf=some (.lst ((keepI (grN ts [] os)).map V.int)):=by rw[← bZ];exact hf
  refine⟨_,rfl,lf,_,rfl,SqL.of e2',by unfold keepI;rw[c9];left,λ ms pm2 pw l3 f3=>?_⟩
  have eg:grN ts [] os=rgN ts [] os:=(kL (f:=[]) (d:=[]) λ _ _=>Iff.rfl).trans (ucn _)
  rw[eg] at pm2
  rw[kW ord pm2 pw]
  refine⟨l3,_,rfl,aH,λ l4 J4 S4 f4 e4=>?_⟩
  exact q l4 J4 (sm.trans ((aQ (o:=.lst ((keepI (forestN ts)).map V.int)) f3).trans S4)) (by rw[e4,bZ])
theorem qN {n i j:Nat}(h:(c7 n)[i]?=some j):i<n/\i=j:=by
 have hi:i<n:=by have:=(m9.mp h).1;rw[l7] at this;exact this
 rw[uba hi] at h
 exact⟨hi,u7 h⟩
theorem mJ {α β:Type}{R:α->β->Prop}:∀ (xs:List α)(ys:List β),xs.length=ys.length->(∀ (i:Nat)(x:α)(y:β),xs[i]?=some x->ys[i]?=some y->R x y)->Paired R xs ys
 | [],[],_,_=>.nil
 | x::xs,y::ys,h,r=>.cons (r 0 x y rfl rfl) (mJ xs ys (Nat.succ.inj h) λ i a b ha hb=>r (i+1) a b ha hb)
 | [],_::_,h,_=>nomatch h
 | _::_,[],h,_=>nomatch h
def spLeast79 (K:c6):Sp:=λ vs H Q _=>∃ n ts wv,vs=[wv]/\Is K H (webD n ts) wv/\WebOk n ts/\∀ l H',Same H H'->H' l=some (.tup (natV (forestN ts)))->Q (.ref l) H'
theorem sB (T:Bi mg)(D:DefOk K mg "_law_least" s__law_least ["web"])(O__law_grown:‹2› "_law_grown" ["web","order"] (spGrown79 K)):‹3› "_law_least" ["web"] (spLeast79 K):=by
 exists 2,sc__law_least
 obtain⟨n,ts,wv,rfl,isw,ok,q⟩:=h
 have few60:=ok.few
 obtain⟨g0,g,ws,rfl,hg0,hg,hall,hlw⟩:=bU isw
 refine⟨_,(aD (aN (i:=1) nd rfl (k8 rfl) (aX tR rfl T.z_sorted (by symm) (aA (cF (N:=["web","order"]) (sc0:=defScope s__law_least) (own:=["number"]) (fr:=["web"]) (js:=[0]) rfl (cU rfl T.z_range (aA (aX cM rfl T.z_len (by symm) (aA (aE aU (pv 0) aC (λ _ _=>rfl)) aB)) aB)) (λ _ _ _ _=>(aJ (i:=0) (by show uap [("number":Str),("web":Str)];decide +kernel) rfl (k8 rfl))) (λ _ _ _ _=>cG) (λ _ _ _ _=>(bN (aA (aE bO (aE bO (aE bO (pv 1) aC (λ _ _=>rfl)) (pv 0) (λ _ _=>rfl)) aC (λ _ _=>rfl)) (aA (pv 0) aB))))) aB))) (aG (aR (aO O__law_grown hr rfl (aA (pv 0) (aA (cF (N:=["web","order"]) (sc0:=defScope s__law_least) (own:=["length","number"]) (fr:=[]) (js:=[]) rfl (bR (pv 1)) (λ _ _ _ _=>(eZ (n:=2) rfl (aS (aJ (i:=0) (by show uap [("length":Str),("number":Str)];decide +kernel) rfl (k8 rfl)) (aS (aJ (i:=1) (by show uap [("length":Str),("number":Str)];decide +kernel) rfl (k8 rfl)) bM)))) (λ _ _ _ _=>cG) (λ _ _ _ _=>(pv 1))) aB)))))),?_⟩
 refine⟨_,rfl,g0,_,_,_,rfl,rfl,SqT.of hg0,rfl,g,_,rfl,.inr (SqT.of hg),_,rfl,by left,by left,?_⟩
 rw[u4,hlw]
 refine wE (n:=ts.length) (λ σ'=>∃ o,σ'=[o,some (.ref g0)]) (λ i v J=>∃ a,v=.ref a/\J a=some (.tup ((okey ts i).map V.int))) (by left) (by exact⟨none,rfl⟩) (λ i v H H' k h=>?_) (λ i σ' J hi s2 sg C hC=>?_) (λ Lp zs J3 hLp S3 hH3 hlz hzs=>?_)
 ·obtain⟨a,e,h2⟩:=h
  exact⟨a,e,k _ _ h2⟩
 ·obtain⟨o,rfl⟩:=sg
  obtain⟨ta,hta,htie⟩:=bV hall hi
  refine⟨_,rfl,g0,_,_,_,rfl,rfl,SqT.of (s2 _ _ hg0),rfl,_,rfl,g,_,_,_,rfl,rfl,SqT.of (s2 _ _ hg),aZ (by left) (by rw[show (0+(i:Int)).toNat=i by left];exact hta),ta,_,_,_,rfl,rfl,SqT.of (s2 _ _ htie),rfl,_,rfl,(by show 2<=1000;decide),λ a J5 S5 f5 e5=>hC _ _ _ ⟨_,rfl⟩ S5 ⟨a,rfl,?_⟩⟩
  rw[e5];show some (HO.tup [_,V.int (0+(i:Int))])=_
  rw[Int.zero_add];rfl
 have pk:=mJ (R:=λ (y:V) (k:List Int)=>∃ a,y=.ref a/\J3 a=some (.tup (k.map V.int))) zs ((c7 ts.length).map (okey ts)) (by rw[hlz,c9,l7]) λ i z k hz hk=>by
  rw[k0] at hk
  obtain⟨j,hj,rfl⟩:=udu.mp hk
  obtain⟨hl,rfl⟩:=qN hj
  exact hzs _ z hz
 refine⟨Lp,zs,_,rfl,hH3,by left,pk,λ k hk=>?_,λ qs pq wq l4 J4 S4 f4 h4=>?_⟩
 ·obtain⟨j,_,rfl⟩:=y2.mp hk
  exact List.cons_ne_nil _ _
 have rowAt:∀ q∈qs,∃ k a,k<ts.length/\q.2=okey ts k/\q.1=.ref a/\J3 a=some (.tup ((okey ts k).map V.int)):=λ q hq=>by
  obtain⟨i,hi⟩:=uew.mp (pq.mem_iff.mp hq)
  obtain⟨h1,h2⟩:=uec.mp hi
  rw[k0] at h2
  obtain⟨j,hj,e⟩:=udu.mp h2
  obtain⟨hl,rfl⟩:=qN hj
  obtain⟨a,ea,ha⟩:=hzs _ _ h1
  exact⟨_,a,hl,e.symm,ea,ha⟩
 obtain⟨os,eos⟩:∃ os,os=qs.map λ q=>(q.2.getD 1 0).toNat:=⟨_,rfl⟩
 have kAt:∀ k,((okey ts k).getD 1 0).toNat=k:=λ k=>by show ((k:Int)).toNat=k;left
 have pos:os.Perm (c7 ts.length):=by
  rw[eos]
  refine (pq.map _).trans ?_
  have:(zs.zip ((c7 ts.length).map (okey ts))).map (λ q=>(q.2.getD 1 0).toNat)=c7 ts.length:=by
   refine ub5 λ i=>?_
   rw[k0]
   by_cases hi:i<ts.length
   ·have e1:zs[i]?=some zs[i]:=d8 (by left)
    have e2:((c7 ts.length).map (okey ts))[i]?=some (okey ts i):=by rw[k0,uba hi];rfl
    have e3:(zs.zip ((c7 ts.length).map (okey ts)))[i]?=some (zs[i],okey ts i):=uec.mpr ⟨e1,e2⟩
    rw[e3,uba hi]
    show some (((okey ts i).getD 1 0).toNat)=_
    rw[kAt]
   ·rw[v7 (by rw[uex,c9,l7];left),v7 (by rw[l7];left)];rfl
  rw[this]
 have ord:OrdOk ts os:=⟨pos,by
  rw[eos,uao]
  refine wq.imp_of_mem λ {a b} ha hb h=>?_
  obtain⟨i,_,_,ei,_⟩:=rowAt a ha
  obtain⟨j,_,_,ej,_⟩:=rowAt b hb
  rw[ei,ej,kAt,kAt]
  rw[ei,ej] at h
  exact h⟩
 refine⟨_,rfl,_,rfl,l4,rfl,⟨_,SqL.of h4⟩,?_⟩
 have lqs:qs.length=ts.length:=by rw[pq.length_eq,uex,c9,l7,hlz,Nat.min_self]
 refine eS h4 (λ σ'=>∃ o1 o2,σ'=[o1,o2]) (λ i v J=>v=.int ((os.getD i 0:Nat):Int)) (by rw[c9];left) (by exact⟨none,none,rfl⟩) (λ _ _ _ _ _ h=>h) (λ i x σ' J hx s2 sg C hC=>?_) (λ Lo ys J5 hLo S5 hH5 hly hys=>?_)
 ·obtain⟨o1,o2,rfl⟩:=sg
  rw[k0] at hx
  obtain⟨u,hu,rfl⟩:=udu.mp hx
  obtain⟨k,a,hk,e2,e1,ha⟩:=rowAt u (u6 hu)
  have eo:os.getD i 0=k:=by rw[eos,g9,k0,hu];show (u.2.getD 1 0).toNat=k;rw[e2,kAt]
  rw[eo] at hC
  rw[e1]
  exact⟨a,_,rfl,SqT.of (s2 _ _ (S4 _ _ ha)),rfl,_,_,rfl,_,_,rfl,rfl,_,rfl,hC _ _ _ ⟨_,_,rfl⟩ (Same.refl _) rfl⟩
 have los:os.length=ts.length:=by rw[eos,c9,lqs]
 have ey:ys=natV os:=by
  refine ub5 λ i=>?_
  unfold natV
  rw[k0]
  by_cases hi:i<os.length
  ·have hy:i<ys.length:=by rw[hly,c9];left
   have e1:ys[i]?=some ys[i]:=d8 hy
   rw[e1,hys i _ e1,g9,d8 hi];rfl
  ·rw[v7 (by rw[hly,c9];left),v7 (by left)];rfl
 rw[ey] at hH5
 have S35:=S3.trans (S4.trans S5)
 exact⟨n,ts,_,Lo,os,rfl,Is.same S35 _ isw,ok,hH5,ord,λ l J6 S6 e6=>q l J6 (S35.trans S6) e6⟩
theorem tO (T:Bi mg)(D:DefOk K mg "_law_fars" s__law_fars ["web","keep","start"]):‹1› "_law_fars" ["web","keep","start"] (spFarsL K):=by
 exists 0,sc__law_fars
 obtain⟨n,ts,ks,wv,kp,r,rfl,isw,ok,hkp,ko,r0,r1,q⟩:=h
 have few60:=ok.few
 have n1:=ok.n1
 have n24:=ok.n24
 obtain⟨g0,g,ws,rfl,hg0,hg,hall,hlw⟩:=bU isw
 have P:=oW ok ko
 have inn:=qK ok ko
 obtain⟨δ,dd⟩:∃ δ:Nat->Option Int,∀ v,Far.Dst (arcs ts ks) r.toNat v (δ v):=⟨λ v=>Classical.choose (Far.lX P r.toNat v),λ v=>Classical.choose_spec (Far.lX P r.toNat v)⟩
 refine⟨_,(aD (aN (i:=3) nd rfl (k8 rfl) (aK jR (bJ (aA bT aB)) (aE aU (pv 0) aC (λ _ _=>rfl)))) (aD (bX aC (dR (pv 3) (pv 2) dI)) (aD (bP PassesOwn.never rfl (cU rfl T.z_range (aA (aE aU (pv 0) aC (λ _ _=>rfl)) aB)) (aJ (i:=4) nd rfl (k8 rfl)) (aG (bP PassesOwn.never rfl (bR (pv 1)) (aJ (i:=5) nd rfl (k8 rfl)) (aD (bX (aE aU (aE aU (pv 0) aC (λ _ _=>rfl)) (pv 5) (λ _ _=>rfl)) (cC (n:=3) rfl (aS (aJ (i:=6) nd rfl (k8 rfl)) (aS (aJ (i:=7) nd rfl (k8 rfl)) (aS (aJ (i:=8) nd rfl (k8 rfl)) bM))))) (aG (bP PassesOwn.never rfl (bR (bJ (aA (bN (aA (pv 6) (aA (pv 7) aB))) (aA (bN (aA (pv 7) (aA (pv 6) aB))) aB)))) (cC (n:=2) rfl (aS (aJ (i:=9) nd rfl (k8 rfl)) (aS (aJ (i:=10) nd rfl (k8 rfl)) bM))) (aG (bH (aT hV (aE aV (pv 3) (pv 9) (λ _ _=>rfl)) bT (nomark _)) (aD (aN (i:=11) nd rfl (k8 rfl) (aK bQ (aE aV (pv 3) (pv 9) (λ _ _=>rfl)) (pv 8))) (aG (bH (PW.pt (dF (aT fI (aE aV (pv 3) (pv 10) (λ _ _=>rfl)) bT (nomark _)) (iG (aT dH (aE aV (pv 3) (pv 10) (λ _ _=>rfl)) (pv 11) (nomark _))))) (aG (bX (pv 11) (dR (pv 3) (pv 10) dI))) bG))) bG)))))))) (aG (aR (pv 3)))))),?_⟩
 refine⟨(by show 1<=1000;decide),λ t0 J1 S1 f1 e1=>⟨_,rfl,g0,_,_,_,rfl,rfl,SqT.of (S1 _ _ hg0),rfl,t0,n,_,rfl,rfl,e1,by left,by left,λ lf J2 S2 f2 e2=>?_⟩⟩
 have S12:=S1.trans S2
 have ff:H lf=none:=S1.free f2
 refine⟨_,rfl,_,rfl,lf,_,r,r.toNat,rfl,rfl,e2,dA r0 (by rw[uai];left),?_⟩
 have keepF:∀ {J:Hp}{o:HO},Same H J->Same H (upd J lf o):=λ {J o} s b o e=>by rw[aM (aP e ff)];exact s _ _ e
 have fst:(o6 n.toNat V.non).set r.toNat (.int 0)=(((o6 n.toNat (none:Option Int)).set r.toNat (some 0)).map ov):=by
  rw[List.map_set,List.map_replicate];rfl
 rw[fst]
 have S0:Far.Snd (arcs ts ks) n.toNat r.toNat ((o6 n.toNat none).set r.toNat (some 0)):=Far.Snd.first (by left)
 refine⟨_,rfl,g0,_,_,_,rfl,rfl,SqT.of (keepF S12 _ _ hg0),rfl,n,rfl,by left,by left,?_⟩
 refine eK (n:=n.toNat) (λ i σ J=>∃ (DD:List (Option Int))(y4 y5 y6 y7 y8 y9 y10 y11:Option V),σ=[some (.ref g0),some (.ref kp),some (.int r),some (.ref lf),y4,y5,y6,y7,y8,y9,y10,y11]/\Same H J/\J lf=some (.lst (DD.map ov))/\Far.Snd (arcs ts ks) n.toNat r.toNat DD/\Far.Done n.toNat δ DD i)
  ⟨_,none,none,none,none,none,none,none,none,rfl,keepF S12,aH,S0,Far.vS P (by left) dd S0⟩ (λ i σ J hi h=>?_) (λ σ J h=>?_)
 ·obtain⟨D0,y4,y5,y6,y7,y8,y9,y10,y11,rfl,sm,hf,sd,dn⟩:=h
  refine⟨_,rfl,kp,rfl,⟨_,SqL.of (sm _ _ hkp)⟩,?_⟩
  refine cX (xs:=(keepI ks).map V.int) (λ i' σ J=>∃ (DD:List (Option Int))(y4 y5 y6 y7 y8 y9 y10 y11:Option V),σ=[some (.ref g0),some (.ref kp),some (.int r),some (.ref lf),y4,y5,y6,y7,y8,y9,y10,y11]/\Same H J/\J lf=some (.lst (DD.map ov))/\Far.Rnd (arcs ts ks) n.toNat r.toNat δ D0 (λ z=>z∈arcs ts (ks.take i')) DD)
   ⟨D0,_,_,_,_,_,_,_,_,rfl,sm,hf,(Far.Rnd.start sd).less λ a z=>(by cases z)⟩ (λ i' σ J _ h=>?_) (λ i' x σ J hx h=>?_) (λ σ J h=>?_)
  ·obtain⟨DD,y4,y5,y6,y7,y8,y9,y10,y11,rfl,sm,_⟩:=h
   exact SqL.of (sm _ _ hkp)
  ·obtain⟨DD,y4,y5,y6,y7,y8,y9,y10,y11,rfl,sm,hf,rn⟩:=h
   obtain⟨k,hk,rfl⟩:=hX hx
   have hkl:k<ts.length:=ko.2 k (u6 hk)
   obtain⟨ta,hta,htie⟩:=bV hall hkl
   obtain⟨t,et⟩:∃ t,t=tieAt ts k:=⟨_,rfl⟩
   rw[← et] at htie
   have tk:=ok.tie _ (bI hkl).2
   rw[← et] at tk
   refine⟨_,rfl,g0,_,_,_,rfl,rfl,SqT.of (sm _ _ hg0),rfl,_,rfl,g,_,_,_,rfl,rfl,SqT.of (sm _ _ hg),aZ (m8 _) hta,ta,_,rfl,SqT.of (sm _ _ htie),rfl,_,_,rfl,_,_,rfl,_,_,rfl,rfl,?_⟩
   refine⟨_,rfl,_,rfl,(by show 2<=1000;decide),λ t1 K1 T1 u1 v1=>⟨_,rfl,_,rfl,(by show 2<=1000;decide),λ t2 K2 T2 u2 v2=>⟨(by show 2<=1000;decide),λ t3 K3 T3 u3 v3=>⟨t3,rfl,⟨_,SqL.of v3⟩,?_⟩⟩⟩⟩
   have T13:=T1.trans (T2.trans T3)
   have v1':=T3 _ _ (T2 _ _ v1)
   have v2':=T3 _ _ v2
   have n3:t3≠lf:=λ z=>by rw[z,T2 _ _ (T1 _ _ hf)] at u3;cases u3
   refine cX (xs:=[V.ref t1,.ref t2]) (λ j σ J=>∃ (DD:List (Option Int))(y9 y10 y11:Option V),σ=[some (.ref g0),some (.ref kp),some (.int r),some (.ref lf),y4,some (.int (k:Int)),some (.int t.1),some (.int t.2.1),some (.int t.2.2),y9,y10,y11]/\Same H J/\J lf=some (.lst (DD.map ov))/\Far.Rnd (arcs ts ks) n.toNat r.toNat δ D0 (λ z=>z∈arcs ts (ks.take i')\/z∈(arcs2 t).take j) DD/\But lf K3 J)
    ⟨DD,_,_,_,rfl,sm.trans T13,T13 _ _ hf,rn.less λ a z=>z.elim id λ z=>(by cases z),But.refl⟩ (λ j σ J _ h=>?_) (λ j x σ J hx h=>?_) (λ σ J h=>?_)
   ·obtain⟨DD,y9,y10,y11,rfl,_,_,_,b3⟩:=h
    exact SqL.of (b3 _ _ n3 v3)
   ·obtain⟨DD,y9,y10,y11,rfl,sm,hf,rn,b3⟩:=h
    have tkp:TupKeep K3 J:=λ a xs e=>b3 _ _ (λ z=>by rw[z,T13 _ _ ‹_›] at e;cases e) e
    obtain⟨p,u,v,rfl,hp,u0,un,v0,vn,arc,more⟩:∃ p u v,x=.ref p/\J p=some (.tup [.int u,.int v])/\0<=u/\u<n/\0<=v/\v<n/\(u.toNat,v.toNat,t.2.2)∈arcs ts ks/\∀ z,z∈(arcs2 t).take (j+1)->z∈(arcs2 t).take j\/z=(u.toNat,v.toNat,t.2.2):=by
     have mem:∀ z,z∈arcs2 t->z∈arcs ts ks:=λ z hz=>arcs_mem.mpr ⟨k,u6 hk,by rw[← et];exact hz⟩
     match j,hx with
     | 0,hx=>cases hx;exact⟨t1,t.1,t.2.1,rfl,tkp _ _ v1',by left,by left,by left,by left,mem _ (arcs2_mem.mpr (.inl rfl)),λ z hz=>by unfold arcs2 at *;simpa using hz⟩
     | 1,hx=>cases hx;exact⟨t2,t.2.1,t.1,rfl,tkp _ _ v2',by left,by left,by left,by left,mem _ (arcs2_mem.mpr (.inr rfl)),λ z hz=>by unfold arcs2 at *;simpa using hz⟩
    refine⟨p,_,rfl,SqT.of hp,rfl,_,_,rfl,_,_,rfl,rfl,?_⟩
    have lD:=rn.snd.len
    have next:∀ {D':List (Option Int)},Far.Rnd (arcs ts ks) n.toNat r.toNat δ D0 (Far.plus (λ z=>z∈arcs ts (ks.take i')\/z∈(arcs2 t).take j) (u.toNat,v.toNat,t.2.2)) D'->Far.Rnd (arcs ts ks) n.toNat r.toNat δ D0 (λ z=>z∈arcs ts (ks.take i')\/z∈(arcs2 t).take (j+1)) D':=λ h=>h.less λ z hz=>by
     rcases hz with hz | hz
     ·exact .inl (.inl hz)
     ·exact (more z hz).elim (λ y=>.inl (.inr y)) .inr
    have at1:=aZ u0 (dG (D:=DD) (i:=u.toNat) (by left))
    have at2:=aZ v0 (dG (D:=DD) (i:=v.toNat) (by left))
    refine⟨_,rfl,_,rfl,lf,_,_,_,rfl,rfl,SqL.of hf,at1,rfl,_,rfl,?_⟩
    cases gu:Far.get DD u.toNat with
    | none=>exact iteF ⟨DD,_,_,_,rfl,sm,hf,next (rn.no gu),b3⟩
    | some d =>
     rw[gu] at at1
     refine iteT ⟨_,rfl,_,rfl,lf,_,_,_,rfl,rfl,SqL.of hf,at1,_,rfl,_,_,rfl,rfl,?_⟩
     refine⟨_,rfl,_,rfl,lf,_,_,_,rfl,rfl,SqL.of hf,at2,rfl,_,rfl,?_⟩
     have put:∀ (hv:Far.get DD v.toNat=none\/∃ y,Far.get DD v.toNat=some y/\d+t.2.2<y),Far.Rnd (arcs ts ks) n.toNat r.toNat δ D0 (λ z=>z∈arcs ts (ks.take i')\/z∈(arcs2 t).take (j+1)) (DD.set v.toNat (some (d+t.2.2))):=λ hv=>next (rn.put dd arc (by left) gu hv P)
     have eset:(DD.map ov).set v.toNat (.int (d+t.2.2))=(DD.set v.toNat (some (d+t.2.2))).map ov:=by rw[List.map_set];rfl
     cases gv:Far.get DD v.toNat with
     | none =>
      refine iteT (iteT ?_)
      refine⟨_,rfl,_,rfl,_,rfl,lf,_,_,_,rfl,rfl,hf,dA v0 (by rw[c9];left),?_⟩
      exact⟨_,_,_,_,rfl,keepF sm,(by rw[aH,eset]),put (.inl gv),b3.trans But.upd⟩
     | some y =>
      rw[gv] at at2
      refine iteF ⟨_,rfl,_,rfl,lf,_,_,_,rfl,rfl,SqL.of hf,at2,_,rfl,_,_,rfl,rfl,_,rfl,ite2 (λ c=>?_) (λ c=>?_)⟩
      ·refine⟨_,rfl,_,rfl,_,rfl,lf,_,_,_,rfl,rfl,hf,dA v0 (by rw[c9];left),?_⟩
       exact⟨_,_,_,_,rfl,keepF sm,(by rw[aH,eset]),put (.inr ⟨y,gv,ug9 c⟩),b3.trans But.upd⟩
      ·have hy:y<=d+t.2.2:=by
        have:=uhb (ucq.mpr c);left
       exact⟨DD,_,_,_,rfl,sm,hf,next (rn.old gu gv hy),b3⟩
   ·obtain⟨DD,y9,y10,y11,rfl,sm,hf,rn,_⟩:=h
    refine⟨DD,_,_,_,_,_,_,_,_,rfl,sm,hf,rn.less λ z hz=>?_⟩
    exact (yS hk hz).elim .inl λ y=>.inr (by rw[← et] at y;exact y)
  ·obtain⟨DD,y4,y5,y6,y7,y8,y9,y10,y11,rfl,sm',hf',rn⟩:=h
   have lk:((keepI ks).map V.int).length=ks.length:=by unfold keepI;rw[c9,c9]
   rw[lk,ua1] at rn
   exact⟨DD,_,_,_,_,_,_,_,_,rfl,sm',hf',rn.snd,Far.Done.round dd P inn sd rn (λ a h=>h) dn⟩
 ·obtain⟨DD,y4,y5,y6,y7,y8,y9,y10,y11,rfl,sm,hf,sd,dn⟩:=h
  have all:=dn.all
  exact⟨_,rfl,q lf DD J sm ff hf sd.len λ v hv=>by rw[all v hv];exact dd v⟩
theorem cL {J J':Hp}{p:j9}(b:But p J J')(pp:Pot J p):TupKeep J J':=by
 obtain⟨xs,e⟩:=pp.lst
 exact λ a ys h=>b _ _ (λ z=>by rw[z,e] at h;cases h) h
def spSlack79:Sp:=λ vs H Q _=>∃ l,vs=[.ref l]/\Pot H l/\∀ t p q H',But l H H'->Pot H' l->H' t=some (.tup [.int p,.int q])->(1<=p/\p<=10^6)->(1<=q/\q<=10^6)->Q (.ref t) H'
theorem sA (T:Bi mg)(D:DefOk K mg "_law_slack" s__law_slack ["pot"])(O__law_take:‹1› "_law_take" ["pot","many"] spTake):‹2› "_law_slack" ["pot"] spSlack79:=by
 exists 1,sc__law_slack
 obtain⟨l,rfl,pp,q⟩:=h
 refine⟨_,(BSs.h (oU (zcs (i:=1) nd rfl (k8 rfl) (zbv (eU (fF (cY (BE.mk aC) (cY (BE.mk aC) dW))) (eU (fF (cY (BE.mk aC) (gY (BE.mk (aK cA aC aC)) dW))) (eU (fF (gY (BE.mk (aK cA aC aC)) (cY (BE.mk aC) dW))) (eU (fF (cY (BE.mk aC) (cY (BE.mk aC) dW))) (eU (fF (cY (BE.mk aC) (cY (BE.mk aC) dW))) (eU (fF (gY (BE.mk (aK bQ aC (aO O__law_take hr rfl (aA (pv 0) (aA aC aB))))) (gY (BE.mk (aK bQ aC (aO O__law_take hr rfl (aA (pv 0) (aA aC aB))))) dW))) dW)))))))) (oU (BS.mk (bW (bY v4 uab uaa cJ (pv 1) (aA (bN (aA (aK bQ aC (aO O__law_take hr rfl (aA (pv 0) (aA (aK cA aC aC) aB)))) (aA (aK bQ aC (aO O__law_take hr rfl (aA (pv 0) (aA (aK cA aC aC) aB)))) aB))) aB)))) (zbt (BS.mk (aR (aE aV (pv 1) (aO O__law_take hr rfl (aA (pv 0) (aA aC aB))) (λ _ _=>rfl)))))))),?_⟩
 refine⟨(by show 2<=1000;decide),λ a1 J1 S1 f1 e1=>?_⟩
 refine⟨_,_,rfl,rfl,⟨by decide,by decide,by decide⟩,(by show 2<=1000;decide),λ a2 J2 S2 f2 e2=>?_⟩
 refine⟨_,_,rfl,rfl,⟨by decide,by decide,by decide⟩,(by show 2<=1000;decide),λ a3 J3 S3 f3 e3=>?_⟩
 refine⟨(by show 2<=1000;decide),λ a4 J4 S4 f4 e4=>?_⟩
 refine⟨(by show 2<=1000;decide),λ a5 J5 S5 f5 e5=>?_⟩
 have S15:=S1.trans (S2.trans (S3.trans (S4.trans S5)))
 have p5:=pp.same S15
 refine⟨_,rfl,l,9,rfl,p5,by decide,by decide,λ r1 J6 r10 r11 b6 p6=>⟨_,_,rfl,rfl,?_⟩⟩
 refine⟨_,rfl,l,9,rfl,p6,by decide,by decide,λ r2 J7 r20 r21 b7 p7=>⟨_,_,rfl,rfl,?_⟩⟩
 refine⟨(by show 2<=1000;decide),λ a6 J8 S8 f8 e8=>?_⟩
 refine⟨(by show 6<=1000;decide),λ ll J9 S9 f9 e9=>?_⟩
 have p9:=(p7.same S8).same S9
 obtain⟨xs8,e8l⟩:=(p7.same S8).lst
 have nll:ll≠l:=λ z=>by rw[z,e8l] at f9;cases f9
 have k5:=cL b6 p5
 have k6:=cL b7 p6
 have k59:TupKeep J5 J9:=λ a ys e=>S9 _ _ (S8 _ _ (k6 _ _ (k5 _ _ e)))
 refine⟨_,rfl,.inl ⟨rfl,_,SqL.of e9⟩,?_⟩
 refine⟨_,rfl,_,_,rfl,rfl,⟨by decide,by decide,by decide⟩,l,_,rfl,p9,by decide,by decide,λ r3 JA r30 r31 bA pA=>⟨_,_,rfl,rfl,?_⟩⟩
 refine⟨_,rfl,_,_,rfl,rfl,⟨by decide,by decide,by decide⟩,l,_,rfl,pA,by decide,by decide,λ r4 JB r40 r41 bB pB=>⟨_,_,rfl,rfl,?_⟩⟩
 refine⟨(by show 2<=1000;decide),λ a7 JC SC fC eC=>?_⟩
 have k9:=cL bA p9
 have kA:=cL bB pA
 have e9C:=SC _ _ (bB _ _ nll (bA _ _ nll e9))
 have pC:=pB.same SC
 refine⟨ll,_,_,rfl,rfl,e9C,(by show 6<1000;decide),λ JD bD eD=>?_⟩
 have nl2:l≠ll:=Ne.symm nll
 have pD:Pot JD l:=by obtain⟨x,y,e,z⟩:=pC;exact⟨x,y,bD _ _ nl2 e,z⟩
 refine⟨_,rfl,_,rfl,l,7,rfl,pD,by decide,by decide,λ r7 JE r70 r71 bE pE=>?_⟩
 have eE:=bE _ _ nll eD
 have k5E:TupKeep J5 JE:=λ a ys e=>cL bE pD _ _ (bD _ _ (λ z=>by have:=SC _ _ (kA _ _ (k9 _ _ (k59 _ _ e)));rw[z,e9C] at this;cases this) (SC _ _ (kA _ _ (k9 _ _ (k59 _ _ e)))))
 have keepC:∀ a ys,JC a=some (.tup ys)->JE a=some (.tup ys):=λ a ys e=>cL bE pD _ _ (bD _ _ (λ z=>by rw[z,e9C] at e;cases e) e)
 have B : But l H JE := λ bb o z e => bE _ _ z (bD _ _ (λ y => by
     have:J8 bb=some o:=S8 _ _ (b7 _ _ z (b6 _ _ z (S15 _ _ e)))
     rw[y,f9] at this;cases this) (SC _ _ (bB _ _ z (bA _ _ z (S9 _ _ (S8 _ _ (b7 _ _ z (b6 _ _ z (S15 _ _ e)))))))))
 have t1:=k5E _ _ (S5 _ _ (S4 _ _ (S3 _ _ (S2 _ _ e1))))
 have t2:=k5E _ _ (S5 _ _ (S4 _ _ (S3 _ _ e2)))
 have t3:=k5E _ _ (S5 _ _ (S4 _ _ e3))
 have t4:=k5E _ _ (S5 _ _ e4)
 have t5:=k5E _ _ e5
 have t6:=keepC _ _ (SC _ _ (kA _ _ (k9 _ _ (S9 _ _ e8))))
 have t7:=keepC _ _ eC
 have big:(10:Int)^(6:Int).toNat=10^6:=rfl
 have:r7=0\/r7=1\/r7=2\/r7=3\/r7=4\/r7=5\/r7=6:=by left
 rcases this with rfl | rfl | rfl | rfl | rfl | rfl | rfl
 ·exact⟨ll,_,_,_,rfl,rfl,SqL.of eE,rfl,q a1 _ _ JE B pE t1 ⟨by decide,by decide⟩ ⟨by decide,by decide⟩⟩
 ·exact⟨ll,_,_,_,rfl,rfl,SqL.of eE,rfl,q a2 _ _ JE B pE t2 ⟨by decide,by decide⟩ ⟨by decide,by decide⟩⟩
 ·exact⟨ll,_,_,_,rfl,rfl,SqL.of eE,rfl,q a3 _ _ JE B pE t3 ⟨by decide,by decide⟩ ⟨by decide,by decide⟩⟩
 ·exact⟨ll,_,_,_,rfl,rfl,SqL.of eE,rfl,q a4 _ _ JE B pE t4 ⟨by decide,by decide⟩ ⟨by decide,by decide⟩⟩
 ·exact⟨ll,_,_,_,rfl,rfl,SqL.of eE,rfl,q a5 _ _ JE B pE t5 ⟨by decide,by decide⟩ ⟨by decide,by decide⟩⟩
 ·exact⟨ll,_,_,_,rfl,rfl,SqL.of eE,rfl,q a6 _ _ JE B pE t6 ⟨by left,by left⟩ ⟨by left,by left⟩⟩
 ·exact⟨ll,_,_,_,rfl,rfl,SqL.of eE,rfl,q a7 _ _ JE B pE t7 ⟨by left,by left⟩ ⟨by left,by left⟩⟩
def spMost79:Sp:=λ vs H Q _=>∃ (p:j9)(k most:Int),vs=[.ref p,.int k,.int most]/\Pot H p/\1<=most/\most<=24/\∀ m H',But p H H'->Pot H' p->1<=m->m<=24->Q (.int m) H'
theorem sN (T:Bi mg)(D:DefOk K mg "_law_most" s__law_most ["pot","k","most"])(O__law_take:‹1› "_law_take" ["pot","many"] spTake):‹2› "_law_most" ["pot","k","most"] spMost79:=by
 exists 1,sc__law_most
 obtain⟨p,k,m,rfl,hp,m1,m24,q⟩:=h
 refine⟨_,(aG (aR (aE aV (bJ (aA (pv 2) (aA aC aB))) (aY yN rfl T.z_int (by symm) (aA (fH (bS bL (pv 1) aC (nomark _)) (cQ (bS bL (aO O__law_take hr rfl (aA (pv 0) (aA aC aB))) aC (nomark _)))) aB)) (λ _ _=>rfl)))),?_⟩
 refine⟨_,rfl,(by show 2<=1000;decide),λ l1 J1 S1 f1 e1=>?_⟩
 have nl:l1≠p:=λ z=>by
  obtain⟨a',b',e',_⟩:=hp
  rw[z,e'] at f1;cases f1
 have B1:But p H J1:=Same.but S1
 refine⟨_,rfl,rfl,_,rfl,ite2 (λ c=>?_) (λ c=>?_)⟩
 ·refine⟨_,rfl,p,8,rfl,hp.same S1,by decide,by decide,λ r J2 _ _ b2 p2=>⟨rfl,.inr ⟨_,rfl,?_⟩⟩⟩
  cases decide (V.int r=V.int 0) with
  | true=>exact⟨l1,_,_,_,rfl,rfl,SqL.of (b2 _ _ nl e1),rfl,q 24 J2 (B1.trans b2) p2 (by decide) (by decide)⟩
  | false=>exact⟨l1,_,_,_,rfl,rfl,SqL.of (b2 _ _ nl e1),rfl,q m J2 (B1.trans b2) p2 m1 m24⟩
 ·exact .inr ⟨_,rfl,l1,_,_,_,rfl,rfl,SqL.of e1,rfl,q m J1 B1 (hp.same S1) m1 m24⟩
def evR (ts:List Tie):Dfs.Ev->List V
 | .go h t=>[.int (t:Int),.int (tlen ts h t),.bl true]
 | .back t (some h)=>[.int (h:Int),.int (tlen ts h t),.bl false]
 | .back _ none=>[]
def RowsE (ts:List Tie)(J:Hp)(ys:List V)(es:List Dfs.Ev):Prop:=ys.length=es.length/\∀ (i:Nat)(e:Dfs.Ev)(v:V),es[i]?=some e->ys[i]?=some v->∃ a,v=.ref a/\J a=some (.tup (evR ts e))
theorem RowsE.tk {ts:List Tie}{J J':Hp}{ys:List V}{es:List Dfs.Ev}(h:RowsE ts J ys es)(k:TupKeep J J'):RowsE ts J' ys es:=⟨h.1,λ i e v he hv=>by
 obtain⟨a,ea,ha⟩:=h.2 i e v he hv
 exact⟨a,ea,k _ _ ha⟩⟩
theorem RowsE.app {ts:List Tie}{J:Hp}{ys zs:List V}{es fs:List Dfs.Ev}(h:RowsE ts J ys es)(g:RowsE ts J zs fs):RowsE ts J (ys++zs) (es++fs):=⟨by rw[i9,i9,h.1,g.1],λ i e v he hv=>by
 by_cases c:i<es.length
 ·rw[uck c] at he
  rw[uck (by rw[h.1];exact c)] at hv
  exact h.2 i e v he hv
 ·rw[uaq (by left)] at he
  rw[uaq (by rw[h.1];left),h.1] at hv
  exact g.2 _ e v he hv⟩
theorem RowsE.one {ts:List Tie}{J:Hp}{a:j9}{e:Dfs.Ev}(h:J a=some (.tup (evR ts e))):RowsE ts J [.ref a] [e]:=⟨rfl,λ i e' v he hv=>by
 cases i with
 | zero=>cases he;cases hv;exact⟨a,rfl,h⟩
 | succ i=>cases he⟩
def spGone79 (K:c6)(f:Nat):Sp:=λ vs H Q _=>∃ (n:Int)(ts:List Tie)(ks:List Nat)(wv:V)(fp kp:j9)(here:Nat)(known:List Nat),vs=[wv,.ref fp,.int (here:Int),.ref kp]/\Is K H (webD n ts) wv/\WebOk n ts/\KeepOk ts.length ks/\H fp=some (.lst (natV ks))/\here<n.toNat/\H kp=some (.lst (natV known))/\fp≠kp/\known.Nodup/\(∀ x∈known,x<n.toNat)/\Dfs.left n.toNat known<f /\
 ∀ l ys H',But kp H H'->H l=none->H' kp=some (.lst (natV (Dfs.gone (tiedN ts ks) n.toNat f here known).2))->H' l=some (.lst ys)->RowsE ts H' ys (Dfs.gone (tiedN ts ks) n.toNat f here known).1->Q (.ref l) H'
theorem vF (T:Bi mg)(D:DefOk K mg "_law_gone" s__law_gone ["web","forest","here","known"]):‹1› "_law_gone" ["web","forest","here","known"] (spGone79 K 0):=by
 exists 0,sc__law_gone,sc__law_gone
 ·obtain⟨_,_,_,_,_,_,_,_,_,_,_,_,_,_,_,_,_,_,z,_⟩:=h
  exact absurd z (ucs _)
 ·obtain⟨_,_,_,_,_,_,_,_,_,_,_,_,_,_,_,_,_,_,z,_⟩:=h
  exact absurd z (ucs _)
theorem vE (fu:Nat)(T:Bi mg)(D:DefOk K mg "_law_gone" s__law_gone ["web","forest","here","known"])(O__law_gone:Ok P w K mg base (fu+1) "_law_gone" ["web","forest","here","known"] (spGone79 K fu)):Ok P w K mg base (fu+2) "_law_gone" ["web","forest","here","known"] (spGone79 K (fu+1)):=by
 refine kN (k:=fu+1) D sc__law_gone (λ vs H Q E h=>?_) (λ f cdv A outer s H vs Q E hr h=>?_)
 ·obtain⟨n,ts,ks,wv,fp,kp,here,known,rfl,_⟩:=h
  rfl
 obtain⟨n,ts,ks,wv,fp,kp,here,known,rfl,isw,ok,ko,hfp,hn,hkp,nfk,knd,klt,hleft,q⟩:=h
 have nd:=sc__law_gone.nd
 have few60:=ok.few
 have n24:=ok.n24
 obtain⟨g0,g,ws,rfl,hg0,hg,hall,hlw⟩:=bU isw
 have hu:∀ {x:Nat},x<=3->(A.deeper (envOfC "_law_gone" (defScope s__law_gone) s.heap.objs.size f cdv)).units+x<cLine:=λ {x} hu=>by have:=hr.units;left
 have lks:=ko.len
 have lkN:=bC ks
 obtain⟨tb,etb⟩:∃ tb,tb=tiedN ts ks:=⟨_,rfl⟩
 obtain⟨g',eg'⟩:∃ g',g'=Dfs.gone tb n.toNat fu:=⟨_,rfl⟩
 have gmono:∀ t ks j,j∈ks->j∈(g' t ks).2:=λ t ks j h=>by rw[eg'];exact Dfs.gone_mono fu t ks j h
 have gkn:∀ t ks,ks.Nodup->(∀ x∈ks,x<n.toNat)->Dfs.Kn n.toNat ks (g' t ks):=λ t ks a b=>by rw[eg'];exact Dfs.gone_kn fu t ks a b
 obtain⟨G,eG⟩:∃ G:Nat->List Dfs.Ev × List Nat,G=λ j=>Dfs.goneL tb g' here (c7 j) known:=⟨_,rfl⟩
 have Gkn:∀ j,j<=n.toNat->Dfs.Kn n.toNat known (G j):=λ j hj=>by
  rw[eG]
  exact Dfs.goneL_kn gkn _ known (λ x hx=>m7 (j4.mp hx) hj) knd klt
 have few:∀ {c:List Nat},c.Nodup->(∀ x∈c,x<n.toNat)->c.length<=24:=λ a b=>by have:=Peel.cV n.toNat _ a b;left
 refine⟨_,(aD (aN (i:=4) nd rfl (k8 rfl) (bJ aB)) (aD (bP PassesOwn.never rfl (cU rfl T.z_range (aA (aE aU (pv 0) aC (λ _ _=>rfl)) aB)) (aJ (i:=5) nd rfl (k8 rfl)) (aG (bP PassesOwn.never rfl (bR (pv 1)) (aJ (i:=6) nd rfl (k8 rfl)) (aD (bX (aE aU (aE aU (pv 0) aC (λ _ _=>rfl)) (pv 6) (λ _ _=>rfl)) (cC (n:=3) rfl (aS (aJ (i:=7) nd rfl (k8 rfl)) (aS (aJ (i:=8) nd rfl (k8 rfl)) (aS (aJ (i:=9) nd rfl (k8 rfl)) bM))))) (aG (bH (PW.pt (jZ (aT kY (pv 5) (pv 3) (by with_unfolding_all rfl)) (jP (aT kD (bN (aA (pv 7) (aA (pv 8) aB))) (bN (aA (aX (gR rfl) rfl T.z_min (by symm) (aA (pv 2) (aA (pv 5) aB))) (aA (aX (fP rfl) rfl T.z_max (by symm) (aA (pv 2) (aA (pv 5) aB))) aB))) (nomark _))))) (aD (bW (bY v4 uab uaa cJ (pv 3) (aA (pv 5) aB))) (aG (aN (i:=4) nd rfl (k8 rfl) (aK fD (aK fD (aK fD (pv 4) (bJ (aA (bN (aA (pv 5) (aA (pv 9) (aA cR aB)))) aB))) (aO O__law_gone hr rfl (aA (pv 0) (aA (pv 1) (aA (pv 5) (aA (pv 3) aB)))))) (bJ (aA (bN (aA (pv 2) (aA (pv 9) (aA cR aB)))) aB)))))) bG)))))) (aG (aR (pv 4))))),?_⟩
 refine⟨(by show 0<=1000;decide),λ l0 J0 S0 f0 e0=>?_⟩
 refine⟨_,rfl,g0,_,_,_,rfl,rfl,SqT.of (S0 _ _ hg0),rfl,_,rfl,by left,by left,?_⟩
 refine eK (n:=n.toNat) (λ j σ J=>∃ (lf:j9)(ys:List V)(y5 y6 y7 y8 y9:Option V),σ=[some (.ref g0),some (.ref fp),some (.int (here:Int)),some (.ref kp),some (.ref lf),y5,y6,y7,y8,y9]/\But kp H J/\J kp=some (.lst (natV (G j).2))/\H lf=none/\J lf=some (.lst ys)/\RowsE ts J ys (G j).1) ⟨l0,[],none,none,none,none,none,rfl,Same.but S0,by rw[eG];exact S0 _ _ hkp,f0,e0,⟨by rw[eG];rfl,λ i e v he=>by rw[eG] at he;cases he⟩⟩ (λ j σ J hj h=>?_) (λ σ J h=>?_)
 ·obtain⟨lf,ys,y5,y6,y7,y8,y9,rfl,b,hk,nf,hf,rows⟩:=h
  obtain⟨E0,eE0⟩:∃ E0,E0=(G j).1:=⟨_,rfl⟩
  obtain⟨K0,eK0⟩:∃ K0,K0=(G j).2:=⟨_,rfl⟩
  have kn:=Gkn j (by left)
  rw[← eK0] at hk
  rw[← eE0] at rows
  unfold Dfs.Kn at kn
  rw[← eK0,← eE0] at kn
  obtain⟨X,eX⟩:∃ X:List Dfs.Ev × List Nat,X=(Dfs.Ev.go here j::((g' j (K0++[j])).1++[.back j (some here)]),(g' j (K0++[j])).2):=⟨_,rfl⟩
  obtain⟨dn,edn⟩:∃ dn:Nat->Bool,dn=λ i=>(ks.take i).any (isTB ts here j)&&decide (j∉K0):=⟨_,rfl⟩
  have fpk:fp≠kp:=nfk
  have next:G (j+1)=if dn ks.length=true then (E0++X.1,X.2) else (E0,K0):=by
   rw[eG,edn]
   show Dfs.goneL tb g' here (c7 (j+1)) known=if ((ks.take ks.length).any (isTB ts here j)&&decide (j∉K0))=true then _ else _
   rw[ua1]
   rw[ud4,Dfs.goneL_app,Dfs.goneL_one]
   rw[show Dfs.goneL tb g' here (c7 j) known=G j by rw[eG],← eE0,← eK0,etb,iQ ok ko]
   by_cases c:ks.any (isTB ts here j)=true/\j∉K0
   ·rw[uhc c,uhc (by rw[c.1,ug8 c.2];rfl),eX]
   ·rw[uhd c,uhd (λ z=>c ⟨(uaj _ _ ▸ z).1,ug9 (uaj _ _ ▸ z).2⟩),ubi]
  have step:∀ i k,ks[i]?=some k->dn (i+1)=(dn i||(isTB ts here j k&&decide (j∉K0))):=λ i k hk=>by
   rw[edn]
   show ((ks.take (i+1)).any _&&_)=((ks.take i).any _&&_||_)
   rw[ucl,hk,List.any_append]
   cases (ks.take i).any (isTB ts here j) <;> cases decide (j∉K0) <;> simp
  refine⟨_,rfl,fp,rfl,⟨_,SqL.of (b _ _ fpk hfp)⟩,?_⟩
  refine cX (xs:=natV ks) (λ i σ J'=>∃ (lf:j9)(ys:List V)(y6 y7 y8 y9:Option V),σ=[some (.ref g0),some (.ref fp),some (.int (here:Int)),some (.ref kp),some (.ref lf),some (.int (0+(j:Int))),y6,y7,y8,y9]/\But kp H J'/\J' kp=some (.lst (natV (if dn i=true then X.2 else K0)))/\H lf=none/\J' lf=some (.lst ys)/\RowsE ts J' ys (if dn i=true then E0++X.1 else E0)) ⟨lf,ys,y6,y7,y8,y9,rfl,b,by rw[edn];exact hk,nf,hf,by rw[edn];exact rows⟩ (λ i σ J' _ h=>?_) (λ i x σ J' hx h=>?_) (λ σ J' h=>?_)
  ·obtain⟨lf',ys',y6',y7',y8',y9',rfl,b',_⟩:=h
   exact SqL.of (b' _ _ fpk hfp)
  ·obtain⟨lf',ys',y6',y7',y8',y9',rfl,b',hk',nf',hf',rows'⟩:=h
   obtain⟨k,hkk,rfl⟩:=bK hx
   have hkl:=ko.2 k (u6 hkk)
   have st:=step i k hkk
   obtain⟨ta,hta,htie⟩:=bV hall hkl
   have tk':∀ {a xs},H a=some (.tup xs)->J' a=some (.tup xs):=λ {a xs} e=>b' _ _ (λ z=>by rw[z,hkp] at e;cases e) e
   refine⟨_,rfl,g0,_,_,_,rfl,rfl,SqT.of (tk' hg0),rfl,_,rfl,g,_,_,_,rfl,rfl,SqT.of (tk' hg),aZ (m8 _) hta,?_⟩
   refine⟨ta,_,rfl,SqT.of (tk' htie),rfl,_,_,rfl,_,_,rfl,_,_,rfl,rfl,?_⟩
   refine⟨_,rfl,_,rfl,kp,_,rfl,.inl (SqL.of hk'),rfl,gU _,_,rfl,?_⟩
   show if (!inV (V.int (0+(j:Int))) (natV _))=true then _ else _
   rw[jW (by left),show (0+(j:Int)).toNat=j by left]
   cases ed:dn i with
   | true =>
    rw[ed] at hk' rows' st
    rw[uhc rfl] at hk' rows'
    have inX:j∈X.2:=by rw[eX];exact gmono j _ j (r8 _ i5)
    rw[uhc rfl,ug8 inX]
    refine iteF (iteF ?_)
    rw[Bool.true_or] at st
    exact⟨lf',ys',_,_,_,_,rfl,b',by rw[st];exact hk',nf',hf',by rw[st];exact rows'⟩
   | false =>
    rw[ed] at hk' rows' st
    rw[uhd (by decide)] at hk' rows'
    rw[Bool.false_or] at st
    show if (!decide (j∈K0))=true then _ else _
    by_cases jK:j∈K0
    ·rw[ug8 jK]
     refine iteF (iteF ?_)
     rw[uha (λ z=>z jK),Bool.and_false] at st
     exact⟨lf',ys',_,_,_,_,rfl,b',by rw[st];exact hk',nf',hf',by rw[st];exact rows'⟩
    rw[uha jK]
    rw[ug8 jK,Bool.and_true] at st
    refine iteT ?_
    refine⟨_,rfl,_,rfl,(by show 2<=1000;decide),λ t1 J1 S1 f1 e1=>?_⟩
    refine⟨_,rfl,_,rfl,_,_,rfl,_,rfl,_,rfl,_,_,rfl,(by show 2<=1000;decide),λ t2 J2 S2 f2 e2=>?_⟩
    have e1':J2 t1=some (.tup (([(tieAt ts k).1,(tieAt ts k).2.1]:List Int).map V.int)):=S2 _ _ e1
    have em1:(if 0+(j:Int)<(here:Int) then 0+(j:Int) else (here:Int))=min (here:Int) j:=by split <;> left
    have em2:(if 0+(j:Int)>(here:Int) then 0+(j:Int) else (here:Int))=max (here:Int) j:=by split <;> left
    rw[em1,em2] at e2
    have e2':J2 t2=some (.tup (([min (here:Int) j,max (here:Int) j]:List Int).map V.int)):=e2
    refine⟨tupI [(tieAt ts k).1,(tieAt ts k).2.1],tupI [min (here:Int) j,max (here:Int) j],⟨t1,_,rfl,e1',IsAll.ints _⟩,⟨t2,_,rfl,e2',IsAll.ints _⟩,cD [(tieAt ts k).1,(tieAt ts k).2.1],cD [min (here:Int) j,max (here:Int) j],?_,_,rfl,?_⟩
    ·have d1:=eM [(tieAt ts k).1,(tieAt ts k).2.1]
     have d2:udj (tupI [(tieAt ts k).1,(tieAt ts k).2.1])=uda (([(tieAt ts k).1,(tieAt ts k).2.1]:List Int).map .int)+1:=rfl
     exact ubv (Nat.add_le_add_left (ugl _ _) _) (by rw[d2];exact hu (by left))
    show if ufc (.tuple (([(tieAt ts k).1,(tieAt ts k).2.1]:List Int).map .int)) (.tuple (([min (here:Int) j,max (here:Int) j]:List Int).map .int))=true then _ else _
    rw[jJ,show (decide ((tieAt ts k).1=min (here:Int) j)&&decide ((tieAt ts k).2.1=max (here:Int) j))=isTB ts here j k from rfl]
    have S12:=S1.trans S2
    cases eb:isTB ts here j k with
    | false =>
     rw[eb] at st
     refine iteF ?_
     exact⟨lf',ys',_,_,_,_,rfl,λ bb o z e=>S12 _ _ (b' _ _ z e),by rw[st];exact S12 _ _ hk',nf',S12 _ _ hf',by rw[st];exact rows'.tk λ a ys e=>S12 _ _ e⟩
    | true =>
     rw[eb] at st
     refine iteT ?_
     rw[show (0+(j:Int))=(j:Int) by left]
     have hk2:=S12 _ _ hk'
     have l0:=few kn.1 kn.2.1
     have l1:=bC K0
     have jn:(K0++[j]).Nodup:=by
      rw[ucm]
      exact⟨kn.1,by simp,λ a ha b hb=>by rw[j5.mp hb];exact λ z=>jK (z ▸ ha)⟩
     have jl:∀ x∈K0++[j],x<n.toNat:=λ x hx=>by
      rcases o9.mp hx with z | z
      ·exact kn.2.1 x z
      ·rw[j5.mp z];exact hj
     have kj:=gkn j (K0++[j]) jn jl
     have l2:=few kj.1 kj.2.1
     have l3:=kj.2.2
     rw[i9,u5] at l3
     refine⟨_,rfl,.inl ⟨rfl,_,SqL.of hk2⟩,_,rfl,kp,_,_,rfl,rfl,hk2,by left,λ J3 b3 e3=>?_⟩
     have e3':J3 kp=some (.lst (natV (K0++[j]))):=by rw[e3,cH];rfl
     have nlf:lf'≠kp:=λ z=>by rw[z,hkp] at nf';cases nf'
     have hf3:=b3 _ _ nlf (S12 _ _ hf')
     refine⟨_,rfl,_,rfl,_,rfl,(by show 3<=1000;decide),λ r1 J4 S4 f4 e4=>⟨(by show 1<=1000;decide),λ l4 J5 S5 f5 e5=>?_⟩⟩
     refine⟨lf',l4,ys',[.ref r1],rfl,rfl,S5 _ _ (S4 _ _ hf3),e5,by rw[rows'.1];show _+1<=_;left,λ l5 J6 S6 f6 e6=>?_⟩
     have S36:=S4.trans (S5.trans S6)
     have b6:But kp H J6:=λ bb o z e=>S36 _ _ (b3 _ _ z (S12 _ _ (b' _ _ z e)))
     have k6:=S36 _ _ e3'
     have is6:Is K J6 (webD n ts) (.ref g0):=gF (λ a xs e=>b6 _ _ (λ z=>by rw[z,hkp] at e;cases e) e) _ (eV n ts) isw
     refine⟨_,rfl,_,rfl,_,rfl,_,rfl,n,ts,ks,_,fp,kp,j,K0++[j],rfl,is6,ok,ko,b6 _ _ fpk hfp,hj,k6,nfk,jn,jl,?_,λ lr zs J7 b7 f7 k7 h7 rows7=>?_⟩
     ·have a:=Dfs.left_lt (n:=n.toNat) hj jK
      have sub:∀ x,x∈known->x∈K0:=λ x hx=>by rw[eK0,eG];exact Dfs.goneL_mono gmono here _ known x hx
      have c:=Dfs.left_le (n:=n.toNat) sub
      left
     rw[← etb,← eg'] at k7 rows7
     have n5:l5≠kp:=λ z=>by rw[z,S5 _ _ (S4 _ _ e3')] at f6;cases f6
     refine⟨l5,lr,_,_,rfl,rfl,b7 _ _ n5 e6,h7,by rw[i9,rows'.1,rows7.1];show _+1+_<=_;left,λ l8 J8 S8 f8 e8=>?_⟩
     refine⟨_,rfl,_,rfl,(by show 3<=1000;decide),λ r2 J9 S9 f9 e9=>⟨(by show 1<=1000;decide),λ l9 JA SA fA eA=>?_⟩⟩
     refine⟨l8,l9,_,_,rfl,rfl,SA _ _ (S9 _ _ e8),eA,by rw[i9,i9,rows'.1,rows7.1];show _+1+_+1<=_;left,λ lz JB SB fB eB=>?_⟩
     have S8B:=S8.trans (S9.trans (SA.trans SB))
     have bA:But kp H JA:=λ bb o z e=>SA _ _ (S9 _ _ (S8 _ _ (b7 _ _ z (b6 _ _ z e))))
     have kA:=SA _ _ (S9 _ _ (S8 _ _ k7))
     have tk7:TupKeep J6 J7:=λ a ys e=>b7 _ _ (λ z=>by rw[z,k6] at e;cases e) e
     have tkB:TupKeep J6 JB:=λ a ys e=>S8B _ _ (tk7 _ _ e)
     have tk3:TupKeep J' J3:=λ a ys e=>b3 _ _ (λ z=>by rw[z,hk'] at e;cases e) (S12 _ _ e)
     have tl:=zaa ok hkl eb
     refine⟨lz,_,_,_,_,_,rfl,λ bb o z e=>SB _ _ (bA _ _ z e),?_,?_,eB,?_⟩
     ·rw[st,uhc rfl,SB _ _ kA,eX]
     ·cases eH:H lz with
      | none=>rfl
      | some o =>
       by_cases z:lz=kp
       ·rw[z,kA] at fB;cases fB
       ·rw[bA _ _ z eH] at fB;cases fB
     ·rw[st,uhc rfl,eX]
      have eE:E0++(Dfs.Ev.go here j::((g' j (K0++[j])).1++[Dfs.Ev.back j (some here)]))=((E0++[Dfs.Ev.go here j])++(g' j (K0++[j])).1)++[Dfs.Ev.back j (some here)]:=by simp
      show RowsE ts JB _ (E0++(Dfs.Ev.go here j::((g' j (K0++[j])).1++[Dfs.Ev.back j (some here)])))
      rw[eE]
      refine ((((rows'.tk tk3).tk λ a ys e=>S36 _ _ e).app (RowsE.one ?_)).tk tkB |>.app (rows7.tk λ a ys e=>S8B _ _ e)).app (RowsE.one ?_)
      ·rw[S6 _ _ (S5 _ _ e4),tl];rfl
      ·rw[SB _ _ (SA _ _ e9),tl];rfl
  ·obtain⟨lf',ys',y6',y7',y8',y9',rfl,b',hk',nf',hf',rows'⟩:=h
   rw[lkN] at hk' rows'
   refine⟨lf',ys',_,_,_,_,_,rfl,b',?_,nf',hf',?_⟩
   ·rw[hk',next];split <;> rfl
   ·rw[next]
    by_cases c:dn ks.length=true
    ·rw[uhc c] at rows' ⊢;exact rows'
    ·rw[uhd c] at rows' ⊢;exact rows'
 ·obtain⟨lf,ys,y5,y6,y7,y8,y9,rfl,b,hk,nf,hf,rows⟩:=h
  have e1:G n.toNat=Dfs.gone (tiedN ts ks) n.toNat (fu+1) here known:=by rw[eG,eg',etb];rfl
  rw[e1] at hk rows
  exact⟨_,rfl,q lf ys J b nf hk hf rows⟩
theorem lU (T:Bi mg)(D:DefOk K mg "_law_gone" s__law_gone ["web","forest","here","known"]):∀ f:Nat,Ok P w K mg base (f+1) "_law_gone" ["web","forest","here","known"] (spGone79 K f)
 | 0=>vF T D
 | f+1=>vE f T D (lU T D f)
def spLPut79 (K:c6):Sp:=λ vs H Q _=>∃ (n:Int)(ts:List Tie)(ks:List Nat)(wv:V)(fp sp lD:j9)(r:Nat)(p q:Int)(FD:List (Option Int)),vs=[wv,.ref fp,.int (r:Int),.ref sp,.ref lD]/\Is K H (webD n ts) wv/\WebOk n ts/\KeepOk ts.length ks/\H fp=some (.lst (natV ks))/\r<n.toNat/\H sp=some (.tup [.int p,.int q])/\(0<=p/\p<=10^9)/\(0<=q/\q<=10^9)/\H lD=some (.lst (FD.map ov))/\FD.length=n.toNat/\(∀ v,v<n.toNat->Far.Dst (arcs ts (c7 ts.length)) r v (Far.get FD v)) /\
 ∀ l H',Same H H'->H l=none->H' l=some (.lst (natV ((Dfs.gone (tiedN ts ks) n.toNat 24 r [r]).1.foldl (goS ts (farZ (arcs ts (c7 ts.length)) r) p q) (0,[])).2))->Q (.ref l) H'
theorem tL (T:Bi mg)(D:DefOk K mg "_law_put" s__law_put ["web","forest","root","slack","fars"])(O__law_gone:‹25› "_law_gone" ["web","forest","here","known"] (spGone79 K 24)):‹26› "_law_put" ["web","forest","root","slack","fars"] (spLPut79 K):=by
 exists 25,sc__law_put
 obtain⟨n,ts,ks,wv,fp,sp,lD,r,p,q,FD,rfl,isw,ok,ko,hfp,hrn,hsp,⟨p0,p9⟩,⟨q0,q9⟩,hD,lFD,dst,fin⟩:=h
 have few60:=ok.few
 have n24:=ok.n24
 refine⟨_,(aD (bX (pv 3) (cC (n:=2) rfl (aS (aJ (i:=5) nd rfl (k8 rfl)) (aS (aJ (i:=6) nd rfl (k8 rfl)) bM)))) (aD (aN (i:=7) nd rfl (k8 rfl) aC) (aD (aN (i:=8) nd rfl (k8 rfl) (bJ aB)) (aD (bP PassesOwn.never rfl (bR (aO O__law_gone hr rfl (aA (pv 0) (aA (pv 1) (aA (pv 2) (aA (bJ (aA (pv 2) aB)) aB)))))) (cC (n:=3) rfl (aS (aJ (i:=9) nd rfl (k8 rfl)) (aS (aJ (i:=10) nd rfl (k8 rfl)) (aS (aJ (i:=11) nd rfl (k8 rfl)) bM)))) (aD (zb4 (i:=7) nd rfl (k8 rfl) (pv 10) zcp) (aG (bH (PW.pt (jZ (fG (pv 11)) (jP (aT dH (aK dD (pv 6) (pv 7)) (aK dD (aK bQ (pv 5) (pv 6)) (aE aV (pv 4) (pv 9) (λ _ _=>rfl))) (nomark _))))) (aD (bW (bY v4 uab uaa cJ (pv 8) (aA (pv 9) aB))) (aG (aN (i:=7) nd rfl (k8 rfl) (aE aV (pv 4) (pv 9) (λ _ _=>rfl))))) bG)))) (aG (aR (pv 8))))))),?_⟩
 refine⟨_,rfl,sp,_,rfl,SqT.of hsp,rfl,_,_,rfl,_,_,rfl,rfl,?_⟩
 refine⟨(by show 0<=1000;decide),λ lp J1 S1 f1 e1=>?_⟩
 have left0:Dfs.left n.toNat [r]<24:=by
  have a:=Dfs.left_lt (n:=n.toNat) (ks:=[]) hrn (by simp)
  have b:Dfs.left n.toNat []<=n.toNat:=by
   unfold Dfs.left
   exact uas (List.length_filter_le _ _) (by rw[l7];exact h9 _)
  rw[ucn] at a
  left
 have nd1:[r].Nodup:=by simp
 have lt1:∀ x∈[r],x<n.toNat:=λ x hx=>by rw[j5.mp hx];exact hrn
 refine⟨_,rfl,_,rfl,_,rfl,_,rfl,(by show 1<=1000;decide),λ kl J2 S2 f2 e2=>?_⟩
 have S12:=S1.trans S2
 have nkl:fp≠kl:=aP (S1 _ _ hfp) f2
 have npk:lp≠kl:=aP e1 f2
 refine⟨n,ts,ks,wv,fp,kl,r,[r],rfl,Is.same S12 _ isw,ok,ko,S12 _ _ hfp,hrn,e2,nkl,nd1,lt1,left0,λ lr zs J3 b3 f3 k3 h3 rows3=>?_⟩
 obtain⟨es,ees⟩:∃ es,es=(Dfs.gone (tiedN ts ks) n.toNat 24 r [r]).1:=⟨_,rfl⟩
 have fine:∀ e∈es,e.fine:=λ e he=>Dfs.gone_fine 24 r [r] e (by rw[← ees];exact he)
 have kn:Dfs.Kn n.toNat [r] (Dfs.gone (tiedN ts ks) n.toNat 24 r [r]):=Dfs.gone_kn 24 r [r] nd1 lt1
 have run:=Dfs.gone_root (tied:=tiedN ts ks) (n:=n.toNat) (f:=24) (root:=r) left0
 have les:es.length<=48:=by
  have a:=Peel.cV n.toNat _ kn.1 kn.2.1
  have b:=kn.2.2
  rw[← ees] at b
  have:[r].length=1:=rfl
  left
 rw[← ees] at rows3 fin run
 have goOk:∀ a b,Dfs.Ev.go a b∈es->b<n.toNat/\∃ L,Far.Walk (arcs ts (c7 ts.length)) r b L:=λ a b h =>
  run.go_ok (Rc:=λ x=>∃ L,Far.Walk (arcs ts (c7 ts.length)) r x L) (λ x y rx tx=>fW ok ko ((eF ok ko).mp tx) rx) (λ x hx=>by rw[j5.mp hx];exact⟨0,.nil⟩) a b (uag _ h)
 refine⟨lr,rfl,⟨_,SqL.of h3⟩,?_⟩
 have b13:∀ bb o,H bb=some o->J3 bb=some o:=λ bb o e=>b3 _ _ (aP (S1 _ _ e) f2) (S12 _ _ e)
 have hp3:=b3 _ _ npk (S2 _ _ e1)
 have nrl:lr≠lp:=λ z=>by rw[z,S2 _ _ e1] at f3;cases f3
 refine cX (xs:=zs) (λ i σ J=>∃ (c:Int)(pl:List Nat)(y9 y10 y11:Option V),σ=[some wv,some (.ref fp),some (.int (r:Int)),some (.ref sp),some (.ref lD),some (.int p),some (.int q),some (.int c),some (.ref lp),y9,y10,y11]/\But lp J3 J/\J lp=some (.lst (natV pl))/\pl.length<=i/\(es.take i).foldl (goS ts (farZ (arcs ts (c7 ts.length)) r) p q) (0,[])=(c,pl)) ⟨0,[],none,none,none,rfl,But.refl,hp3,h9 _,rfl⟩ (λ i σ J _ h=>?_) (λ i x σ J hx h=>?_) (λ σ J h=>?_)
 ·obtain⟨c,pl,y9,y10,y11,rfl,b,_⟩:=h
  exact SqL.of (b _ _ nrl h3)
 ·obtain⟨c,pl,y9,y10,y11,rfl,b,hp,lpl,efo⟩:=h
  have hi:i<es.length:=by have:=(m9.mp hx).1;rw[rows3.1] at this;exact this
  have he:es[i]?=some es[i]:=d8 hi
  have em:=udl hi
  obtain⟨a,rfl,ha⟩:=rows3.2 i _ x he hx
  have tn:es.take (i+1)=es.take i++[es[i]]:=by rw[ucl,he];rfl
  have haJ:=b _ _ (λ z=>by rw[z,hp3] at ha;cases ha) ha
  have nDp:lD≠lp:=aP hD f1
  have hDJ:=b _ _ nDp (b13 _ _ hD)
  have ef:(es.take (i+1)).foldl (goS ts (farZ (arcs ts (c7 ts.length)) r) p q) (0,[])=goS ts (farZ (arcs ts (c7 ts.length)) r) p q (c,pl) es[i]:=by rw[tn,List.foldl_append,efo];rfl
  generalize es[i]=ev at em ha haJ ef
  cases ev with
  | go h t =>
   obtain⟨tn',L,wlk⟩:=goOk h t em
   have dd:=dst t tn'
   obtain⟨d,ed,_⟩:=dd.2 _ wlk
   rw[ed] at dd
   have fz:=qC dd
   have aF:atI (FD.map ov) (t:Int)=some (ov (some d)):=by rw[← ed];exact aZ (m8 _) (by rw[u4];exact dG (by left))
   refine⟨a,_,rfl,SqT.of haJ,rfl,_,_,rfl,_,_,rfl,_,_,rfl,rfl,?_⟩
   refine⟨_,rfl,_,rfl,_,_,rfl,rfl,?_⟩
   refine⟨_,rfl,_,rfl,iteT ?_⟩
   have cm1:CMul q (c+tlen ts h t):=.inl ⟨by left,by left⟩
   have cm2:CMul (p+q) d:=.inl ⟨by left,by left⟩
   refine⟨_,rfl,_,rfl,_,_,rfl,rfl,cm1,_,rfl,_,rfl,_,_,rfl,rfl,_,rfl,_,rfl,lD,_,_,_,rfl,rfl,SqL.of hDJ,aF,_,_,rfl,rfl,cm2,_,_,rfl,rfl,_,rfl,?_⟩
   rw[hZ,fz] at ef
   refine ite2 (λ cc=>?_) (λ cc=>?_)
   ·rw[uhc (ug9 cc)] at ef
    refine⟨_,rfl,.inl ⟨rfl,_,SqL.of hp⟩,_,rfl,lp,_,_,rfl,rfl,hp,by rw[bC];left,λ JB bB eB=>?_⟩
    have hDB:=bB _ _ nDp hDJ
    refine⟨_,rfl,_,rfl,lD,_,_,_,rfl,rfl,SqL.of hDB,aF,?_⟩
    refine⟨d,pl++[t],_,_,_,rfl,b.trans bB,by rw[eB,cH];rfl,by rw[i9,u5];left,ef⟩
   ·rw[uhd (λ z=>cc (ug8 z))] at ef
    exact⟨_,pl,_,_,_,rfl,b,hp,by left,ef⟩
  | back t o =>
   cases o with
   | none=>exact absurd (fine _ em) id
   | some h =>
    refine⟨a,_,rfl,SqT.of haJ,rfl,_,_,rfl,_,_,rfl,_,_,rfl,rfl,?_⟩
    refine⟨_,rfl,_,rfl,_,_,rfl,rfl,?_⟩
    refine⟨_,rfl,_,rfl,iteF (iteF ?_)⟩
    exact⟨_,pl,_,_,_,rfl,b,hp,by left,ef.trans (by show (c+tlen ts t h,pl)=(c+tlen ts h t,pl);rw[wW ts t h])⟩
 ·obtain⟨c,pl,y9,y10,y11,rfl,b,hp,lpl,efo⟩:=h
  rw[rows3.1,ua1] at efo
  refine⟨_,rfl,fin lp J (λ bb o e=>b _ _ (aP e f1) (b13 _ _ e)) ?_ ?_⟩
  ·exact f1
  ·rw[hp,efo]
theorem lR {p:Nat->Bool}{k:Nat}:∀ {l:List Nat},l.Nodup->k∈l->p k=true->(∀ j,j∈l->p j=true->j=k)->l.filter p=[k]
 | [],_,h,_,_=>nomatch h
 | a::l,nd,h,pk,u=>by
  obtain⟨na,nl⟩:=ua2.mp nd
  by_cases c:p a=true
  ·have e:=u a i5 c
   subst e
   rw[ubt c,List.filter_eq_nil_iff.mpr λ x hx hp=>na (u x (i7 _ hx) hp ▸ hx)]
  ·rw[ubu c]
   exact lR nl ((j0.mp h).resolve_left λ z=>c (z ▸ pk)) pk λ j hj hp=>u j (i7 _ hj) hp
def spAlong79 (K:c6):Sp:=λ vs H Q _=>∃ (n:Int)(ts:List Tie)(wv:V)(t:j9)(ws:List Nat),vs=[wv,.ref t]/\Is K H (webD n ts) wv/\WebOk n ts/\H t=some (.tup (natV ws))/\ws.length<=24/\linked ts ws/\∀ l H',Same H H'->H l=none->H' l=some (.lst (natV (alongN ts ws)))->Q (.ref l) H'
theorem sD (T:Bi mg)(D:DefOk K mg "_law_along" s__law_along ["web","way"]):‹1› "_law_along" ["web","way"] (spAlong79 K):=by
 exists 0,sc__law_along
 obtain⟨n,ts,wv,t,ws,rfl,isw,ok,ht,l24,lk,q⟩:=h
 have units:∀ {x:Nat},x<=3->(A.deeper (envOfC "_law_along" (defScope s__law_along) s.heap.objs.size f cdv)).units+x<cLine:=λ {x} hu=>by have:=hr.units;left
 have few60:=ok.few
 obtain⟨g0,g,tws,rfl,hg0,hg,hall,hlw⟩:=bU isw
 have lenW:(natV ws).length=ws.length:=by unfold natV;rw[c9]
 have ecut:cutV (natV ws) (some 1) none=natV (ws.drop 1):=by
  unfold cutV
  have h1:HT.sIx (natV ws).length (natV ws).length none=(natV ws).length:=rfl
  rw[h1]
  by_cases z:ws=[]
  ·subst z;rfl
  ·have pos:=ue7.mpr z
   have h0:HT.sIx (natV ws).length 0 (some 1)=1:=by
    unfold HT.sIx
    simp
    left
   rw[h0,ub9 (by rw[uby];exact h9 _)]
   unfold natV
   rw[ug6]
 refine⟨_,(aD (aN (i:=2) nd rfl (k8 rfl) (bJ aB)) (aD (bP PassesOwn.never rfl (kC true true rfl T.z_zip (aA (pv 1) (aA (eQ fX (pv 1) (eW aC) eY) aB))) (cC (n:=2) rfl (aS (aJ (i:=3) nd rfl (ue1 rfl)) (aS (aJ (i:=4) nd rfl (ue1 rfl)) bM))) (aD (dZ (i:=5) (N:=["web","way","found","here","there","some"]) (sc0:=defScope s__law_along) (own:=["number"]) (fr:=["web","here","there"]) (js:=[0,3,4]) rfl (cU rfl T.z_range (aA (aX cM rfl T.z_len (by symm) (aA (aE aU (pv 0) aC (λ _ _=>rfl)) aB)) aB)) (λ _ _ _ _=>(aJ (i:=0) (by show uap [("number":Str),("web":Str),("here":Str),("there":Str)];decide +kernel) rfl (k8 rfl))) (λ _ _ _ _=>(dM (aT zbd (eQ fX (aE bO (aE bO (pv 1) aC (λ _ _=>rfl)) (pv 0) (λ _ _=>rfl)) eY (eW aC)) (bN (aA (aX (gR rfl) rfl T.z_min (by symm) (aA (pv 2) (aA (pv 3) aB))) (aA (aX (fP rfl) rfl T.z_max (by symm) (aA (pv 2) (aA (pv 3) aB))) aB))) (nomark _)))) (λ _ _ _ _=>(pv 0)) nd rfl (k8 rfl)) (aG (bW (bY v4 uab uaa cJ (pv 2) (aA (aE aV (aK fD (pv 5) (bJ (aA (aK dC aC aC) aB))) aC (λ _ _=>rfl)) aB)))))) (aG (aR (pv 2))))),?_⟩
 refine⟨(by show 0<=1000;decide),λ lf J0 S0 f0 e0=>?_⟩
 refine⟨_,rfl,_,rfl,_,rfl,t,_,rfl,S0 _ _ ht,λ t2' J1 S1 e1=>?_⟩
 rw[ecut] at e1
 have S01:=S0.trans S1
 have lenD:(natV (ws.drop 1)).length=ws.length-1:=by unfold natV;rw[c9,uby]
 have la:(alongN ts ws).length=ws.length-1:=by unfold alongN;rw[c9,l7]
 refine⟨t,t2',rfl,⟨_,SqX.of (t:=true) (S01 _ _ ht)⟩,⟨_,SqX.of (t:=true) e1⟩,?_⟩
 have nlt:t≠lf:=aP ht f0
 have nl2:t2'≠lf:=λ z=>by rw[z,S1 _ _ e0] at e1;cases e1
 refine zaf (t1:=true) (t2:=true) (xs:=natV ws) (zs:=natV (ws.drop 1)) (λ i σ J=>∃ y3 y4 y5:Option V,σ=[some (.ref g0),some (.ref t),some (.ref lf),y3,y4,y5]/\But lf J1 J/\J lf=some (.lst (natV ((alongN ts ws).take i)))) ⟨none,none,none,rfl,But.refl,S1 _ _ e0⟩ (λ i σ J h=>?_) (λ i x z U σ J hxi hzi hU h=>?_) (λ σ J h=>?_)
 ·obtain⟨y3,y4,y5,rfl,b,_⟩:=h
  exact⟨SqX.of (t:=true) (b _ _ nlt (S01 _ _ ht)),SqX.of (t:=true) (b _ _ nl2 e1)⟩
 ·obtain⟨y3,y4,y5,rfl,b,hf⟩:=h
  obtain⟨u,hu,rfl⟩:=bK hxi
  obtain⟨v,hv,rfl⟩:=bK hzi
  rw[ufd,ufx] at hv
  obtain⟨k,ek,hk⟩:=fN lk hu hv
  have eu:ws.getD i 0=u:=by rw[g9,hu];rfl
  have ev:ws.getD (i+1) 0=v:=by rw[g9,hv];rfl
  have il:i+1<ws.length:=(m9.mp hv).1
  have ea:(alongN ts ws)[i]?=some k:=by
   unfold alongN
   rw[k0,uba (by left)]
   show some ((tbN ts (ws.getD i 0) (ws.getD (i+1) 0)).getD 0)=some k
   rw[eu,ev,ek];rfl
  have SU:=aQ (o:=.tup [V.int (u:Int),.int (v:Int)]) hU
  have hg0J:=b _ _ (aP hg0 f0) (S01 _ _ hg0)
  have hgJ:=b _ _ (aP hg f0) (S01 _ _ hg)
  refine⟨U,_,rfl,SqT.of aH,rfl,_,_,rfl,_,_,rfl,rfl,?_⟩
  refine⟨_,rfl,g0,_,_,_,rfl,rfl,SqT.of (SU _ _ hg0J),rfl,g,_,rfl,.inr (SqT.of (SU _ _ hgJ)),_,rfl,by left,by left,?_⟩
  rw[u4,hlw]
  have SJU:∀ bb o,J bb=some o->upd J U (.tup [V.int (u:Int),.int (v:Int)]) bb=some o:=λ bb o e=>SU _ _ e
  refine yI (n:=ts.length) (λ σ'=>∃ o,σ'=[o,some (.ref g0),some (.int (u:Int)),some (.int (v:Int))]) (λ j=>if isTB ts u v j=true then some (V.int (j:Int)) else none) (by left) (by exact⟨none,rfl⟩) (λ j σ' H' hj s3 sg C L hC hL=>?_) (λ L H3 hL s3 hH=>?_)
  ·obtain⟨o1,rfl⟩:=sg
   obtain⟨ta,hta,htie⟩:=bV hall hj
   have hg0':=s3 _ _ (SU _ _ hg0J)
   have hg':=s3 _ _ (SU _ _ hgJ)
   have htie':=s3 _ _ (SU _ _ (b _ _ (aP htie f0) (S01 _ _ htie)))
   refine⟨_,rfl,g0,_,_,_,rfl,rfl,SqT.of hg0',rfl,_,rfl,g,_,_,_,rfl,rfl,SqT.of hg',aZ (by left) (by rw[show (0+(j:Int)).toNat=j by left];exact hta),?_⟩
   refine⟨_,rfl,ta,_,rfl,htie',λ tc J4 S4 e4=>?_⟩
   refine⟨_,rfl,_,rfl,_,_,rfl,_,rfl,_,rfl,_,_,rfl,(by show 2<=1000;decide),λ te J5 S5 f5 e5=>?_⟩
   have eMin:(if (v:Int)<(u:Int) then (v:Int) else u)=min (u:Int) v:=by split <;> left
   have eMax:(if (v:Int)>(u:Int) then (v:Int) else u)=max (u:Int) v:=by split <;> left
   rw[eMin,eMax] at e5
   have e3':J5 tc=some (.tup (([(tieAt ts j).1,(tieAt ts j).2.1]:List Int).map V.int)):=S5 _ _ e4
   have e1':J5 te=some (.tup (([min (u:Int) v,max (u:Int) v]:List Int).map V.int)):=e5
   refine⟨.tuple (([(tieAt ts j).1,(tieAt ts j).2.1]:List Int).map .int),.tuple (([min (u:Int) v,max (u:Int) v]:List Int).map .int),⟨tc,_,rfl,e3',IsAll.ints _⟩,⟨te,_,rfl,e1',IsAll.ints _⟩,cD _,cD _,?_,_,rfl,?_⟩
   ·have d1:=eM [(tieAt ts j).1,(tieAt ts j).2.1]
    have d2:udj (.tuple (([(tieAt ts j).1,(tieAt ts j).2.1]:List Int).map .int))=uda (([(tieAt ts j).1,(tieAt ts j).2.1]:List Int).map .int)+1:=rfl
    exact units (uas (ugl _ _) (by rw[d2];left))
   have eq:ufc (.tuple (([(tieAt ts j).1,(tieAt ts j).2.1]:List Int).map .int)) (.tuple (([min (u:Int) v,max (u:Int) v]:List Int).map .int))=isTB ts u v j:=jJ _ _ _ _
   rw[eq]
   have SS:=S4.trans S5
   have e0j:(0+(j:Int))=(j:Int):=by left
   refine ite2 (λ c=>⟨_,rfl,hC _ _ _ ⟨_,rfl⟩ SS ?_⟩) (λ c=>hL _ _ ⟨_,rfl⟩ SS ?_)
   ·rw[uhc c,e0j]
   ·rw[uhd c]
  have esel:(c7 ts.length).filterMap (λ j=>if isTB ts u v j=true then some (V.int (j:Int)) else none)=[V.int (k:Int)]:=by
   rw[fR]
   have:(c7 ts.length).filter (isTB ts u v)=[k]:=lR (udk) (j4.mpr hk) (uds ek) λ j hj hb=>pJ ok ek j (j4.mp hj) hb
   rw[this];rfl
  rw[esel] at hH
  have hf3:=s3 _ _ (SU _ _ hf)
  refine⟨_,rfl,.inl ⟨rfl,_,SqL.of hf3⟩,?_⟩
  refine⟨_,rfl,_,_,rfl,rfl,(by show 1<=1000;decide),λ l1 J6 S6 f6 e6=>?_⟩
  refine⟨L,l1,_,_,rfl,rfl,S6 _ _ hH,e6,(by show 1+1<=1000;decide),λ l2 J7 S7 f7 e7=>?_⟩
  refine⟨l2,_,_,_,rfl,rfl,SqL.of e7,rfl,lf,_,_,rfl,rfl,S7 _ _ (S6 _ _ hf3),?_,λ J8 b8 e8=>?_⟩
  ·rw[bC,uc3];left
  have S78:=s3.trans (S6.trans S7)
  refine⟨_,_,_,rfl,λ bb o z e=>b8 _ _ z (S78 _ _ (SU _ _ (b _ _ z e))),?_⟩
  rw[e8,ucl,ea,cH];rfl
 ·obtain⟨y3,y4,y5,rfl,b,hf⟩:=h
  rw[lenW,lenD,show min ws.length (ws.length-1)=(alongN ts ws).length by left,ua1] at hf
  exact⟨_,rfl,q lf J (λ bb o e=>b _ _ (aP e f0) (S01 _ _ e)) f0 hf⟩
def spPlainN (K:c6):Sp:=λ vs H Q _=>∃ (p:j9)(ks:List Nat),vs=[.ref p]/\H p=some (.tup (natV ks))/\ks.length<=60/\∀ H',Same H H'->Q (.bl true) H'
theorem tM (T:Bi mg)(D:DefOk K mg "_law_plain" s__law_plain ["thing"]):‹1› "_law_plain" ["thing"] (spPlainN K):=by
 exists 0,sc__law_plain
 obtain⟨p,ks,rfl,hp,l60,q⟩:=h
 have lk:(natV ks).length=ks.length:=by unfold natV;rw[c9]
 refine⟨_,(aG (aR (fH (aX (oT (n:="tuple")) rfl T.z_isinstance (by symm) (aA (pv 0) (aA (jQ (v:=.ty "tuple") rfl T.z_tuple (by symm) rfl) aB))) (cQ (aX (zao rfl) rfl T.z_all (by symm) (aA (cF (N:=["thing"]) (sc0:=defScope s__law_plain) (own:=["one"]) (fr:=[]) (js:=[]) rfl (cP (pv 0)) (λ _ _ _ _=>(aJ (i:=0) (by show uap [("one":Str)];decide +kernel) rfl (k8 rfl))) (λ _ _ _ _=>cG) (λ _ _ _ _=>(fH (aX (nC (n:="int")) rfl T.z_isinstance (by symm) (aA (pv 0) (aA (jQ (v:=.ty "int") rfl T.z_int (by symm) rfl) aB))) (cQ (zb9 (aX (nC (n:="bool")) rfl T.z_isinstance (by symm) (aA (pv 0) (aA (jQ (v:=.ty "bool") rfl T.z_bool (by symm) rfl) aB)))))))) aB)))))),?_⟩
 refine⟨_,rfl,_,_,_,rfl,TyOf.tup hp,rfl,_,rfl,iteT ?_⟩
 refine⟨_,rfl,p,rfl,⟨_,SqT.of hp⟩,?_⟩
 refine jN hp (λ σ'=>σ'.length=1) (λ i v _=>v=.bl ((λ _=>true) i)) (by left) (by rfl) (λ _ _ _ _ _ h=>h) (λ i x σ' H' hx s sg C hC=>?_) (λ L ys H' hL s hH hly hys=>?_)
 ·obtain⟨m,hm,rfl⟩:=bK hx
  match σ',sg with
  | [o],_ =>
   have ty:=zcw (K:=K) (H:=H') (d:=.int (m:Int)) (v:=.int (m:Int)) rfl
   exact⟨_,rfl,_,_,_,rfl,ty,rfl,_,rfl,iteT ⟨_,rfl,_,_,_,rfl,ty,rfl,_,rfl,hC _ _ _ rfl (Same.refl _) rfl⟩⟩
 ·refine⟨L,_,rfl,SqL.of (by rw[hH,zap hly hys]),?_⟩
  rw[show ((c7 (natV ks).length).map λ _=>true).all id=true from by rw[List.all_map];exact ucd.mpr λ _ _=>rfl]
  exact q H' s
def spLaw (K:c6)(Pt:j9):Sp:=λ vs H Q _=>∃ (a:j9)(ns:List Int),vs=[.ref a]/\SqL K H a (ns.map V.int)/\ns.length<=63/\Tb Pt (lamPosOf s_order_of) lamQ H/\∀ H',Q (.bl true) H'
theorem za2 {p a:j9}{J J':Hp}{lp:Pos}{qn:Str}{xs:List V}(b:But p J J')(t:Tb p lp qn J)(h:SqL K J a xs):SqL K J' a xs:=by
 obtain⟨_,e',_⟩:=t
 rcases h with (h | ⟨o,h⟩) | h
 ·exact .inl (.inl (b _ _ (λ z=>by rw[z,e'] at h;cases h) h))
 ·exact .inl (.inr ⟨o,b _ _ (λ z=>by rw[z,e'] at h;cases h) h⟩)
 ·exact .inr h
theorem xO (q:List Nat)(x:Nat):atI (natV (q++[x])) (-1)=some (V.int (x:Int)):=by
 have l:(natV (q++[x])).length=q.length+1:=by rw[bC,i9,u5]
 unfold atI ixN
 rw[uhd (by decide),uhc (by left)]
 show (natV (q++[x]))[(-1+((natV (q++[x])).length:Int)).toNat]?=_
 rw[l,show (-1+((q.length+1:Nat):Int)).toNat=q.length by left,cH,uaq (by rw[bC];left),bC,Nat.sub_self];rfl
theorem pZ (x:Int):∀ ns:List Int,inV (.int x) (ns.map V.int)=decide (x∈ns)
 | []=>rfl
 | y::ns=>by
  have ih:=pZ x ns
  unfold inV at ih ⊢
  rw[ucf,ug7,ih,ubb,ucp,decide_eq_true_eq,decide_eq_true_eq,j0]
  refine or_congr ?_ Iff.rfl
  show (y==x)=true↔x=y
  rw[beq_iff_eq]
  exact⟨Eq.symm,Eq.symm⟩
theorem xW (l:List Nat):inV (V.int (-1)) (natV l)=false:=by
 rw[bZ,pZ]
 refine uha λ h=>?_
 obtain⟨k,_,e⟩:=y2.mp h
 have e:((k:Nat):Int)=-1:=e
 left
theorem zcf {f Pt:j9}{fd:ub7}(T:Bi mg)(F:Fun K "law" "law" s_law f fd)(O__law_pot:‹26› "_law_pot" ["script","k"] (spPot K))(O__law_slack:‹26› "_law_slack" ["pot"] spSlack79)(O__law_most:‹26› "_law_most" ["pot","k","most"] spMost79)(O__law_web:‹26› "_law_web" ["pot","most"] (spWeb K))(O__law_take:‹26› "_law_take" ["pot","many"] spTake)(O__law_fars:‹26› "_law_fars" ["web","keep","start"] (spFarsL K))(O__law_least:‹26› "_law_least" ["web"] (spLeast79 K))(O__law_put:‹26› "_law_put" ["web","forest","root","slack","fars"] (spLPut79 K))(O_the_way:‹26› "the_way" ["web","keep","a","b"] (spWayM K))(O_whole:‹26› "whole" ["web"] (spWhole K))(O__law_along:‹26› "_law_along" ["web","way"] (spAlong79 K))(O_near_light:‹26› "near_light" ["web","root","p","q"] (spNear79 K Pt (lamPosOf s_order_of)))(O__law_plain:‹26› "_law_plain" ["thing"] (spPlainN K)):FnOk P w K mg base CX0 27 f fd ["script"] (spLaw K Pt):=by
 refine F.ok (k:=26) sc_law (λ vs H Q E h=>?_) (λ cdv A outer s H vs Q E hr h=>?_)
 ·obtain⟨a,ns,rfl,_⟩:=h
  rfl
 obtain⟨a,ns,rfl,hS,h63,tb,q⟩:=h
 have nd:=sc_law.nd
 have units:∀ {u:Nat},u<=3->(A.deeper (envOfC "law" (defScope s_law) s.heap.objs.size f cdv)).units+u<cLine:=λ {u} hu=>by have:=hr.units;left
 have hl:(ns.map V.int).length=ns.length:=c9 _
 refine⟨_,(aD (bP PassesOwn.never rfl (cU rfl T.z_range (aA (aX (fP rfl) rfl T.z_max (by symm) (aA aC (aA (aX (gR rfl) rfl T.z_min (by symm) (aA aC (aA (aX cM rfl T.z_len (by symm) (aA (pv 0) aB)) aB))) aB))) aB)) (aJ (i:=1) nd rfl (k8 rfl)) (aD (aN (i:=2) nd rfl (k8 rfl) (aO O__law_pot hr rfl (aA (pv 0) (aA (pv 1) aB)))) (aD (aN (i:=3) nd rfl (k8 rfl) (aO O__law_slack hr rfl (aA (pv 2) aB))) (aD (aN (i:=4) nd rfl (ue1 rfl) (aO O__law_web hr rfl (aA (pv 2) (aA (aO O__law_most hr rfl (aA (pv 2) (aA (pv 1) (aA aC aB)))) aB)))) (aD (aN (i:=5) nd rfl (k8 rfl) (aO O__law_take hr rfl (aA (pv 2) (aA (aE aU (pv 4) aC (λ _ _=>rfl)) aB)))) (aD (aN (i:=6) nd rfl (ue1 rfl) (aO O__law_fars hr rfl (aA (pv 4) (aA (aY (gH rfl) rfl T.z_list (by symm) (aA (aY fM rfl T.z_range (by symm) (aA (aX cM rfl T.z_len (by symm) (aA (aE aU (pv 4) aC (λ _ _=>rfl)) aB)) aB)) aB)) (aA (pv 5) aB))))) (aD (dZ (i:=7) (N:=["script","k","pot","slack","web","root","fars","forest","put","due","place","way","some","keep","told"]) (sc0:=defScope s_law) (own:=["number"]) (fr:=["fars","web"]) (js:=[6,4]) rfl (cP (aO O__law_least hr rfl (aA (pv 4) aB))) (λ _ _ _ _=>(aJ (i:=0) (by show uap [("number":Str),("fars":Str),("web":Str)];decide +kernel) rfl (k8 rfl))) (λ _ _ _ _=>(dM (aT hV (aE zX (pv 1) (aE bO (aE bO (aE bO (pv 2) aC (λ _ _=>rfl)) (pv 0) (λ _ _=>rfl)) aC (λ _ _=>rfl)) (λ _ _=>rfl)) bT (nomark _)))) (λ _ _ _ _=>(pv 0)) nd rfl (k8 rfl)) (aD (aN (i:=8) nd rfl (k8 rfl) (aO O__law_put hr rfl (aA (pv 4) (aA (pv 7) (aA (pv 5) (aA (pv 3) (aA (pv 6) aB))))))) (aD (aN (i:=9) nd rfl (k8 rfl) (aY wH rfl T.z_list (by symm) (aA (pv 7) aB))) (aD (bP PassesOwn.never rfl (bR (pv 8)) (aJ (i:=10) nd rfl (k8 rfl)) (aD (aN (i:=11) nd rfl (k8 rfl) (aO O_the_way hr rfl (aA (pv 4) (aA (aO O_whole hr rfl (aA (pv 4) aB)) (aA (pv 5) (aA (pv 10) aB)))))) (aD (aN (i:=12) nd rfl (k8 rfl) (aO O__law_along hr rfl (aA (pv 4) (aA (pv 11) aB)))) (aD (bH (PW.pt (dF (aT fJ (aE aU (pv 11) aC (λ _ _=>rfl)) (pv 5) (nomark _)) (dF (aT fJ (aE aU (pv 11) (dX dQ aC) (λ _ _=>rfl)) (pv 10) (nomark _)) (dF (aT mM (dX dQ aC) (pv 12) (by with_unfolding_all rfl)) (iG (aT fJ (aX (nA rfl) rfl T.z_sum (by symm) (aA (cF (N:=["script","k","pot","slack","web","root","fars","forest","put","due","place","way","some","keep","told"]) (sc0:=defScope s_law) (own:=["one"]) (fr:=["web"]) (js:=[4]) rfl (bR (pv 12)) (λ _ _ _ _=>(aJ (i:=0) (by show uap [("one":Str),("web":Str)];decide +kernel) rfl (k8 rfl))) (λ _ _ _ _=>cG) (λ _ _ _ _=>(aE bO (aE bO (aE bO (pv 1) aC (λ _ _=>rfl)) (pv 0) (λ _ _=>rfl)) aC (λ _ _=>rfl)))) aB)) (aE aV (pv 6) (pv 10) (λ _ _=>rfl)) (nomark _))))))) (aG (aR cR)) bG) (aG (bW (bY v4 uga uf9 vW (pv 9) (aA (pv 12) aB)))))))) (aD (bX (aO O_near_light hr rfl (aA (pv 4) (aA (pv 5) (aA (aE aU (pv 3) aC (λ _ _=>rfl)) (aA (aE aU (pv 3) aC (λ _ _=>rfl)) aB))))) (cC (n:=2) rfl (aS (aJ (i:=13) nd rfl (k8 rfl)) (aS (aJ (i:=14) nd rfl (k8 rfl)) bM)))) (aG (bH (PW.pt (dF (kB (fG (aO O__law_plain hr rfl (aA (pv 13) aB)))) (dF (kB (fG (aO O__law_plain hr rfl (aA (pv 14) aB)))) (dF (aT qR (pv 14) (aY cI rfl T.z_tuple (by symm) (aA (pv 8) aB)) (nomark _)) (iG (aT qR (pv 13) (aY cI rfl T.z_tuple (by symm) (aA (aX (iL rfl) rfl T.z_sorted (by symm) (aA (aY (lY rfl) rfl T.z_set (by symm) (aA (pv 9) aB)) aB)) aB)) (nomark _))))))) (aG (aR cR)) bG))))))))))))) (aG (aR cR))),?_⟩
 refine⟨_,rfl,a,_,rfl,.inl hS,_,_,rfl,_,_,rfl,_,rfl,?_,?_,?_⟩
 ·split <;> split <;> left
 ·rw[hl];split <;> split <;> left
 generalize hj:(if (if (((ns.map V.int).length:Nat):Int)<3 then (((ns.map V.int).length:Nat):Int) else 3)>1 then (if (((ns.map V.int).length:Nat):Int)<3 then (((ns.map V.int).length:Nat):Int) else 3) else 1)=j
 have j12:j<=3:=by rw[← hj];split <;> split <;> left
 refine eK (n:=j.toNat) (λ i σ J=>∃ x1 x2 x3 x4 x5 x6 x7 x8 x9 xa xb xc xd xe:Option V,σ=[some (.ref a),x1,x2,x3,x4,x5,x6,x7,x8,x9,xa,xb,xc,xd,xe]/\But Pt H J/\Tb Pt (lamPosOf s_order_of) lamQ J) ⟨none,none,none,none,none,none,none,none,none,none,none,none,none,none,rfl,But.refl,tb⟩ (λ i σ J hi h=>?_) (λ σ J _=>q J)
 obtain⟨x1,x2,x3,x4,x5,x6,x7,x8,x9,xa,xb,xc,xd,xe,rfl,b0,t0⟩:=h
 refine⟨_,rfl,_,rfl,a,_,ns,rfl,za2 b0 tb hS,by left,by left,λ l H1 s1 fl p1=>?_⟩
 have fl0:H l=none:=wY b0 t0 fl
 have lP:l≠Pt:=λ z=>by obtain⟨_,e,_⟩:=t0;rw[z,e] at fl;cases fl
 refine⟨_,rfl,l,rfl,p1,λ sp p q' H2 b2 p2 hsp hp hq=>?_⟩
 refine⟨_,rfl,_,rfl,_,rfl,l,_,10,rfl,p2,by decide,by decide,λ m H3 b3 p3 m1 m24=>⟨l,m,rfl,p3,m1,m24,λ wv H4 n ts b4 p4 ok _ isw=>?_⟩⟩
 obtain⟨g0,g,ws,rfl,hg0,hg,hall,hlw⟩:=bU isw
 have n1:=ok.n1
 have n24:=ok.n24
 have few60:=ok.few
 refine⟨_,rfl,_,rfl,g0,_,_,_,rfl,rfl,SqT.of hg0,rfl,l,_,rfl,p4,by left,by left,λ r0 H5 r00 r0n b5 p5=>?_⟩
 obtain⟨r,rfl⟩:∃ r:Nat,r0=r:=⟨r0.toNat,by left⟩
 have tk1:=cL b5 p4
 have tk0:=cL b2 p1
 have hg05:=tk1 _ _ hg0
 have hg5:=tk1 _ _ hg
 have is5:=gF tk1 _ (eV n ts) isw
 refine⟨_,rfl,_,rfl,g0,_,_,_,rfl,rfl,SqT.of hg05,rfl,g,_,rfl,.inr (SqT.of hg5),_,rfl,λ rr hrr=>⟨rr,_,rfl,aH,by left,by left,λ lm hlm=>?_⟩⟩
 have S5a:Same H5 (upd H5 rr (.rng 0 ((ws.length:Nat):Int))):=aQ hrr
 have S5b:=aQ (o:=.lst ((c7 ((ws.length:Nat):Int).toNat).map λ i:Nat=>V.int (i:Int))) hlm
 have elm:upd (upd H5 rr (.rng 0 ((ws.length:Nat):Int))) lm (.lst ((c7 ((ws.length:Nat):Int).toNat).map λ i:Nat=>V.int (i:Int))) lm=some (.lst ((keepI (c7 ts.length)).map V.int)):=by
  rw[aH,← bZ,u4,hlw];rfl
 have S56:=S5a.trans S5b
 generalize upd (upd H5 rr (.rng 0 ((ws.length:Nat):Int))) lm (.lst ((c7 ((ws.length:Nat):Int).toNat).map λ i:Nat=>V.int (i:Int)))=J0 at elm S56
 refine⟨_,rfl,n,ts,c7 ts.length,_,lm,_,rfl,Is.same S56 _ is5,ok,elm,cW ts,by left,by left,λ lD FD J1 S1 f1 eD lFD dst=>?_⟩
 rw[u4] at dst
 have S51:=S56.trans S1
 refine⟨_,rfl,n,ts,_,rfl,Is.same S51 _ is5,ok,λ kf J2 S2 ekf=>⟨kf,rfl,⟨_,SqT.of ekf⟩,?_⟩⟩
 have S52:=S51.trans S2
 obtain⟨FR,eFR⟩:∃ FR,FR=forestN ts:=⟨_,rfl⟩
 have koF:KeepOk ts.length FR:=by rw[eFR];exact gK ts
 rw[← eFR] at ekf
 obtain⟨PP,ePP⟩:∃ PP:Nat->Bool,PP=λ k=>(Far.get FD (tieAt ts k).1.toNat).isSome:=⟨_,rfl⟩
 have lFR:=bC FR
 have lF60:=koF.len
 refine mY ekf (λ σ'=>∃ o,σ'=[o,some (.ref lD),some (.ref g0)]) (λ i=>if PP (FR.getD i 0)=true then some (V.int ((FR.getD i 0:Nat):Int)) else none) (by left) (by exact⟨none,rfl⟩) (λ i x σ' H' hx s3 sg C L hC hL=>?_) (λ fp J3 hL3 S3 hfp=>?_)
 ·obtain⟨o,rfl⟩:=sg
  obtain⟨k,hk,rfl⟩:=bK hx
  have ek:FR.getD i 0=k:=by rw[g9,hk];rfl
  rw[ek] at hC hL
  have hkl:=koF.2 k (u6 hk)
  have tk:=ok.tie _ (bI hkl).2
  obtain⟨ta,hta,htie⟩:=bV hall hkl
  have S5':=S52.trans s3
  have at1:atI (FD.map ov) (tieAt ts k).1=some (ov (Far.get FD (tieAt ts k).1.toNat)):=aZ (by left) (dG (by left))
  refine⟨_,rfl,_,rfl,g0,_,_,_,rfl,rfl,SqT.of (S5' _ _ hg05),rfl,_,rfl,g,_,_,_,rfl,rfl,SqT.of (S5' _ _ hg5),aZ (m8 _) hta,ta,_,_,_,rfl,rfl,SqT.of (S5' _ _ (tk1 _ _ htie)),rfl,lD,_,_,_,rfl,rfl,SqL.of ((S2.trans s3) _ _ eD),at1,rfl,_,rfl,?_⟩
  have ep:PP k=(Far.get FD (tieAt ts k).1.toNat).isSome:=by rw[ePP]
  cases eg:Far.get FD (tieAt ts k).1.toNat with
  | none =>
   rw[eg] at ep
   exact iteF (hL _ _ ⟨_,rfl⟩ (Same.refl _) (by rw[ep];rfl))
  | some d =>
   rw[eg] at ep
   exact iteT ⟨_,rfl,hC _ _ _ ⟨_,rfl⟩ (Same.refl _) (by rw[ep];rfl)⟩
 rw[lFR,jE PP] at hfp
 have S53:=S52.trans S3
 have hPP:∀ k,k∈FR->(PP k=true↔∃ L,Far.Walk (arcs ts (c7 ts.length)) r (tieAt ts k).1.toNat L):=λ k hk=>by
  have hkl:=koF.2 k hk
  have tk:=ok.tie _ (bI hkl).2
  have dd:=dst (tieAt ts k).1.toNat (by left)
  rw[ePP]
  show (Far.get FD (tieAt ts k).1.toNat).isSome=true↔_
  refine⟨λ h=>?_,λ ⟨L,w⟩=>?_⟩
  ·obtain⟨d,ed⟩:=ugj.mp h
   exact⟨d,dd.1 d ed⟩
  ·obtain⟨d,ed,_⟩:=dd.2 L w
   rw[ed];rfl
 obtain⟨F',eF'⟩:∃ F',F'=FR.filter PP:=⟨_,rfl⟩
 rw[← eF'] at hfp
 have koF':KeepOk ts.length F':=by rw[eF'];exact⟨uc6 _ koF.1,λ k hk=>koF.2 k (uac.mp hk).1⟩
 have hrn:r<n.toNat:=by left
 have hsp5:H5 sp=some (.tup [.int p,.int q']):=tk1 _ _ (cL b4 p3 _ _ (cL b3 p2 _ _ hsp))
 refine⟨_,rfl,_,rfl,_,rfl,_,rfl,_,rfl,n,ts,F',_,fp,sp,lD,r,p,q',FD,rfl,Is.same S53 _ is5,ok,koF',hfp,hrn,S53 _ _ hsp5,⟨by left,by left⟩,⟨by left,by left⟩,(S2.trans S3) _ _ eD,lFD,dst,λ lp J4 S4 f4 e4=>?_⟩
 have S54:=S53.trans S4
 obtain⟨es,ees⟩:∃ es,es=(Dfs.gone (tiedN ts F') n.toNat 24 r [r]).1:=⟨_,rfl⟩
 obtain⟨out,eout⟩:∃ out,out=(Dfs.gone (tiedN ts F') n.toNat 24 r [r]).2:=⟨_,rfl⟩
 rw[← ees] at e4
 have left0:Dfs.left n.toNat [r]<24:=by
  have a:=Dfs.left_lt (n:=n.toNat) (ks:=[]) hrn (by simp)
  have b:Dfs.left n.toNat []<=n.toNat:=by
   unfold Dfs.left
   exact uas (List.length_filter_le _ _) (by rw[l7];exact h9 _)
  rw[ucn] at a
  left
 have kn:Dfs.Kn n.toNat [r] (Dfs.gone (tiedN ts F') n.toNat 24 r [r]):=Dfs.gone_kn 24 r [r] (by simp) (λ x hx=>by rw[j5.mp hx];exact hrn)
 have run0:=Dfs.gone_root (tied:=tiedN ts F') (n:=n.toNat) (f:=24) (root:=r) left0
 have knl:=Peel.cV n.toNat _ kn.1 kn.2.1
 rw[← eout] at knl
 rw[← ees,← eout] at run0
 have rr0:∀ x∈[r],∃ L,Far.Walk (arcs ts (c7 ts.length)) r x L:=λ x hx=>by rw[j5.mp hx];exact⟨0,.nil⟩
 have h2:∀ x y,(∃ L,Far.Walk (arcs ts (c7 ts.length)) r x L)->tiedN ts F' x y=true->∃ L,Far.Walk (arcs ts (c7 ts.length)) r y L:=λ x y rx tx=>fW ok koF' ((eF ok koF').mp tx) rx
 have goOk:=run0.go_ok h2 rr0
 have run:Dfs.Run (tiedN ts FR) n.toNat [r] [r] (es++[.back r none]) out:=run0.sub (λ x y rx=>by rw[eF'];exact uE ok koF hPP rx) h2 rr0
 obtain⟨pl,epl⟩:∃ pl,pl=(es.foldl (goS ts (farZ (arcs ts (c7 ts.length)) r) p q') (0,[])).2:=⟨_,rfl⟩
 rw[← epl] at e4
 have epl2:putN ts r p q' (es++[.back r none])=pl:=by unfold putN;rw[List.foldl_append,epl];rfl
 obtain⟨pf1,pf2⟩:=xA (ts:=ts) (F:=farZ (arcs ts (c7 ts.length)) r) (p:=p) (q:=q') run 0 []
 rw[show (ufr (goS ts (farZ (arcs ts (c7 ts.length)) r) p q') (0,[]) (es++[.back r none])).2=pl from epl2] at pf1 pf2
 have lpl:pl.length<=23:=by
  have:[r].length=1:=rfl
  have:([]:List Nat).length=0:=rfl
  left
 have hpl:∀ x∈pl,x<n.toNat/\∃ L,Far.Walk (arcs ts (c7 ts.length)) r x L:=λ x hx=>by
  rcases pf2 x hx with z | ⟨a,z⟩
  ·cases z
  ·exact goOk a x z
 have hfp4:=S4 _ _ hfp
 refine⟨_,rfl,fp,_,rfl,.inl hfp4,λ ld J5 S5 f5 e5=>?_⟩
 have lp5:=S5 _ _ e4
 have nlp:lp≠ld:=aP e4 f5
 have S55:=S54.trans S5
 refine⟨_,rfl,lp,rfl,⟨_,SqL.of lp5⟩,?_⟩
 refine cX (xs:=natV pl) (λ ix σ J=>∃ yA yB yC yD yE:Option V,σ=[some (.ref a),some (.int (0+(i:Int))),some (.ref l),some (.ref sp),some (.ref g0),some (.int (r:Int)),some (.ref lD),some (.ref fp),some (.ref lp),some (.ref ld),yA,yB,yC,yD,yE]/\But ld J5 J/\J ld=some (.lst (natV (F'++(pl.take ix).flatMap λ x=>awN ts (wyN ts r x))))/\((pl.take ix).flatMap λ x=>awN ts (wyN ts r x)).length<=23*ix/\∀ k∈(pl.take ix).flatMap λ x=>awN ts (wyN ts r x),k<ts.length) ⟨_,_,_,_,_,rfl,But.refl,by rw[e5];show _=some (HO.lst (natV (F'++[])));rw[ubi],h9 _,λ k hk=>by cases hk⟩ (λ ix σ J _ h=>?_) (λ ix x σ J hx h=>?_) (λ σ J h=>?_)
 ·obtain⟨yA,yB,yC,yD,yE,rfl,b,_⟩:=h
  exact SqL.of (b _ _ nlp lp5)
 ·obtain⟨yA,yB,yC,yD,yE,rfl,b,hd,dl,dlt⟩:=h
  obtain⟨x,hxk,rfl⟩:=bK hx
  obtain⟨xn,L0,wlk⟩:=hpl x (u6 hxk)
  have tkb:TupKeep J5 J:=λ a ys e=>b _ _ (λ z=>by rw[z,e5] at e;cases e) e
  have isJ:=gF tkb _ (eV n ts) (Is.same S55 _ is5)
  have hDJ:=b _ _ (aP ((S2.trans (S3.trans S4)) _ _ eD) f5) ((S2.trans (S3.trans (S4.trans S5))) _ _ eD)
  refine⟨_,rfl,_,rfl,n,ts,_,rfl,isJ,few60,λ lk J6 S6 f6 e6=>?_⟩
  refine⟨_,rfl,_,rfl,n,ts,c7 ts.length,_,.ref lk,_,_,rfl,⟨Is.same S6 _ isJ,ok,gQ e6,cW ts⟩,by left,by left,by left,by left,λ v J7 S7 hv=>?_⟩
  rw[u4,u4] at hv
  have wy:=rE ok hv
  rcases hv with ⟨rfl,dn⟩ | ⟨t,wsx,y,rfl,htw,lw24,mw,trw,dw⟩
  ·obtain⟨_,z,_⟩:=dn.2 _ wlk
   cases z
  obtain⟨ewl,lkd⟩:=rF ok (cW ts) trw
  have ewy:=nN ok mw
  have SJ7:=S6.trans S7
  refine⟨_,rfl,_,rfl,n,ts,_,t,wsx,rfl,Is.same SJ7 _ isJ,ok,htw,lw24,lkd,λ ls J8 S8 f8 e8=>?_⟩
  have SJ8:=SJ7.trans S8
  obtain⟨hd1,hd2⟩:=zF mw
  obtain⟨S0',x0',y0',rt,_⟩:=mw
  obtain⟨qa,eqa⟩:=rt.head
  obtain⟨qb,eqb⟩:=rt.foot
  have a0:atI (natV wsx) 0=some (V.int (r:Int)):=by rw[eqa];exact aZ (uav 0) rfl
  have aL:atI (natV wsx) (-1)=some (V.int (x:Int)):=by rw[eqb];exact xO _ _
  have ht8:=S8 _ _ htw
  have lal:(alongN ts wsx).length<=23:=by rw[yT];left
  refine⟨_,rfl,t,_,_,_,rfl,rfl,SqT.of ht8,a0,_,rfl,rfl,_,rfl,iteNS rfl ?_⟩
  refine⟨_,rfl,_,rfl,t,_,_,_,rfl,rfl,SqT.of ht8,aL,_,rfl,rfl,_,rfl,iteNS rfl ?_⟩
  refine⟨_,rfl,_,rfl,ls,_,rfl,.inl (SqL.of e8),rfl,gU _,_,rfl,?_⟩
  show if inV (V.int (-1)) (natV (alongN ts wsx))=true then _ else _
  rw[xW]
  refine iteF ?_
  refine⟨_,rfl,ls,rfl,⟨_,SqL.of e8⟩,?_⟩
  have lalN:=bC (alongN ts wsx)
  refine eS e8 (λ σ'=>∃ o,σ'=[o,some (.ref g0)]) (λ i2 v _=>v=V.int (tieAt ts ((alongN ts wsx).getD i2 0)).2.2) (by left) (by exact⟨none,rfl⟩) (λ _ _ _ _ _ h=>h) (λ i2 xx σ' H' hxx s9 sg C hC=>?_) (λ L9 ys9 J9 hL9 S9 hH9 hly9 hys9=>?_)
  ·obtain⟨o,rfl⟩:=sg
   obtain⟨k,hk,rfl⟩:=bK hxx
   have ek:(alongN ts wsx).getD i2 0=k:=by rw[g9,hk];rfl
   rw[ek] at hC
   have hkl:k<ts.length:=gZ lkd k (u6 hk)
   obtain⟨ta,hta,htie⟩:=bV hall hkl
   have kp8:∀ {aa:j9}{yy:List V},H4 aa=some (.tup yy)->H' aa=some (.tup yy):=λ {aa yy} e=>s9 _ _ (SJ8 _ _ (tkb _ _ (S55 _ _ (tk1 _ _ e))))
   exact⟨_,rfl,g0,_,_,_,rfl,rfl,SqT.of (kp8 hg0),rfl,_,rfl,g,_,_,_,rfl,rfl,SqT.of (kp8 hg),aZ (m8 _) hta,ta,_,_,_,rfl,rfl,SqT.of (kp8 htie),rfl,hC _ _ _ ⟨_,rfl⟩ (Same.refl _) rfl⟩
  have ey:ys9=((alongN ts wsx).map λ k=>(tieAt ts k).2.2).map V.int:=by
   refine ub5 λ i2=>?_
   rw[k0,k0]
   by_cases c:i2<ys9.length
   ·have e1:ys9[i2]?=some ys9[i2]:=d8 c
    have c2:i2<(alongN ts wsx).length:=by left
    rw[e1,hys9 i2 _ e1,g9,d8 c2];rfl
   ·rw[v7 (by left),v7 (by left)];rfl
  rw[ey] at hH9
  have S59:=SJ8.trans S9
  have aF:atI (FD.map ov) (x:Int)=some (ov (Far.get FD x)):=aZ (m8 _) (by rw[u4];exact dG (by left))
  have eFx:Far.get FD x=some y:=(dst x xn).unique dw
  rw[eFx] at aF
  refine⟨L9,_,rfl,hH9,_,rfl,_,rfl,lD,_,_,_,rfl,rfl,SqL.of (S59 _ _ hDJ),aF,rfl,_,rfl,iteNS (by rw[jA,ewl];rfl) ?_⟩
  obtain⟨al1,al2⟩:=iK wy
  have tnx:pl.take (ix+1)=pl.take ix++[x]:=by rw[ucl,hxk];rfl
  have eaw:awN ts (wyN ts r x)=alongN ts wsx:=by rw[ewy];rfl
  have efl:((pl.take (ix+1)).flatMap λ x=>awN ts (wyN ts r x))=((pl.take ix).flatMap λ x=>awN ts (wyN ts r x))++alongN ts wsx:=by rw[tnx,ue8,← eaw];simp
  have ixl:ix<pl.length:=(m9.mp hxk).1
  have hd9:=S59 _ _ hd
  have lF':=koF'.len
  refine⟨_,rfl,.inl ⟨rfl,_,SqL.of hd9⟩,_,rfl,ld,ls,_,_,rfl,rfl,hd9,S9 _ _ e8,?_,λ JA bA eA=>?_⟩
  ·rw[bC,bC,i9];left
  refine⟨_,_,_,_,_,rfl,λ bb o z e=>bA _ _ z (S59 _ _ (b _ _ z e)),?_,?_,?_⟩
  ·rw[eA,efl,← ubp,cH (F'++_)]
  ·rw[efl,i9];left
  ·rw[efl]
   intro k hk
   rcases o9.mp hk with h | h
   ·exact dlt k h
   ·exact gZ lkd k h
 ·obtain⟨yA,yB,yC,yD,yE,rfl,b,hd,dl,dlt⟩:=h
  rw[bC,ua1] at hd dl dlt
  have tb5:Tb Pt (lamPosOf s_order_of) lamQ H5:=(t0.same s1).but (b2.trans (b3.trans (b4.trans b5))) (p1.lst.choose_spec)
  have tbJ:=(tb5.same S55).but b e5
  have tkb:TupKeep J5 J:=λ a ys e=>b _ _ (λ z=>by rw[z,e5] at e;cases e) e
  have isJ:=gF tkb _ (eV n ts) (Is.same S55 _ is5)
  have spJ:=tkb _ _ (S55 _ _ hsp5)
  rw[eFR] at run
  refine⟨_,rfl,_,rfl,_,rfl,sp,_,_,_,rfl,rfl,SqT.of spJ,rfl,_,rfl,sp,_,_,_,rfl,rfl,SqT.of spJ,rfl,n,ts,_,r,p,q',es++[Dfs.Ev.back r none],out,rfl,isJ,ok,tbJ,hrn,⟨by left,by left⟩,⟨by left,by left⟩,run,λ tt tk tp ms J6 b6 tf6 e6 ek6 et6 pw mem=>?_⟩
  rw[epl2] at et6 mem
  rw[← eFR] at mem
  have tkJ:TupKeep J J6:=λ a ys e=>b6 _ _ (λ z=>by obtain⟨_,e',_⟩:=tbJ;rw[z,e'] at e;cases e) e
  have lkJ:∀ {aa:j9}{yy:List V},J aa=some (.lst yy)->J6 aa=some (.lst yy):=λ {aa yy} e=>b6 _ _ (λ z=>by obtain⟨_,e',_⟩:=tbJ;rw[z,e'] at e;cases e) e
  have hd6:=lkJ hd
  have lp6:=lkJ (b _ _ nlp lp5)
  obtain⟨DD,eDD⟩:∃ DD,DD=F'++pl.flatMap λ x=>awN ts (wyN ts r x):=⟨_,rfl⟩
  rw[← eDD] at hd6
  have tipF:tipN n ts FR r=F':=by
   rw[eF']
   unfold tipN
   refine List.filter_congr λ k hk=>?_
   have hkl:=koF.2 k hk
   have tk:=ok.tie _ (bI hkl).2
   rw[ubb,decide_eq_true_iff,Far.zb3,hPP k hk]
   exact⟨λ h=>h.2,λ h=>⟨by left,h⟩⟩
  have memD:∀ k,k∈ms↔k∈DD:=λ k=>by
   rw[mem k,tipF,pF (λ k hk=>dlt k (by rw[List.flatMap_map] at hk;exact hk)),List.flatMap_map,eDD,o9]
  have DDl:∀ k∈DD,k<ts.length:=λ k hk=>by
   rw[eDD] at hk
   rcases o9.mp hk with h | h
   ·exact koF'.2 k h
   ·exact dlt k h
  have lDD:DD.length<=600:=by
   have:=koF'.len
   rw[eDD,i9];left
  have kms:KeepOk ts.length ms:=⟨pw,λ k hk=>DDl k ((memD k).mp hk)⟩
  have lms:=kms.len
  refine⟨tt,_,rfl,SqT.of e6,rfl,_,_,rfl,_,_,rfl,rfl,?_⟩
  refine⟨_,rfl,tk,ms,rfl,ek6,by left,λ J7 S7=>⟨_,rfl,iteF ?_⟩⟩
  refine⟨_,rfl,tp,pl,rfl,S7 _ _ et6,by left,λ J8 S8=>⟨_,rfl,iteF ?_⟩⟩
  have S68:=S7.trans S8
  refine⟨_,rfl,_,rfl,lp,_,rfl,S68 _ _ lp6,λ tq J9 S9 f9 e9=>?_⟩
  have S69:=S68.trans S9
  have dp1:=eM (keepI pl)
  have dp2:udj (pieceD pl)=uda ((keepI pl).map .int)+1:=rfl
  refine⟨pieceD pl,pieceD pl,gT (S69 _ _ et6),gT e9,cD (keepI pl),cD (keepI pl),?_,_,rfl,iteNB (SeqAt.eqv_refl (pieceD pl) (cD (keepI pl))) ?_⟩
  ·rw[dp2,Nat.min_self]
   exact units (by left)
  have hdd9:=S69 _ _ hd6
  rw[bZ] at hdd9
  have few:=nV (ns:=keepI DD) (m:=60) λ x hx=>by
   obtain⟨c,hc,rfl⟩:=y2.mp hx
   have:=DDl c hc
   left
  refine⟨_,rfl,_,rfl,ld,keepI DD,rfl,hdd9,by unfold keepI;rw[c9];left,λ st JA SA fA eA=>⟨st,_,_,rfl,eA,by left,λ ms' m1' m2' m3' l3 JB SB fB eB=>⟨l3,_,rfl,eB,λ tz JC SC fC eC=>?_⟩⟩⟩
  rw[lB m1' m2' m3' pw memD] at eC
  have S6C:=S69.trans (SA.trans (SB.trans SC))
  have dk1:=eM (keepI ms)
  have dk2:udj (pieceD ms)=uda ((keepI ms).map .int)+1:=rfl
  refine⟨pieceD ms,pieceD ms,gT (S6C _ _ ek6),gT eC,cD (keepI ms),cD (keepI ms),?_,_,rfl,iteNB (SeqAt.eqv_refl (pieceD ms) (cD (keepI ms))) ?_⟩
  ·rw[dk2,Nat.min_self]
   exact units (by left)
  refine⟨_,_,_,_,_,_,_,_,_,_,_,_,_,_,rfl,λ bb o z e=>?_,(tf6.same S6C).tb⟩
  have nl:bb≠l:=λ x=>by rw[x,fl0] at e;cases e
  have eJ:J5 bb=some o:=S55 _ _ (b5 _ _ nl (b4 _ _ nl (b3 _ _ nl (b2 _ _ nl (s1 _ _ (b0 _ _ z e))))))
  have eJ4:J4 bb=some o:=S54 _ _ (b5 _ _ nl (b4 _ _ nl (b3 _ _ nl (b2 _ _ nl (s1 _ _ (b0 _ _ z e))))))
  exact S6C _ _ (b6 _ _ z (b _ _ (aP eJ4 f5) eJ))
end
end Me
namespace Me
open PySem PySem.Spec PyProof.Rows L2 L3
abbrev Bdq (x:Str)(st:ude)(ps:List Str):Prop:=∀ (kV doc pm:d6)(an:Option j9)(cdv ct:d6)(us:List d6),us.length=ps.length->bindArgs (ubf x x (defArgs st) (defBody st) (defScope st) .none kV doc pm an cdv ct) ⟨us,[]⟩=pure (ps.zip us)
theorem zcr {K:c6}{h:Heap}{mg:Str->Option d6}{x:Str}{st:ude}{ps:List Str}{f:j9}{od an:Option j9}{sl:Array (Option d6)}{oc kV dc pm cd ct:d6}(X:K.In h)(G:h.Ns p8 mg)
  (b:∀ (kV doc pm:d6)(an:Option j9)(cdv ct:d6)(us:List d6),us.length=ps.length->bindArgs (ubf x x (defArgs st) (defBody st) (defScope st) .none kV doc pm an cdv ct) ⟨us,[]⟩=pure (ps.zip us))
  (a:uah K p8 x=some (some (.ref f))) (l:K.lookup f=some ⟨oc,od,.func (ubf x x (defArgs st) (defBody st) (defScope st) .none kV dc pm an cd ct),sl⟩) (c:ucu K cd x=true) (k:ub3 K (.ref f)=true):DefOk K mg x st ps:=by
 have F:=kH (st:=st) l c k
 exact⟨f,_,F,F.binds b,ugg X G a⟩
theorem dq {p:m5}{K:c6}{h:Heap}{mg:Str->Option d6}{x:Str}{st:ude}{ps:List Str}(f c j u:Nat)(X:K.In h)(G:h.Ns p8 mg)
  (b:∀ (kV doc pm:d6)(an:Option j9)(cdv ct:d6)(us:List d6),us.length=ps.length->bindArgs (ubf x x (defArgs st) (defBody st) (defScope st) .none kV doc pm an cdv ct) ⟨us,[]⟩=pure (ps.zip us))
  (a:uah K p8 x=some (some (.ref f)):=by kernel_rfl) (l:K.lookup f=some ⟨.type "function",none,.func (ubf x x (defArgs st) (defBody st) (defScope st) .none .none .none (Hx.mdV p ⟨0,0,0,j,u,0⟩) none (.ref c) .none),#[]⟩:=by kernel_rfl) (cc:ucu K (.ref c) x=true:=by kernel_rfl) (k:ub3 K (.ref f)=true:=by kernel_rfl):DefOk K mg x st ps:=zcr X G b a l cc k
theorem zaq:Bdq "whole" s_whole ["web"]:=by ac_rfl
theorem sX:Bdq "tie_between" s_tie_between ["web","a","b"]:=by ac_rfl
theorem vK:Bdq "order_of" s_order_of ["web"]:=by ac_rfl
theorem tU:Bdq "ties_along" s_ties_along ["web","places"]:=by ac_rfl
theorem tT:Bdq "way_length" s_way_length ["web","way"]:=by ac_rfl
theorem sW:Bdq "tie_weights" s_tie_weights ["web"]:=by ac_rfl
theorem uN:Bdq "cost_with" s_cost_with ["cost","length","weight"]:=by ac_rfl
theorem sG:Bdq "reached_from" s_reached_from ["web","keep","root"]:=by ac_rfl
theorem uM:Bdq "fars_from" s_fars_from ["web","keep","root"]:=by ac_rfl
theorem uK:Bdq "tree_from" s_tree_from ["web","keep","root"]:=by ac_rfl
theorem wL:Bdq "the_way" s_the_way ["web","keep","a","b"]:=by ac_rfl
theorem vJ:Bdq "piece_of" s_piece_of ["web","keep","place"]:=by ac_rfl
theorem vI:Bdq "ringless" s_ringless ["web","ties"]:=by ac_rfl
theorem sI:Bdq "least_forest" s_least_forest ["web"]:=by ac_rfl
theorem sF:Bdq "ties_of_ways" s_ties_of_ways ["web","ways"]:=by ac_rfl
theorem tV:Bdq "neighbours" s_neighbours ["web","keep","place"]:=by ac_rfl
theorem uL:Bdq "first_new" s_first_new ["web","forest","place","seen"]:=by ac_rfl
theorem yQ:Bdq "put_in" s_put_in ["web","forest","root","p","q"]:=by ac_rfl
theorem rX:Bdq "ties_in_piece" s_ties_in_piece ["web","forest","root"]:=by ac_rfl
theorem tW:Bdq "near_light" s_near_light ["web","root","p","q"]:=by ac_rfl
theorem vN:Bdq "_law_pot" s__law_pot ["script","k"]:=by ac_rfl
theorem uP:Bdq "_law_take" s__law_take ["pot","many"]:=by ac_rfl
theorem sY:Bdq "_law_length" s__law_length ["pot","way"]:=by ac_rfl
theorem uO:Bdq "_law_tied" s__law_tied ["pot","n","style","a","b"]:=by ac_rfl
theorem tZ:Bdq "_law_order" s__law_order ["pot","many"]:=by ac_rfl
theorem vL:Bdq "_law_web" s__law_web ["pot","most"]:=by ac_rfl
theorem uS:Bdq "_law_fars" s__law_fars ["web","keep","start"]:=by ac_rfl
theorem sZ:Bdq "_law_joined" s__law_joined ["web","numbers","a","b"]:=by ac_rfl
theorem uB:Bdq "_law_grown" s__law_grown ["web","order"]:=by ac_rfl
theorem uA:Bdq "_law_least" s__law_least ["web"]:=by ac_rfl
theorem tY:Bdq "_law_plain" s__law_plain ["thing"]:=by ac_rfl
theorem tX:Bdq "_law_slack" s__law_slack ["pot"]:=by ac_rfl
theorem uR:Bdq "_law_gone" s__law_gone ["web","forest","here","known"]:=by ac_rfl
theorem vM:Bdq "_law_put" s__law_put ["web","forest","root","slack","fars"]:=by ac_rfl
theorem uC:Bdq "_law_along" s__law_along ["web","way"]:=by ac_rfl
theorem uQ:Bdq "_law_most" s__law_most ["pot","k","most"]:=by ac_rfl
theorem zbk {P:m5}{w:ual}{K:c6}{mg:Str->Option d6}{base:Heap}{f:j9}{fd:ub7}{cT pT:j9}(T:Bi mg)(D_order_of:DefOkC K mg "order_of" s_order_of ["web"] cT)(lT:LamHd mg base cT pT)
  (D_whole:DefOk K mg "whole" s_whole ["web"])
  (D_tie_between:DefOk K mg "tie_between" s_tie_between ["web","a","b"])
  (D_ties_along:DefOk K mg "ties_along" s_ties_along ["web","places"])
  (D_way_length:DefOk K mg "way_length" s_way_length ["web","way"])
  (D_tie_weights:DefOk K mg "tie_weights" s_tie_weights ["web"])
  (D_cost_with:DefOk K mg "cost_with" s_cost_with ["cost","length","weight"])
  (D_reached_from:DefOk K mg "reached_from" s_reached_from ["web","keep","root"])
  (D_fars_from:DefOk K mg "fars_from" s_fars_from ["web","keep","root"])
  (D_tree_from:DefOk K mg "tree_from" s_tree_from ["web","keep","root"])
  (D_the_way:DefOk K mg "the_way" s_the_way ["web","keep","a","b"])
  (D_piece_of:DefOk K mg "piece_of" s_piece_of ["web","keep","place"])
  (D_ringless:DefOk K mg "ringless" s_ringless ["web","ties"])
  (D_least_forest:DefOk K mg "least_forest" s_least_forest ["web"])
  (D_ties_of_ways:DefOk K mg "ties_of_ways" s_ties_of_ways ["web","ways"])
  (D_neighbours:DefOk K mg "neighbours" s_neighbours ["web","keep","place"])
  (D_first_new:DefOk K mg "first_new" s_first_new ["web","forest","place","seen"])
  (D_put_in:DefOk K mg "put_in" s_put_in ["web","forest","root","p","q"])
  (D_ties_in_piece:DefOk K mg "ties_in_piece" s_ties_in_piece ["web","forest","root"])
  (D_near_light:DefOk K mg "near_light" s_near_light ["web","root","p","q"])
  (D__law_pot:DefOk K mg "_law_pot" s__law_pot ["script","k"])
  (D__law_take:DefOk K mg "_law_take" s__law_take ["pot","many"])
  (D__law_length:DefOk K mg "_law_length" s__law_length ["pot","way"])
  (D__law_tied:DefOk K mg "_law_tied" s__law_tied ["pot","n","style","a","b"])
  (D__law_order:DefOk K mg "_law_order" s__law_order ["pot","many"])
  (D__law_web:DefOk K mg "_law_web" s__law_web ["pot","most"])
  (D__law_fars:DefOk K mg "_law_fars" s__law_fars ["web","keep","start"])
  (D__law_joined:DefOk K mg "_law_joined" s__law_joined ["web","numbers","a","b"])
  (D__law_grown:DefOk K mg "_law_grown" s__law_grown ["web","order"])
  (D__law_least:DefOk K mg "_law_least" s__law_least ["web"])
  (D__law_plain:DefOk K mg "_law_plain" s__law_plain ["thing"])
  (D__law_slack:DefOk K mg "_law_slack" s__law_slack ["pot"])
  (D__law_gone:DefOk K mg "_law_gone" s__law_gone ["web","forest","here","known"])
  (D__law_put:DefOk K mg "_law_put" s__law_put ["web","forest","root","slack","fars"])
  (D__law_along:DefOk K mg "_law_along" s__law_along ["web","way"])
  (D__law_most:DefOk K mg "_law_most" s__law_most ["pot","k","most"])
  (F:Fun K "law" "law" s_law f fd):FnOk P w K mg base CX0 27 f fd ["script"] (spLaw K pT):=by
 have O__law_take:=uI (P:=P) (w:=w) (base:=base) T D__law_take
 have O__law_pot:=vC (P:=P) (w:=w) (base:=base) T D__law_pot
 have O__law_length:=sO T D__law_length O__law_take
 have O__law_tied:=uH T D__law_tied O__law_take
 have O__law_order:=tN T D__law_order O__law_take
 have O__law_web:=vB T D__law_web (O__law_take.mono (by decide)) O__law_order O__law_tied O__law_length
 have O_whole:=zU (P:=P) (w:=w) (base:=base) T D_whole
 have O_order_of:=vA T D_order_of lT (O_whole.mono (by decide))
 have O_ringless:=uY (P:=P) (w:=w) (base:=base) T D_ringless
 have O_least_forest:=rZ T D_least_forest O_order_of (O_ringless.mono (by decide))
 have O_tie_weights:=sK (P:=P) (w:=w) (base:=base) T D_tie_weights
 have O_cost_with:=uG (P:=P) (w:=w) (base:=base) T D_cost_with
 have O_reached_fromC:=rV T D_reached_from O_tie_weights O_cost_with
 have O_reached_from:‹2› "reached_from" ["web","keep","root"] (spReached K):=O_reached_fromC.imp xB
 have O_reached_fromB:‹2› "reached_from" ["web","keep","root"] (spReachedB K):=O_reached_fromC.imp xC
 have O_fars_from:=uF T D_fars_from O_reached_from
 have O_tree_from:=tH T D_tree_from O_reached_fromB
 have O_the_wayB:=uX T D_the_way O_tree_from
 have O_the_way:‹4› "the_way" ["web","keep","a","b"] (spWayM K):=O_the_wayB.imp zcv
 have O_tie_between:=sL (P:=P) (w:=w) (base:=base) T D_tie_between
 have O_ties_along:=tJ T D_ties_along O_tie_between
 have O_ties_alongW:=sJ T D_ties_along O_tie_between
 have O_way_length:=tG T D_way_length O_ties_along
 have O_ties_of_ways:=rR T D_ties_of_ways O_ties_alongW
 have O_neighbours:=tK (P:=P) (w:=w) (base:=base) T D_neighbours
 have O_first_new:=sM T D_first_new O_neighbours
 have O_put_in:=xG T D_put_in O_fars_from (O_whole.mono (by decide)) (O_first_new.mono (by decide)) (O_way_length.mono (by decide))
 have O_piece_of:=uZ T D_piece_of O_fars_from
 have O_ties_in_piece:=rT T D_ties_in_piece (O_piece_of.mono (by decide)) (O_whole.mono (by decide))
 have O_near_light:=rY T D_near_light (O_least_forest.mono (by decide)) (O_put_in.mono (by decide)) (O_ties_of_ways.mono (by decide)) (O_the_way.mono (by decide)) (O_whole.mono (by decide)) (O_ties_in_piece.mono (by decide))
 have O__law_joined:=sP (P:=P) (w:=w) (base:=base) T D__law_joined
 have O__law_grown:=sC T D__law_grown O__law_joined
 have O__law_least:=sB T D__law_least O__law_grown
 have O__law_fars:=tO (P:=P) (w:=w) (base:=base) T D__law_fars
 have O__law_slack:=sA T D__law_slack O__law_take
 have O__law_most:=sN T D__law_most O__law_take
 have O__law_gone:=lU (P:=P) (w:=w) (base:=base) T D__law_gone 24
 have O__law_put:=tL T D__law_put O__law_gone
 have O__law_along:=sD (P:=P) (w:=w) (base:=base) T D__law_along
 have O__law_plain:=tM (P:=P) (w:=w) (base:=base) T D__law_plain
 exact zcf T F (O__law_pot.mono (by decide)) (O__law_slack.mono (by decide)) (O__law_most.mono (by decide)) (O__law_web.mono (by decide)) (O__law_take.mono (by decide)) (O__law_fars.mono (by decide)) (O__law_least.mono (by decide)) (O__law_put.mono (by decide)) (O_the_way.mono (by decide)) (O_whole.mono (by decide)) (O__law_along.mono (by decide)) (O_near_light.mono (by decide)) (O__law_plain.mono (by decide))
theorem dqC {p:m5}{K:c6}{h:Heap}{mg:Str->Option d6}{x:Str}{st:ude}{ps:List Str}{cT pT:j9}(f c j u:Nat)(X:K.In h)(G:h.Ns p8 mg)
  (b:∀ (kV doc pm:d6)(an:Option j9)(cdv ct:d6)(us:List d6),us.length=ps.length->bindArgs (ubf x x (defArgs st) (defBody st) (defScope st) .none kV doc pm an cdv ct) ⟨us,[]⟩=pure (ps.zip us))
  (a:uah K p8 x=some (some (.ref f))) (l:K.lookup f=some ⟨.type "function",none,.func (ubf x x (defArgs st) (defBody st) (defScope st) .none .none .none (Hx.mdV p ⟨0,0,0,j,u,0⟩) none (.ref c) .none),#[]⟩) (cc:ucu K (.ref c) x=true) (k:ub3 K (.ref f)=true) (t:ucr K x=some (cT,pT)):DefOkC K mg x st ps cT:=zbr X G b a l cc k t
theorem walk {l:PySem.W.OpenLaw}{q:m5}{loose:List Str}{XP:(Str->Option d6)->Heap->Prop}{YP:ual->Heap->Prop}{d dT:DefRec}{K:Params->c6}(hn:l.most=some 63)(hdf:d.params.defaults=[])
  (hY:∀ (w:ual)(h:Heap),YP w h->(K w.params).In h) (hrec:(recsOf q).find? (λ e=>e.name==o8 "order_of")=some dT) (htab:∀ w:ual,∃ c Pt,ucr (K w.params) "order_of"=some (c,Pt)/\Pt≠cStatics) (hnt:∀ w:ual,uf6 (K w.params)=true)
  (F:∀ (w:ual)(mg:Str->Option d6)(fa:j9)(h:Heap)(c Pt:j9),(K w.params).In h->h.Ns p8 mg->mg d.name=some (.ref fa)->ucr (K w.params) "order_of"=some (c,Pt) ->
   ∃ fd:ub7,(∀ (s:d7)(u:d6),BindsTo s fd ⟨[u],[]⟩ [("script",u)])/\∀ base:Heap,(K w.params).In base->base.Ns p8 mg->LamHd mg base c Pt->FnOk l.prog w (K w.params) mg base CX0 27 fa fd ["script"] (spLaw (K w.params) Pt)) :
  PySem.W.WalkO q loose XP YP l.row.toRowW d [] (λ f vs=>PySem.call f vs) :=
 yZ (n:=63) (k:=27) (x:="script") (xn:="order_of") (sp:=λ w Pt=>spLaw (K w.params) Pt) hn (by decide) hdf ⟨rfl,by decide,by decide,rfl⟩ hY hrec htab hnt F λ _ _ _ a ns hl hS hP=>⟨a,ns,rfl,hS,hl,⟨#[],hP,.inl rfl⟩,λ _=>rfl⟩
end Me
namespace Hy
open PySem PySem.W Hx
def cs:List Ch:=[⟨0,15,187,0,187,0⟩,⟨1,15,189,0,187,0⟩,⟨2,22,196,0,187,0⟩,⟨3,29,208,0,187,0⟩,⟨4,36,216,4,216,0⟩,⟨5,36,218,4,216,0⟩,⟨6,41,224,4,216,0⟩,⟨7,46,230,4,216,0⟩,⟨8,53,240,4,216,0⟩,⟨9,60,249,4,216,0⟩,⟨10,67,269,4,216,0⟩,⟨11,72,275,4,216,0⟩,⟨12,79,286,4,216,0⟩,⟨13,86,298,4,216,0⟩,⟨14,91,304,14,304,0⟩,⟨15,91,306,14,304,0⟩,⟨16,96,312,14,304,0⟩,⟨17,103,319,17,319,0⟩,⟨18,103,321,17,319,0⟩,⟨19,110,331,19,331,0⟩,⟨20,110,333,19,331,0⟩,⟨21,115,339,21,339,0⟩,⟨22,115,341,21,339,0⟩,⟨23,120,347,21,339,0⟩,⟨24,127,365,21,339,0⟩,⟨25,132,371,21,339,0⟩,⟨26,137,377,26,377,0⟩,⟨27,137,379,26,377,0⟩,⟨28,144,389,26,377,0⟩,⟨29,151,398,26,377,0⟩,⟨30,158,406,26,377,0⟩,⟨31,165,418,26,377,0⟩,⟨32,172,429,26,377,0⟩,⟨33,179,446,26,377,0⟩,⟨34,186,464,26,377,0⟩,⟨35,191,470,26,377,0⟩,⟨36,198,480,26,377,0⟩,⟨37,203,486,26,377,0⟩,⟨38,208,492,26,377,0⟩,⟨39,215,500,26,377,0⟩,⟨40,222,516,26,377,0⟩,⟨41,229,534,26,377,0⟩,⟨42,234,540,26,377,0⟩,⟨43,241,549,26,377,0⟩]
end Hy
lay_quick Hx.PieceT Hx.PreT Hx.BlockT Hx.LookA Hx.LookB Hx.LookC PySem.Challenge.pw_thinways_k79_walks_round_a_forest
namespace Hy
open PySem PySem.W Hx
theorem pre:PreT a8 boots boot_drawn boot_heap boot_toks cs ⟨0,15,187⟩:=by
 rw[PySem.W.Fast.te16428918119715843241,PySem.W.Fast.te8821361076591782908];delta PySem.W.Fast.tw16428918119715843241;intro w;kernel_rfl
theorem pc0:PieceT a8 boots boot_drawn cs ⟨0,15,187⟩ ⟨15,91,306⟩ 397:=by
 rw[PySem.W.Fast.te4643275101561185336,PySem.W.Fast.te8821361076591782908];delta PySem.W.Fast.tw4643275101561185336;intro w;kernel_rfl
theorem pc1:PieceT a8 boots boot_drawn cs ⟨15,91,306⟩ ⟨31,165,418⟩ 395:=by
 rw[PySem.W.Fast.te4643275101561185336,PySem.W.Fast.te8821361076591782908];delta PySem.W.Fast.tw4643275101561185336;intro w;kernel_rfl
theorem pc2:PieceT a8 boots boot_drawn cs ⟨31,165,418⟩ ⟨43,241,549⟩ 388:=by
 rw[PySem.W.Fast.te4643275101561185336,PySem.W.Fast.te8821361076591782908];delta PySem.W.Fast.tw4643275101561185336;intro w;kernel_rfl
theorem pc3:PieceT a8 boots boot_drawn cs ⟨43,241,549⟩ ⟨44,246,555⟩ 27:=by
 rw[PySem.W.Fast.te4643275101561185336,PySem.W.Fast.te8821361076591782908];delta PySem.W.Fast.tw4643275101561185336;intro w;kernel_rfl
theorem blk:BlockT a8 :=by
 rw[PySem.W.Fast.te421534021395069552,PySem.W.Fast.te8821361076591782908];delta PySem.W.Fast.tw421534021395069552;intro w s;kernel_rfl
theorem run (w:ual)(os:OsState):topRun treeTable a8 w 11 ann0 (12+(1+(397+(395+(388+(27+2)))))) ⟨boot_heap w.params,uem [],boot_drawn,boot_toks,os⟩ (topStub a8)=some (stT a8 boots boot_drawn cs ⟨44,246,555⟩ w os).abs:=za3 pre blk (chain pc0 (by decide) (chain pc1 (by decide) (chain pc2 (by decide) (chain pc3 (by decide) (yL (by kernel_rfl))))))
theorem size (w:ual):((boot_heap w.params).isNs p8&&(uem []:Array GenState).size==0,(boot_heap w.params).objs.size,(boot_heap w.params).nsMap p8 "__annotations__")=(true,11,ann0):=by kernel_rfl
theorem lkA:LookA a8 boots boot_drawn boot_heap cs ⟨44,246,555⟩:=by
 rw[PySem.W.Fast.te7818774390570169022,PySem.W.Fast.te8821361076591782908];delta PySem.W.Fast.tw7818774390570169022;intro w;kernel_rfl
theorem lkB:LookB a8 boots boot_drawn cs ⟨44,246,555⟩ [3,43] (OpenRow.toRowW (r9).row).records:=by
 rw[PySem.W.Fast.te13889730532244352606,PySem.W.Fast.te8821361076591782908];delta PySem.W.Fast.tw13889730532244352606;intro w;kernel_rfl
theorem lkC:LookC a8 boots cs ⟨44,246,555⟩ [3,20,21,27,28,34,35,39,40,44,45,51,52,58,59,65,66,70,71,77,78,84,85,89,90,94,95,101,102,108,109,113,114,118,119,125,126,130,131,135,136,142,143,149,150,156,157,163,164,170,171,177,178,184,185,189,190,196,197,201,202,206,207,213,214,220,221,227,228,232,233,239,240,244,245]:=by
 rw[PySem.W.Fast.te6241646928739474683,PySem.W.Fast.te8821361076591782908];delta PySem.W.Fast.tw6241646928739474683;intro w;kernel_rfl
noncomputable abbrev K:=Kf a8 boots cs
theorem Kas (P:Params):[3,20,21,27,28,34,35,39,40,44,45,51,52,58,59,65,66,70,71,77,78,84,85,89,90,94,95,101,102,108,109,113,114,118,119,125,126,130,131,135,136,142,143,149,150,156,157,163,164,170,171,177,178,184,185,189,190,196,197,201,202,206,207,213,214,220,221,227,228,232,233,239,240,244,245]=(K P).map (·.1):=by kernel_rfl
noncomputable abbrev H:Hook:=kHook K [3,20,21,27,28,34,35,39,40,44,45,51,52,58,59,65,66,70,71,77,78,84,85,89,90,94,95,101,102,108,109,113,114,118,119,125,126,130,131,135,136,142,143,149,150,156,157,163,164,170,171,177,178,184,185,189,190,196,197,201,202,206,207,213,214,220,221,227,228,232,233,239,240,244,245] Kas
theorem opn:opening a8=plainProg (a8).main.scope.names:=by kernel_rfl
theorem fnc (s:d7):fenceModules? a8 s=some s:=by kernel_rfl
theorem left:LeftO a8 (qv a8 [3,43]) (lz a8 [3,43] 44) (λ s=>xlAt (qv a8 [3,43]) [] s&&recOk (OpenRow.toRowW (r9).row).records s) (Hook.obs H) (Hook.val H) 3044 :=
 zbi (p:=a8) (cs:=cs) (is:=[3,43]) (as:=[3,20,21,27,28,34,35,39,40,44,45,51,52,58,59,65,66,70,71,77,78,84,85,89,90,94,95,101,102,108,109,113,114,118,119,125,126,130,131,135,136,142,143,149,150,156,157,163,164,170,171,177,178,184,185,189,190,196,197,201,202,206,207,213,214,220,221,227,228,232,233,239,240,244,245]) (rc:=(OpenRow.toRowW (r9).row).records) (c:=⟨44,246,555⟩) (M:=12+(1+(397+(395+(388+(27+2)))))) (N:=3044) (e:=Kas) opn (by decide) fnc size run (by decide) lkA lkB lkC
end Hy
namespace Hy
open PySem PySem.W PyProof.Rows L2 L3 Hx Me
theorem all {w:ual}{h:Heap}{mg:Str->Option d6}{fa:j9}{c0 p0:j9}(X:(K w.params).In h)(G:h.Ns p8 mg)(hfa:mg "law"=some (.ref fa))(t0:ucr (K w.params) "order_of"=some (c0,p0)) :
  ∃ fd:ub7,(∀ (s:d7)(v:d6),BindsTo s fd ⟨[v],[]⟩ [("script",v)])/\∀ base:Heap,(K w.params).In base->base.Ns p8 mg->LamHd mg base c0 p0->FnOk (r9).prog w (K w.params) mg base CX0 27 fa fd ["script"] (spLaw (K w.params) p0):=by
 have T:Bi mg:=⟨v9 X G (show uah (K w.params) p8 "len"=some none by kernel_rfl),v9 X G (show uah (K w.params) p8 "range"=some none by kernel_rfl),v9 X G (show uah (K w.params) p8 "zip"=some none by kernel_rfl),v9 X G (show uah (K w.params) p8 "all"=some none by kernel_rfl),v9 X G (show uah (K w.params) p8 "sorted"=some none by kernel_rfl),v9 X G (show uah (K w.params) p8 "isinstance"=some none by kernel_rfl),v9 X G (show uah (K w.params) p8 "min"=some none by kernel_rfl),v9 X G (show uah (K w.params) p8 "max"=some none by kernel_rfl),v9 X G (show uah (K w.params) p8 "tuple"=some none by kernel_rfl),v9 X G (show uah (K w.params) p8 "list"=some none by kernel_rfl),v9 X G (show uah (K w.params) p8 "int"=some none by kernel_rfl),v9 X G (show uah (K w.params) p8 "bool"=some none by kernel_rfl),v9 X G (show uah (K w.params) p8 "str"=some none by kernel_rfl),v9 X G (show uah (K w.params) p8 "enumerate"=some none by kernel_rfl),v9 X G (show uah (K w.params) p8 "sum"=some none by kernel_rfl),v9 X G (show uah (K w.params) p8 "abs"=some none by kernel_rfl),v9 X G (show uah (K w.params) p8 "set"=some none by kernel_rfl),v9 X G (show uah (K w.params) p8 "reversed"=some none by kernel_rfl),v9 X G (show uah (K w.params) p8 "any"=some none by kernel_rfl),v9 X G (show uah (K w.params) p8 "repr"=some none by kernel_rfl),v9 X G (show uah (K w.params) p8 "dict"=some none by kernel_rfl)⟩
 have D_whole:=dq (p:=a8) (ps:=["web"]) 21 20 0 187 X G zaq
 have D_tie_between:=dq (p:=a8) (ps:=["web","a","b"]) 28 27 0 187 X G sX
 have D_order_of:=dqC (p:=a8) (ps:=["web"]) 35 34 0 187 X G vK (by kernel_rfl) (by kernel_rfl) (by kernel_rfl) (by kernel_rfl) t0
 have D_ties_along:=dq (p:=a8) (ps:=["web","places"]) 40 39 4 216 X G tU
 have D_way_length:=dq (p:=a8) (ps:=["web","way"]) 45 44 4 216 X G tT
 have D_tie_weights:=dq (p:=a8) (ps:=["web"]) 52 51 4 216 X G sW
 have D_cost_with:=dq (p:=a8) (ps:=["cost","length","weight"]) 59 58 4 216 X G uN
 have D_reached_from:=dq (p:=a8) (ps:=["web","keep","root"]) 66 65 4 216 X G sG
 have D_fars_from:=dq (p:=a8) (ps:=["web","keep","root"]) 71 70 4 216 X G uM
 have D_tree_from:=dq (p:=a8) (ps:=["web","keep","root"]) 78 77 4 216 X G uK
 have D_the_way:=dq (p:=a8) (ps:=["web","keep","a","b"]) 85 84 4 216 X G wL
 have D_piece_of:=dq (p:=a8) (ps:=["web","keep","place"]) 90 89 4 216 X G vJ
 have D_ringless:=dq (p:=a8) (ps:=["web","ties"]) 95 94 14 304 X G vI
 have D_least_forest:=dq (p:=a8) (ps:=["web"]) 102 101 14 304 X G sI
 have D_ties_of_ways:=dq (p:=a8) (ps:=["web","ways"]) 109 108 17 319 X G sF
 have D_neighbours:=dq (p:=a8) (ps:=["web","keep","place"]) 114 113 19 331 X G tV
 have D_first_new:=dq (p:=a8) (ps:=["web","forest","place","seen"]) 119 118 21 339 X G uL
 have D_put_in:=dq (p:=a8) (ps:=["web","forest","root","p","q"]) 126 125 21 339 X G yQ
 have D_ties_in_piece:=dq (p:=a8) (ps:=["web","forest","root"]) 131 130 21 339 X G rX
 have D_near_light:=dq (p:=a8) (ps:=["web","root","p","q"]) 136 135 21 339 X G tW
 have D__law_pot:=dq (p:=a8) (ps:=["script","k"]) 143 142 26 377 X G vN
 have D__law_take:=dq (p:=a8) (ps:=["pot","many"]) 150 149 26 377 X G uP
 have D__law_length:=dq (p:=a8) (ps:=["pot","way"]) 157 156 26 377 X G sY
 have D__law_tied:=dq (p:=a8) (ps:=["pot","n","style","a","b"]) 164 163 26 377 X G uO
 have D__law_order:=dq (p:=a8) (ps:=["pot","many"]) 171 170 26 377 X G tZ
 have D__law_web:=dq (p:=a8) (ps:=["pot","most"]) 178 177 26 377 X G vL
 have D__law_fars:=dq (p:=a8) (ps:=["web","keep","start"]) 185 184 26 377 X G uS
 have D__law_joined:=dq (p:=a8) (ps:=["web","numbers","a","b"]) 190 189 26 377 X G sZ
 have D__law_grown:=dq (p:=a8) (ps:=["web","order"]) 197 196 26 377 X G uB
 have D__law_least:=dq (p:=a8) (ps:=["web"]) 202 201 26 377 X G uA
 have D__law_plain:=dq (p:=a8) (ps:=["thing"]) 207 206 26 377 X G tY
 have D__law_slack:=dq (p:=a8) (ps:=["pot"]) 214 213 26 377 X G tX
 have D__law_gone:=dq (p:=a8) (ps:=["web","forest","here","known"]) 221 220 26 377 X G uR
 have D__law_put:=dq (p:=a8) (ps:=["web","forest","root","slack","fars"]) 228 227 26 377 X G vM
 have D__law_along:=dq (p:=a8) (ps:=["web","way"]) 233 232 26 377 X G uC
 have D__law_most:=dq (p:=a8) (ps:=["pot","k","most"]) 240 239 26 377 X G uQ
 have e:=hfa.symm.trans (ugg X G (show uah (K w.params) p8 "law"=some (some (.ref 245)) by kernel_rfl))
 cases e
 have F:=kH (x:="law") (qual:="law") (st:=s_law) (K:=K w.params) (f:=245) (oc:=.type "function") (od:=none) (an:=none) (osl:=#[]) (kV:=.none) (doc:=.none) (pm:=Hx.mdV a8 ⟨0,0,0,26,377,0⟩) (cdv:=.ref 244) (ct:=.none) (by kernel_rfl) (by kernel_rfl) (by kernel_rfl)
 exact⟨_,λ s v=>.of_eq rfl,λ base _ _ l0=>zbk (P:=(r9).prog) (w:=w) (base:=base) T D_order_of l0 D_whole D_tie_between D_ties_along D_way_length D_tie_weights D_cost_with D_reached_from D_fars_from D_tree_from D_the_way D_piece_of D_ringless D_least_forest D_ties_of_ways D_neighbours D_first_new D_put_in D_ties_in_piece D_near_light D__law_pot D__law_take D__law_length D__law_tied D__law_order D__law_web D__law_fars D__law_joined D__law_grown D__law_least D__law_plain D__law_slack D__law_gone D__law_put D__law_along D__law_most F⟩
end Hy
open PySem PySem.W PyProof.Rows
set_option maxRecDepth 100000 in
set_option maxHeartbeats 0 in
theorem PySem.Challenge.cw_thinways_k79_walks_round_a_forest_holds : PySem.Challenge.rw_thinways_k79_walks_round_a_forest.Holds := by
 w_on;o_law
 refine holds_open (q:=(Hx.qv PySem.Challenge.pw_thinways_k79_walks_round_a_forest [3,43])) (loose:=Hx.lz PySem.Challenge.pw_thinways_k79_walks_round_a_forest [3,43] 44) (Xt:=λ s=>xlAt (Hx.qv PySem.Challenge.pw_thinways_k79_walks_round_a_forest [3,43]) [] s&&recOk (OpenRow.toRowW (PySem.Challenge.rw_thinways_k79_walks_round_a_forest).row).records s) (XP:=XL (Hx.qv PySem.Challenge.pw_thinways_k79_walks_round_a_forest [3,43]) []) (Yf:=Hook.obs Hy.H) (Ya:=Hook.val Hy.H) (YP:=Hook.says Hy.H) (N:=3044) Hy.left (Hook.of Hy.H) (Hook.keeps Hy.H) (λ s e=>xl_of s (Bool.and_eq_true_iff.mp e).1) XL.keeps (by rfl) (by rfl) (by rfl) (λ s e=>recFacts_of (Bool.and_eq_true_iff.mp e).2) (by rfl) (by first | assumption | decide +kernel) (by symm) ⟨rfl,rfl,rfl,rfl,rfl,by symm⟩ ?hw ?hc
 case hw=>w_witness2
 case hc =>
  refine' Me.walk (l:=PySem.Challenge.rw_thinways_k79_walks_round_a_forest) (dT:=?dT) rfl rfl (λ w h Y=>PySem.W.kIn_of Y) ?rc7 (λ w=>⟨34,30,by kernel_rfl,by decide⟩) (λ w=>by kernel_rfl) λ w mg fa h c p KX G hmg t=>Hy.all KX G hmg t
  case rc7=>exact rfl
