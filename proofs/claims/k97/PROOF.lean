import PyProof.Rows.All
import Wide.All
import OpenK.AllK
import Wide.FinOn
import Lean
import PyProof.EqAt
import PyProof.EqKinds
import PyProof.TupleCall
import KE.KSortTup
import PyProof.ZipIter
import PyProof.TupleIter
import PyProof.WalksMore
import PyProof.Rows.TupIter
import PyProof.EnumIter
import PyProof.EnumFor
import PyProof.EnumStmt
import PyProof.ReprRoads
import PyProof.Rows.SeqMore
import PyProof.ListMulRoad
import PyProof.FactsAll.tuple_2
import PyProof.FactsAll.tuple_3
import PyProof.Rows.Tup
import PyProof.ListRange
import PyProof.TupleOfSeq
import PyProof.SumAny
import PyProof.ConsumeS
import PyProof.Rows.CallKwBuiltin
import KE.KLam
import KE.KSortKey
import PyProof.AutoSeq1
import KE.KListMore
import PyProof.FactsAll.subtypes_4
import PyProof.SetRoads
import PyProof.Rows.SetFrom
import PyProof.WalkInts
import PyProof.DictDisplay
import PyProof.ReprBulk
import KE.KDictOf
import PyProof.AttrMissSeq
import PyProof.DictWalks
import PySem.Challenge.RW_thinways_k97_whole_levels_of_times
set_option Elab.async false
set_option linter.all false
set_option maxRecDepth 100000
open PySem.Challenge renaming pw_thinways_k97_whole_levels_of_times→uaa, rw_thinways_k97_whole_levels_of_times→uaz
open PySem renaming wpAny_bind→uab, wpAny_pure→uah, wpAny_holding→ubd, wpAny_callSpecial?_slot→ubh, wpAny_call_entry→ubm, codeAny_builtin→ubn, wpAny_newObj_type→ubu, wpAny_seqItems→ubv, wpAny_field→ub1, wpAny_truthy_bool→ub6, wpAny_setField_rec→ub8, plainId_quiet→ucd, wpAny_pyIter_list→uct, wpAny_mono→ucw, mem_of_lookup→uc0, wpAny_tryCatch→uc7, sizeLine_eq→uc9, wpAny_letGo→udf, wpAny_updateSeq→udk, wpAny_rule→udl, wpAny_setField→udq, wpAny_passesOwn→udu, wpAny_setState_of→udv, wpAny_attempt→udw, wpAny_askSetting→ud0, wpAny_setEntries_of→ud5, wpAny_typeOf→ud6, codeAny_mono→ud7, wpAny_isInstance→ueh, wpAny_standAt→uek, wpAny_newList→uel, wpAny_loadPart'→ueq, wpAny_pyIter_tuple→uev, wpAny_Call_Name_kw→uew, wpAny_execs_nil→ufg, builtinLookup_eq_fast→ufh, call_meets→ufl, wpAny_updateSeq_pair→ufo, codeAny_call_builtin→ufp, wpAny_runValue→uft, wpAny_fieldsOf→ufu, isSubtype_stop→ufv, wpAny_of_eq→ufw, wpAny_onRaise→uf8, weight_type_call_type→uf9, tupleKind_room_in1→uga, fits_of_scanBound→ugh, check_set_init_1→ug0
open PySem.W renaming Frag→uac, mg_none_of→ua5, nsIn→ubk, kia_one→uck, fnOf→uc8, keepIn→ud8, codeIn→uei, methodObj→ufi, instObj→ufx, lookIn→ugb, findIn→ugc, cellsFrom_some→ugo
open List renaming getElem?_eq_getElem→uad, length_map→uae, range→uaf, getD_eq_getElem?_getD→uag, getElem?_map→uaj, getElem?_eq_some_iff→uak, mem_cons_self→ual, mem_cons→uam, mem_cons_of_mem→uan, size_toArray→uap, mem_range→uaq, length_append→uar, getElem?_eq_none→uat, length_singleton→uax, length_range→uay, replicate→ua0, not_mem_nil→ua1, mem_of_getElem?→ua2, mem_singleton→ua3, Nodup→ua7, mem_append_right→ua8, getElem?_append_right→ubb, map_cons→ubg, mem_filter→ubl, mem_append→ubp, length_replicate→ubq, pairwise_lt_range→ubw, mem_map→ubx, map_map→uby, getElem?_range→ub9, filterMap_cons→uca, ext_getElem?→ucc, range_succ→ucf, pairwise_iff_getElem→ucg, getElem?_append_left→uch, all_eq_true→uci, filterMap_append→ucj, nodup_cons→ucl, map_append→ucm, mem_append_left→ucn, lookup_cons→uco, length_cons→ucp, any_eq_true→ucu, length_eq_zero_iff→ucx, length_set→uc2, getElem_of_mem→uc3, take_of_length_le→uc6, getElem_mem→udb, pairwise_map→udd, getD→ude, replicate_succ→udi, length_drop→udm, mem_filterMap→udo, length_filter_le→udr, perm_cons_erase→uds, length_pos_iff→udy, pairwise_cons→ud1, getElem?_replicate→ud2, find?_cons→ud3, append_nil→ud4, reverse_cons→ud9, flatten_cons→uea, append_assoc→ueb, all_map→uec, length_take→ued, reverse_append→uef, map_congr_left→ueg, zip_cons_cons→uem, getElem?_drop→uen, filterMap_map→ueo, drop_eq_getElem_cons→uep, nodup_append→ues, take_length→uex, mem_flatMap→uey, ext_getElem→uez, countP_cons→ue0, getElem?_set_self→ue2, mem_of_mem_erase→ue4, length_nil→ue5, countP_mono_left→ue6, pairwise_append→ufd, getElem?_set_ne→ufe, getElem?_of_mem→uff, map_filterMap→ufm, toArray→uf0, nodup_range→uf2, filter_cons→uf3, eq_nil_of_length_eq_zero→uf4, of_mem_zip→uge, forIn_cons→ugf, length_eraseIdx_of_lt→ugm, mem_of_find?_eq_some→ugr, length_filterMap_le→ugy, filterMap_cons_some→ugz, pairwise_singleton→ug2, map_drop→ug3, any_cons→ug4
open Nat renaming le_refl→uai, ne_of_lt→uas, lt_of_lt_of_le→ua4, zero_le→ube, lt_of_le_of_lt→ubr, lt_irrefl→ubs, le_trans→ubt, lt_succ_of_lt→ubz, lt_succ_self→ub2, ne_of_gt→ucq, lt_or_ge→ucz, le_succ→uc5, gcd→uda, le_add_right→uee, not_lt_zero→uej, lt_trichotomy→uet, lt_trans→ue8, le_of_lt→ue9, le_of_eq→ufa, add_comm→ufb, lt_or_eq_of_le→ufq, eq_zero_or_pos→ufr, sub_self→uf1, succ_le_succ→ugd, strongRecOn→ugl, gcd_pos_of_pos_right→ug1
open Int renaming toNat_natCast→uao, natCast_nonneg→uav, toNat_of_nonneg→ua6, le_refl→ubf, mul_le_mul_of_nonneg_right→ubi, mul_le_mul_of_nonneg_left→ucv, emod_lt_of_pos→udc, emod_nonneg→udg, le_of_lt→udj, mul_right_comm→udp, le_of_mul_le_mul_right→udt, mul_assoc→ue1, le_trans→ufc, add_mul→ufk, add_right_comm→ufs, zero_add→uf5, ne_of_lt→uf6, lt_trans→uf7, fdiv_eq_ediv_of_nonneg→ugs, eq_of_mul_eq_mul_right→ugt
open Bool renaming false_ne_true→uau, false_eq_true→ub5, and_eq_true→ucb, eq_false_iff→ucr, eq_iff_iff→uc4, or_eq_true→ue7, false_and→ugu
open Or renaming inl→uaw, inr→ufj
open PySem.F renaming plain_min_loop→ua9, called_set→ubc, plainAttrs_list→ubo, type_list_append→ub3, slot_list_append→ub4, entry_min_loop→ucy, plain_list_iadd→udz, plain_proto_collect→ufy, entry_proto_collect→ufz, entry_type_call→ugi, entry_list_iadd→ugj, typeCall_set_1→ugp, entry_set_init→ugq, slot_set_iter→ugw, plain_set_new→ugx
open Option renaming map_eq_some_iff→uba, isSome_iff_exists→ugk
open Option.some renaming inj→ubj
open Array renaming length_toList→ub0, getElem?_eq_getElem→uce, getElem?_toList→ucs, getD_eq_getD_getElem?→uc1, mk→ueu, getElem?_eq_some_iff→ugg, getD→ugv
open PyProof.Rows renaming slot_tuple_getitem→ub7, callWith_type1→udh
open PyProof.Rows.F renaming plain_set_update_loop→udn, entry_set_update_loop→uer
open List.Pairwise renaming map→udx, nil→ue3, imp_of_mem→ufn
open List.Perm renaming append_left→ugn
local macro_rules | `(tactic| ac_rfl) => `(tactic| first | exact (fun _ _ _ _ _ _ us hl => match us, hl with | [_], _ => rfl) | exact (fun _ _ _ _ _ _ us hl => match us, hl with | [_, _], _ => rfl) | exact (fun _ _ _ _ _ _ us hl => match us, hl with | [_, _, _], _ => rfl) | exact (fun _ _ _ _ _ _ us hl => match us, hl with | [_, _, _, _], _ => rfl) | exact (fun _ _ _ _ _ _ us hl => match us, hl with | [_, _, _, _, _], _ => rfl) | exact (fun _ _ _ _ _ _ us hl => match us, hl with | [_, _, _, _, _, _], _ => rfl) | exact (fun _ _ _ _ _ _ us hl => match us, hl with | [_, _, _, _, _, _, _], _ => rfl))
local macro_rules | `(tactic| left) => `(tactic| first | lia | omega)
local macro_rules | `(tactic| symm) => `(tactic| decide +kernel)
local macro_rules | `(tactic| right) => `(tactic| exact ⟨rfl, rfl, rfl, by decide +kernel, rfl, by decide +kernel, by decide +kernel⟩)
namespace L2
open PySem PySem.Spec PyProof.Rows
abbrev Key:=Sum Int Str
def keyIs:Key->Value->Bool
 | .inl k,v=>Value.isInt k v
 | .inr x,v=>Value.isStrOf x v
def keyH (w:World):Key->Int
 | .inl k=>hashInt k
 | .inr x=>hashStr w x
theorem za8:∀ {k:Key}{v:Value},keyIs k v=true->(∃ i t,k=Sum.inl i/\v=Value.int i t)\/(∃ x t,k=Sum.inr x/\v=Value.str x t)
 | .inl i,v,h=>by
  obtain⟨t,e⟩:=Value.isInt_shape (k:=i) (v:=v) h
  exact .inl ⟨i,t,rfl,e⟩
 | .inr x,v,h=>by
  obtain⟨t,e⟩:=Value.isStrOf_shape (x:=x) (v:=v) h
  exact .inr ⟨x,t,rfl,e⟩
theorem zow (i:Int)(t:Tok):keyIs (.inl i) (.int i t)=true:=by simp [keyIs,Value.isInt]
theorem zov (x:Str)(t:Tok):keyIs (.inr x) (.str x t)=true:=by simp [keyIs,Value.isStrOf]
theorem zum (a b:Int):decide ((Sum.inl a:Key)=Sum.inl b)=(a==b):=by
 by_cases e:a=b
 ·subst e;simp
 ·have h:¬ (Sum.inl a:Key)=Sum.inl b:=λ q=>e (Sum.inl.inj q)
  rw[decide_eq_false h]
  exact (beq_eq_false_iff_ne.mpr e).symm
theorem zuj (a b:Str):decide ((Sum.inr a:Key)=Sum.inr b)=decide (a=b):=by
 by_cases e:a=b
 ·subst e;simp
 ·have h:¬ (Sum.inr a:Key)=Sum.inr b:=λ q=>e (Sum.inr.inj q)
  rw[decide_eq_false h,decide_eq_false e]
theorem zul (a:Int)(b:Str):decide ((Sum.inl a:Key)=Sum.inr b)=false:=decide_eq_false (λ q=>nomatch q)
theorem zuk (a:Str)(b:Int):decide ((Sum.inr a:Key)=Sum.inl b)=false:=decide_eq_false (λ q=>nomatch q)
def mixKind (prog:Program)(w:World):PySem.KeyKind prog w Key where
 is:=keyIs
 hash:=keyH w
 inj:=λ v a b ha hb=>by
  rcases za8 ha with ⟨i,t,rfl,rfl⟩ | ⟨x,t,rfl,rfl⟩
  ·rcases za8 hb with ⟨j,u,rfl,e⟩ | ⟨y,u,rfl,e⟩
   ·injection e with e1 _;rw[e1]
   ·exact nomatch e
  ·rcases za8 hb with ⟨j,u,rfl,e⟩ | ⟨y,u,rfl,e⟩
   ·exact nomatch e
   ·injection e with e1 _;rw[e1]
 byValue:=λ k v h=>by
  rcases za8 h with ⟨i,t,rfl,rfl⟩ | ⟨x,t,rfl,rfl⟩ <;> rfl
 pyHash:=λ hv h=>by
  rcases za8 hv with ⟨i,t,rfl,rfl⟩ | ⟨x,t,rfl,rfl⟩
  ·exact wpAny_pyHash_int h
  ·exact wpAny_pyHash_str h
 eqBool:=λ hu hv h=>by
  rcases za8 hu with ⟨i,t,rfl,rfl⟩ | ⟨x,t,rfl,rfl⟩
  ·rcases za8 hv with ⟨j,u,rfl,rfl⟩ | ⟨y,u,rfl,rfl⟩
   ·rw[zum] at h;exact wpAny_eqBool_int h
   ·rw[zul] at h;exact SeqAt.EqAt.int_str i t y u _ _ _ _ h
  ·rcases za8 hv with ⟨j,u,rfl,rfl⟩ | ⟨y,u,rfl,rfl⟩
   ·rw[zuk] at h;exact SeqAt.EqAt.str_int x t j u _ _ _ _ h
   ·rw[zuj] at h;exact wpAny_eqBool_str h
 «strs»:=λ k x t v h=>by
  rcases za8 h with ⟨i,u,rfl,e⟩ | ⟨y,u,rfl,e⟩
  ·exact nomatch e
  ·injection e with e1 _
   subst e1
   cases v <;> rfl
theorem zms (prog:Program)(w:World)(k:Key)(v:Value):(mixKind prog w).is k v=keyIs k v:=rfl
theorem zku (prog:Program)(w:World)(i:Int)(t:Tok):(mixKind prog w).is (.inl i) (.int i t)=true:=zow i t
theorem zkt (prog:Program)(w:World)(x:Str)(t:Tok):(mixKind prog w).is (.inr x) (.str x t)=true:=zov x t
end L2
namespace L2
open PySem PySem.Spec PyProof.Rows
inductive V where
 | non | bl (b:Bool) | int (i:Int) | str (x:Str) | byt (b:Array UInt8) | flt (b:UInt64) | ref (a:Addr) | ty (n:String)
 deriving DecidableEq
def RelV:V->Value->Prop
 | .non,u=>u=Value.none
 | .bl b,u=>u=Value.bool b
 | .int i,u=>∃ t,u=Value.int i t
 | .str x,u=>∃ t,u=Value.str x t
 | .byt b,u=>∃ t,u=Value.bytes b t
 | .flt b,u=>∃ t,u=Value.float b t
 | .ref a,u=>u=Value.ref a
 | .ty n,u=>u=Value.type n
abbrev Vals:List V->List Value->Prop:=Paired RelV
theorem Vals.length {xs:List V}{us:List Value}(r:Vals xs us):xs.length=us.length:=Paired.length r
theorem Vals.get:∀ {xs:List V}{us:List Value}{i:Nat}{x:V},Vals xs us->xs[i]?=some x->∃ u,us[i]?=some u/\RelV x u
 | _,_,_,_,.nil,e=>by simp at e
 | _,_,0,_,.cons r _,e=>by simp at e;subst e;exact⟨_,rfl,r⟩
 | _,_,i+1,x,.cons _ t,e=>by
  obtain⟨u,h1,h2⟩:=Vals.get (i:=i) (x:=x) t (by simpa using e)
  exact⟨u,by simpa using h1,h2⟩
theorem Vals.set {x:V}{u:Value}(r:RelV x u):∀ {xs:List V}{us:List Value}(i:Nat),Vals xs us->Vals (xs.set i x) (us.set i u)
 | _,_,_,.nil=>.nil
 | _,_,0,.cons _ t=>.cons r t
 | _,_,i+1,.cons q t=>.cons q (Vals.set r i t)
theorem Vals.append:∀ {xs ys:List V}{us ws:List Value},Vals xs us->Vals ys ws->Vals (xs++ys) (us++ws)
 | _,_,_,_,.nil,s=>s
 | _,_,_,_,.cons r t,s=>.cons r (Vals.append t s)
theorem Vals.take:∀ {xs:List V}{us:List Value}(n:Nat),Vals xs us->Vals (xs.take n) (us.take n)
 | _,_,0,_=>.nil
 | _,_,_+1,.nil=>.nil
 | _,_,n+1,.cons r t=>.cons r (Vals.take n t)
theorem Vals.drop:∀ {xs:List V}{us:List Value}(n:Nat),Vals xs us->Vals (xs.drop n) (us.drop n)
 | _,_,0,r=>r
 | _,_,_+1,.nil=>.nil
 | _,_,n+1,.cons _ t=>Vals.drop n t
def RelO:Option V->Option Value->Prop
 | some v,some u=>RelV v u
 | none,none=>True
 | _,_=>False
def KV {κ:Type}:List (κ × V)->List (κ × Value)->Prop:=Paired λ (p:κ × V) (q:κ × Value)=>p.1=q.1/\RelV p.2 q.2
def kV:Key->V
 | .inl i=>.int i
 | .inr x=>.str x
inductive HO where
  | lst (xs:List V)
  | tup (xs:List V)
  | dK (kvs:List (Key × V)) | dT (kvs:List (List Key × V))
  | set (S:Int->Bool) (n:Nat)
  | ins (C dx:Addr) (fs:List (Str × V))
  | own (x:Addr)
  | xd (fs:List (Str × V))
  | met (f x:Addr)
  | rng (lo hi:Int)
  | frz (o:Obj) (u:HO)
  | tbl (ps:Array Value)
  | ext (φ:Heap->Prop)
abbrev Hp:=Addr->Option HO
def upd (H:Hp)(a:Addr)(o:HO):Hp:=λ b=>if b=a then some o else H b
theorem zai {H:Hp}{a:Addr}{o:HO}:upd H a o a=some o:=by unfold upd;rw[if_pos rfl]
theorem zan {H:Hp}{a b:Addr}{o:HO}(h:b≠a):upd H a o b=H b:=by unfold upd;rw[if_neg h]
theorem zak {H:Hp}{a b:Addr}{o:HO}(h:H a=some o)(h':H b=none):a≠b:=by
 intro e;subst e;rw[h] at h';cases h'
section
variable (P:Program)(w:World)
def TupN (h:Heap)(a:Addr)(items:Array Value):Prop:=∃ o,h.get? a=some o/\o.cls=.type "tuple"/\(∃ n,o.data=.seq items n)/\o.dict=none
theorem TupN.tup {h:Heap}{a:Addr}{items:Array Value}(x:TupN h a items):IsTup h a items:=let ⟨o,e,c,d,_⟩:=x;⟨o,e,c,d⟩
theorem TupN.new (h:Heap)(items:Array Value):TupN (h.push { cls:=.type "tuple",data:=.seq items }) h.objs.size items:=⟨_,Heap.get?_push_size _ rfl,rfl,⟨_,rfl⟩,rfl⟩
def ObjOk (H:Hp)(h:Heap)(a:Addr):HO->Prop
 | .lst xs=>xs.length<=sizeLine/\∃ (its:List Value)(n:Nat),Vals xs its/\h.get? a=some { cls:=.type "list",data:=.seq its.toArray n }
 | .tup xs=>xs.length<=sizeLine/\∃ its:List Value,Vals xs its/\TupN h a its.toArray
 | .dK kvs=>kvs.length<=sizeLine/\(a==sysModules)=false/\∃ vs,KV kvs vs/\h.DictOf (mixKind P w) a vs
 | .dT kvs => kvs.length <= sizeLine /\ (a==sysModules) = false /\ ∃ xs : List (List Key × Addr × Value),
     Paired (λ (p:List Key × V) (q:List Key × Addr × Value)=>p.1=q.1/\H q.2.1=some (.tup (p.1.map kV))/\RelV p.2 q.2.2) kvs xs /\
     ∃ o es ep,h.get? a=some o/\o.ExactDict/\o.data=.dict es ep/\es.toList=xs.map (entryOfKey (tupleKind (mixKind P w)))/\(xs.map (·.1)).Nodup
 | .set S n=>h.SetOf (intKind P w) a S n
 | .ins C dx fs => H dx = some (.own a) /\ fs.length <= 1000 /\ dx ≠ a /\ h.get? a = some (ufx C dx) /\
     ∃ mA,h.Ns1 dx mA/\(∀ f,RelO (fs.lookup f) (mA f))/\PySem.Within mA (fs.map (·.1))
 | .own _=>∃ o,h.get? a=some o
 | .xd fs=>∃ mA,h.Ns1 a mA/\∀ f,RelO (fs.lookup f) (mA f)
 | .rng lo hi=>∃ t u v,h.get? a=some { cls:=.type "range",data:=.fields #[.int lo t,.int hi u,.int 1 v] }
 | .frz o u=>h.get? a=some o/\ObjOk H h a u
 | .tbl ps=>h.get? a=some { cls:=.none,data:=.fields ps }
 | .met f x=>h.get? a=some (ufi (.ref f) (.ref x))
 | .ext φ=>φ h/\(∃ o,h.get? a=some o)/\∀ h1 h2:Heap,φ h1->(∀ o,h1.get? a=some o->h2.get? a=some o)->φ h2
def HOk (H:Hp)(h:Heap):Prop:=∀ a o,H a=some o->ObjOk P w H h a o
end
section
variable {P:Program}{w:World}{H H':Hp}{h h':Heap}{a:Addr}{o:HO}
theorem ObjOk.lt (x:ObjOk P w H h a o):a<h.objs.size:=by
 cases o with
 | lst xs=>obtain⟨_,_,_,_,e⟩:=x;exact Heap.lt_size e
 | tup xs=>obtain⟨_,_,_,p⟩:=x;exact p.tup.lt
 | dK kvs=>obtain⟨_,_,_,_,o,_,_,e,_⟩:=x;exact Heap.lt_size e
 | dT kvs=>obtain⟨_,_,_,_,o,_,_,e,_⟩:=x;exact Heap.lt_size e
 | set S n=>obtain⟨o,_,_,_,e,_⟩:=x;exact Heap.lt_size e
 | ins C dx fs=>obtain⟨_,_,_,e,_⟩:=x;exact Heap.lt_size e
 | own y=>obtain⟨_,e⟩:=x;exact Heap.lt_size e
 | xd fs=>obtain⟨_,⟨_,_,_,e,_⟩,_⟩:=x;exact Heap.lt_size e
 | rng lo hi=>obtain⟨_,_,_,e⟩:=x;exact Heap.lt_size e
 | frz ob u=>obtain⟨e,_⟩:=x;exact Heap.lt_size e
 | tbl ps=>exact Heap.lt_size (show h.get? a=some _ from x)
 | met f y=>exact Heap.lt_size (show h.get? a=some _ from x)
 | ext φ=>obtain⟨_,⟨_,e⟩,_⟩:=x;exact Heap.lt_size e
theorem Paired.mapP {α β:Type}{F G:α->β->Prop}:∀ {l₁:List α}{l₂:List β},Paired F l₁ l₂->(∀ a b,F a b->G a b)->Paired G l₁ l₂
 | _,_,.nil,_=>.nil
 | _,_,.cons r t,f=>.cons (f _ _ r) (Paired.mapP t f)
theorem ObjOk.stay (x:ObjOk P w H h a o)(k:∀ b u,(b=a\/H b=some (.own a))->h.get? b=some u->h'.get? b=some u)
  (ho:∀ b,H b=some (.own a)->H' b=some (.own a)) (ht:∀ b xs,H b=some (.tup xs)->H' b=some (.tup xs)):ObjOk P w H' h' a o:=by
 induction o with
 | lst xs=>obtain⟨z,its,n,r,e⟩:=x;exact⟨z,its,n,r,k _ _ (.inl rfl) e⟩
 | tup xs=>obtain⟨z,its,r,ob,e,c⟩:=x;exact⟨z,its,r,ob,k _ _ (.inl rfl) e,c⟩
 | dK kvs=>obtain⟨z,y,vs,r,ob,es,ep,e,c⟩:=x;exact⟨z,y,vs,r,ob,es,ep,k _ _ (.inl rfl) e,c⟩
 | dT kvs =>
  obtain⟨z,y,xs,r,ob,es,ep,e,c⟩:=x
  exact⟨z,y,xs,Paired.mapP r λ p q z=>⟨z.1,ht _ _ z.2.1,z.2.2⟩,ob,es,ep,k _ _ (.inl rfl) e,c⟩
 | set S n=>obtain⟨ob,es,ep,t,e,c⟩:=x;exact⟨ob,es,ep,t,k _ _ (.inl rfl) e,c⟩
 | ins C dx fs =>
  obtain⟨d,z,ne,e,mA,⟨od,es,ep,e2,c⟩,r⟩:=x
  exact⟨ho _ d,z,ne,k _ _ (.inl rfl) e,mA,⟨od,es,ep,k _ _ (.inr d) e2,c⟩,r⟩
 | own y=>obtain⟨ob,e⟩:=x;exact⟨ob,k _ _ (.inl rfl) e⟩
 | xd fs=>obtain⟨mA,⟨od,es,ep,e,c⟩,r⟩:=x;exact⟨mA,⟨od,es,ep,k _ _ (.inl rfl) e,c⟩,r⟩
 | rng lo hi=>obtain⟨t,u,v,e⟩:=x;exact⟨t,u,v,k _ _ (.inl rfl) e⟩
 | frz ob u ih=>obtain⟨e,q⟩:=x;exact⟨k _ _ (.inl rfl) e,ih q⟩
 | tbl ps =>
  have e:h.get? a=some { cls:=.none,data:=.fields ps }:=x
  show h'.get? a=some { cls:=.none,data:=.fields ps }
  exact k a _ (.inl rfl) e
 | met f y =>
  have e:h.get? a=some (ufi (.ref f) (.ref y)):=x
  show h'.get? a=some (ufi (.ref f) (.ref y))
  exact k a _ (.inl rfl) e
 | ext φ=>obtain⟨p,⟨o,e⟩,st⟩:=x;exact⟨st _ _ p λ o q=>k _ _ (.inl rfl) q,⟨o,k _ _ (.inl rfl) e⟩,st⟩
theorem HOk.lt (x:HOk P w H h)(e:H a=some o):a<h.objs.size:=(x a o e).lt
theorem HOk.fresh (x:HOk P w H h)(e:h.objs.size<=a):H a=none:=by
 cases q:H a with
 | none=>rfl
 | some u=>exact absurd (ua4 (x.lt q) e) (ubs _)
theorem HOk.kept (x:HOk P w H h)(k:∀ b u,h.get? b=some u->h'.get? b=some u):HOk P w H h':=λ a o e =>
 (x a o e).stay (λ b u _ q=>k b u q) (λ _ q=>q) λ _ _ q=>q
theorem HOk.laid (x:HOk P w H h)(k:∀ b u,h.get? b=some u->h'.get? b=some u)(hp:h.objs.size<=a)(new:ObjOk P w (upd H a o) h' a o):HOk P w (upd H a o) h':=λ b u e=>by
 have hn:=x.fresh hp
 by_cases hb:b=a
 ·subst hb;rw[zai] at e;cases e;exact new
 ·rw[zan hb] at e
  exact (x b u e).stay (λ c v _ q=>k c v q) (λ c q=>by rw[zan (zak q hn)];exact q) λ c xs q=>by rw[zan (zak q hn)];exact q
end
def Rd (H:Hp)(a:Addr)(u:HO):Prop:=H a=some u\/∃ o,H a=some (.frz o u)
theorem Rd.ok {P:Program}{w:World}{H:Hp}{h:Heap}{a:Addr}{u:HO}(r:Rd H a u)(x:HOk P w H h):ObjOk P w H h a u:=by
 rcases r with r | ⟨o,r⟩
 ·exact x a u r
 ·obtain⟨_,q⟩:=x a _ r
  exact q
def Mut:Option HO->Prop
 | some (.lst _)=>True
 | some (.dK _)=>True
 | some (.dT _)=>True
 | some (.set _ _)=>True
 | some (.ins _ _ _)=>True
 | some (.ext _)=>True
 | _=>False
section
variable {P:Program}{w:World}{H:Hp}{h h':Heap}{x e:Addr}{o':HO}
theorem HOk.write (ok:HOk P w H h)(mu:Mut (H x))(he:e=x\/H e=some (.own x))(k:∀ b u,b≠e->h.get? b=some u->h'.get? b=some u)(heo:∃ u,h'.get? e=some u)
  (new:ObjOk P w (upd H x o') h' x o'):HOk P w (upd H x o') h':=λ b u q=>by
 have nown:∀ c y,H c=some (.own y)->c≠x:=λ c y r z=>by subst z;rw[r] at mu;exact mu
 have ntup:∀ c xs,H c=some (.tup xs)->c≠x:=λ c xs r z=>by subst z;rw[r] at mu;exact mu
 by_cases hb:b=x
 ·subst hb;rw[zai] at q;cases q;exact new
 ·rw[zan hb] at q
  by_cases hbe:b=e
  ·have q':H b=some (.own x):=by
    rcases he with z | z
    ·exact absurd (hbe.trans z) hb
    ·rw[hbe];exact z
   rw[q] at q';cases q'
   obtain⟨v,hv⟩:=heo
   exact⟨v,by rw[hbe];exact hv⟩
  ·refine (ok b u q).stay (λ c v hc r=>k c v ?_ r) (λ c r=>by rw[zan (nown c b r)];exact r) λ c xs r=>by rw[zan (ntup c xs r)];exact r
   rcases hc with rfl | hc
   ·exact hbe
   ·rintro rfl
    rcases he with z | z
    ·exact nown c b hc z
    ·rw[hc] at z;cases z;exact hb rfl
end
structure Un (fs ex:List Addr)(H H':Hp)(h h':Heap):Prop where
 keep:∀ b o,h.get? b=some o->H b=none->b∉fs->b∉ex->h'.get? b=some o
 slot:∀ b o,h.get? b=some o->H b=none->b∈fs->b∉ex->∃ sl,h'.get? b=some { o with slots:=sl }
 free:∀ b o,h.get? b=some o->H b=none->b∉ex->H' b=none
 there:∀ b o,h.get? b=some o->b∉ex->∃ o',h'.get? b=some o'
 tups:∀ b xs,H b=some (.tup xs)->H' b=some (.tup xs)
 frzs:∀ b o u,H b=some (.frz o u)->H' b=some (.frz o u)
 tbls:∀ b ps,H b=some (.tbl ps)->∃ more,H' b=some (.tbl (ps++more))
section
variable {fs fs' ex ex':List Addr}{H H1 H2:Hp}{h h1 h2 h':Heap}{a x e:Addr}{o:HO}
theorem Un.any (u:Un fs ex H H1 h h1){b:Addr}{ob:Obj}(q:h.get? b=some ob)(n:H b=none)(hx:b∉ex):∃ sl,h1.get? b=some { ob with slots:=sl }:=by
 by_cases hb:b∈fs
 ·exact u.slot b ob q n hb hx
 ·exact⟨ob.slots,u.keep b ob q n hb hx⟩
theorem Un.trans (a:Un fs ex H H1 h h1)(b:Un fs ex H1 H2 h1 h2):Un fs ex H H2 h h2 where
 keep:=λ c ob q n hc hx=>b.keep c ob (a.keep c ob q n hc hx) (a.free c ob q n hx) hc hx
 slot:=λ c ob q n hc hx=>by
  obtain⟨sl,e1⟩:=a.slot c ob q n hc hx
  obtain⟨sl',e2⟩:=b.slot c _ e1 (a.free c ob q n hx) hc hx
  exact⟨sl',e2⟩
 free:=λ c ob q n hx=>by
  obtain⟨o',e1⟩:=a.there c ob q hx
  exact b.free c o' e1 (a.free c ob q n hx) hx
 there:=λ c ob q hx=>by
  obtain⟨o',e1⟩:=a.there c ob q hx
  exact b.there c o' e1 hx
 tups:=λ c xs q=>b.tups c xs (a.tups c xs q)
 frzs:=λ c ob xs q=>b.frzs c ob xs (a.frzs c ob xs q)
 tbls:=λ c ps q=>by
  obtain⟨m1,e1⟩:=a.tbls c ps q
  obtain⟨m2,e2⟩:=b.tbls c _ e1
  exact⟨m1++m2,by rw[e2,Array.append_assoc]⟩
theorem Un.kept (k:∀ b u,h.get? b=some u->h'.get? b=some u):Un fs ex H H h h' :=
 ⟨λ b ob q _ _ _=>k b ob q,λ b ob q _ _ _=>⟨ob.slots,k b ob q⟩,λ _ _ _ n _=>n,λ b ob q _=>⟨ob,k b ob q⟩,λ _ _ q=>q,λ _ _ _ q=>q,λ _ ps q=>⟨#[],by rw[q];simp⟩⟩
theorem Un.refl:Un fs ex H H h h:=Un.kept λ _ _ q=>q
theorem Un.laid (k:∀ b u,h.get? b=some u->h'.get? b=some u)(hp:h.objs.size<=a)(hn:H a=none):Un fs ex H (upd H a o) h h' where
 keep:=λ b u q _ _ _=>k b u q
 slot:=λ b u q _ _ _=>⟨u.slots,k b u q⟩
 free:=λ b u q n _=>by rw[zan (uas (ua4 (Heap.lt_size q) hp))];exact n
 there:=λ b u q _=>⟨u,k b u q⟩
 tups:=λ b xs q=>by rw[zan (zak q hn)];exact q
 frzs:=λ b u xs q=>by rw[zan (zak q hn)];exact q
 tbls:=λ b ps q=>⟨#[],by rw[zan (zak q hn),q];simp⟩
theorem Un.write (mu:Mut (H x))(he:e=x\/H e=some (.own x))(k:∀ b u,b≠e->h.get? b=some u->h'.get? b=some u)(heo:∃ u,h'.get? e=some u):Un fs ex H (upd H x o) h h':=by
 have hx:∀ b,H b=none->b≠x:=λ b n z=>by subst z;rw[n] at mu;exact mu
 have hb:∀ b,H b=none->b≠e:=λ b n z=>by
  subst z
  rcases he with r | r
  ·exact hx b n r
  ·rw[n] at r;cases r
 have hm:∀ b u,H b=some u->¬ Mut (some u)->b≠x:=λ b u q nm z=>by subst z;rw[q] at mu;exact nm mu
 refine⟨λ b u q n _ _=>k b u (hb b n) q,λ b u q n _ _=>⟨u.slots,k b u (hb b n) q⟩,λ b u q n _=>by rw[zan (hx b n)];exact n,λ b u q _=>?_,
  λ b xs q=>by rw[zan (hm b _ q λ z=>z)];exact q,λ b u xs q=>by rw[zan (hm b _ q λ z=>z)];exact q,λ b ps q=>⟨#[],by rw[zan (hm b _ q λ z=>z),q];simp⟩⟩
 by_cases hbe:b=e
 ·subst hbe;exact heo
 ·exact⟨u,k b u hbe q⟩
end
def trk (h:Heap)(H:Hp):List Addr:=(uaf h.objs.size).filter λ a=>(H a).isSome
def hidT (h:Heap)(H:Hp):Heap:=PySem.W.hideAll h (trk h H)
theorem zo5 (h:Heap)(H:Hp):(hidT h H).objs.size=h.objs.size:=PySem.W.hideAll_size _ _
theorem zrh {h:Heap}{H:Hp}{b:Addr}{o:Obj}(e:h.get? b=some o)(n:H b=none):(hidT h H).get? b=some o :=
 PySem.W.hideAll_get _ e λ hm=>by
  have q:(H b).isSome=true:=(ubl.mp hm).2
  rw[n] at q;simp at q
theorem ztb {h:Heap}{H:Hp}{b:Addr}{o:Obj}(e:(hidT h H).get? b=some o):h.get? b=some o/\H b=none:=by
 have e':h.get? b=some o:=PySem.W.of_hideAll (trk h H) e
 refine⟨e',?_⟩
 cases q:H b with
 | none=>rfl
 | some x =>
  have hm:b∈trk h H:=ubl.mpr ⟨uaq.mpr (Heap.lt_size e'),by simp [q]⟩
  have z:(hidT h H).get? b=none:=PySem.W.hideAll_none (trk h H) hm
  rw[z] at e;cases e
def allNews (g h:Heap)(L:Addr):List (Addr × Obj):=(uaf h.objs.size).filterMap λ a=>if a=L\/(g.get? a).isSome=true then none else (h.get? a).map λ o=>(a,o)
def rest (g h:Heap)(L d:Addr):List (Addr × Obj):=(allNews g h L).filter λ p=>decide (p.1≠d)
end L2
namespace L2
open PySem PySem.Spec PyProof.Rows
structure Mod (K:uac)(mg:Str->Option Value)(base:Heap):Prop where
 kin:K.In base
 glob:base.Ns mainGlobals mg
 blt:∃ mb,base.Ns builtinsNs mb/\∀ x:Str,x≠"__name__"->mb x=bootBuiltins x
 nolimit:base.NoLimit
structure Cx where
 prog:Program
 w:World
 K:uac
 mg:Str->Option Value
 base:Heap
 A:Around
 N:List Str
 s₀:Shared
 H₀:Hp
 env:Env
 outer:List Env
 stack:List Env
 ex:List Addr
 fn:Str->Bool
 calm:Bool
 pn:List (Addr × Obj)
 xe:Value->Shared->Prop
def frs (l:List Env):List Addr:=l.filterMap (·.frame)
abbrev Cx.fs (X:Cx):List Addr:=frs X.outer
def Vis (sc:Scope)(x:Str):Prop:=sc.names.lookup x=some .local\/sc.names.lookup x=some .cell\/sc.names.lookup x=some .free
def Loc (sc:Scope)(x:Str):Prop:=sc.names.lookup x=some .local\/sc.names.lookup x=some .cell
def Look (env:Env)(h:Heap)(m:Str->Option Value)(x:Str)(u:Value):Prop :=
 (env.kindOf x=some .local/\m x=some u)\/((env.kindOf x=some .cell\/env.kindOf x=some .free)/\∃ c,env.cells.lookup x=some c/\h.IsCell c (some u))
structure Cx.Ok (X:Cx):Prop where
 mod:Mod X.K X.mg X.base
 kind:X.env.scope.kind=.function
 glob:X.env.globals=mainGlobals
 blt:X.env.builtins=builtinsNs
 above:X.s₀.heap.objs.size<=X.env.locals
 inj:∀ x y c,X.env.cells.lookup x=some c->X.env.cells.lookup y=some c->x=y
 has:∀ x,(X.env.kindOf x=some .cell\/X.env.kindOf x=some .free)->∃ c,X.env.cells.lookup x=some c
 cab:∀ x c,X.fn x=true->X.env.cells.lookup x=some c->X.s₀.heap.objs.size<=c
 hd:X.calm=true->X.A.handled=none
 frames:X.A.frames=some X.stack
 stk:X.stack=X.outer\/(X.stack=X.env::X.outer/\X.env.frame=some X.env.locals)
 exf:∀ b∈X.ex,b≠X.env.locals/\∀ x c,X.env.cells.lookup x=some c->c≠b
 bs:∀ b o,X.base.get? b=some o->X.s₀.heap.get? b=some o/\X.H₀ b=none
 bsz:X.base.objs.size<=X.s₀.heap.objs.size
 noex:∀ b o,X.base.get? b=some o->b∉X.ex
 exfs:∀ b∈X.ex,b∉X.fs
 funs:X.s₀.heap.FunFrames X.base X.outer
 frf:∀ b∈X.fs,X.H₀ b=none
structure Inv (X:Cx)(pins:List (Addr × Obj))(σ:List (Option V))(H:Hp)(s:Shared):Prop where
 ok:X.Ok
 os:s.os=X.s₀.os
 bare:AllBare s.gens
 base:Un X.fs X.ex X.H₀ H X.s₀.heap s.heap
 loc:∃ m,s.heap.Ns X.env.locals m/\∀ (i:Nat)(x:Str)(v:V),X.N[i]?=some x->σ[i]?=some (some v)->Vis X.env.scope x->∃ u,RelV v u/\Look X.env s.heap m x u
 cell:∀ x c,X.env.cells.lookup x=some c->∃ v,s.heap.IsCell c v
 free:H X.env.locals=none
 freeC:∀ x c,X.env.cells.lookup x=some c->H c=none
 pin:∀ p∈X.pn++pins,s.heap.get? p.1=some p.2/\H p.1=none/\p.1≠X.env.locals/\p.1∉X.fs/\∀ v,p.2.data≠.cell v
 hok:HOk X.prog X.w H s.heap
 len:σ.length=X.N.length
section
variable {X:Cx}{pins:List (Addr × Obj)}{σ:List (Option V)}{H H':Hp}{s:Shared}{h':Heap}
theorem Cx.Ok.nofr (ok:X.Ok){b:Addr}{o:Obj}(e:X.base.get? b=some o):b∉X.fs:=λ hb=>by
 have:=(ok.funs.mem hb).1
 rw[e] at this;cases this
theorem Inv.bs (I:Inv X pins σ H s):∀ b o,X.base.get? b=some o->s.heap.get? b=some o/\H b=none:=λ b o e =>
 ⟨I.base.keep b o (I.ok.bs b o e).1 (I.ok.bs b o e).2 (I.ok.nofr e) (I.ok.noex b o e),I.base.free b o (I.ok.bs b o e).1 (I.ok.bs b o e).2 (I.ok.noex b o e)⟩
theorem Inv.bk (I:Inv X pins σ H s):∀ b o,X.base.get? b=some o->s.heap.get? b=some o:=λ b o e=>(I.bs b o e).1
theorem Inv.mod (I:Inv X pins σ H s):Mod X.K X.mg X.base:=I.ok.mod
theorem Inv.kIn (I:Inv X pins σ H s):X.K.In s.heap:=I.ok.mod.kin.keeps I.bk
theorem Inv.lt (I:Inv X pins σ H s):X.env.locals<s.heap.objs.size:=let ⟨_,hn,_⟩:=I.loc;hn.lt
theorem Inv.sz (I:Inv X pins σ H s):X.s₀.heap.objs.size<=s.heap.objs.size:=ubt I.ok.above (ue9 I.lt)
theorem Inv.nofs (I:Inv X pins σ H s){a:Addr}(h:s.heap.objs.size<=a):a∉X.fs:=λ hb=>by
 obtain⟨_,o,ho,_⟩:=I.ok.funs.mem hb
 exact absurd (ua4 (Heap.lt_size ho) (ubt I.sz h)) (ubs _)
theorem Inv.cne (I:Inv X pins σ H s):∀ x c,X.env.cells.lookup x=some c->c≠X.env.locals:=λ x c e z=>by
 obtain⟨v,o,ho,hd⟩:=I.cell x c e
 obtain⟨m,⟨o',es,ep,ho',hd',_⟩,_⟩:=I.loc
 rw[z,ho'] at ho;cases ho;rw[hd'] at hd;cases hd
theorem Inv.funs (I:Inv X pins σ H s):s.heap.FunFrames X.base X.outer:=by
 have all:∀ (l:List Env),(∀ b∈frs l,b∈X.fs)->X.s₀.heap.FunFrames X.base l->s.heap.FunFrames X.base l:=by
  intro l
  induction l with
  | nil=>intro _ _;trivial
  | cons env r ih =>
   intro hs hl
   obtain⟨hk,⟨L,o,hf,hn,ho,hd⟩,hr⟩:=hl
   have hL:L∈X.fs:=hs L (by unfold frs;rw[uca,hf];exact ual)
   obtain⟨sl,e⟩:=I.base.slot L o ho (I.ok.frf L hL) hL λ z=>I.ok.exfs L z hL
   exact⟨hk,⟨L,_,hf,hn,e,hd⟩,ih (λ b hb=>hs b (by unfold frs;rw[uca,hf];exact uan _ hb)) hr⟩
 exact all X.outer (λ _ hb=>hb) I.ok.funs
theorem Inv.stack (I:Inv X pins σ H s):s.heap.FunFrames X.base X.stack:=by
 rcases I.ok.stk with e | ⟨e,hf⟩
 ·rw[e];exact I.funs
 ·rw[e]
  obtain⟨m,hn,_⟩:=I.loc
  refine .cons (by rw[I.ok.kind];decide) hf hn ?_ I.funs
  exact Heap.get?_none_of_le (ubt I.ok.bsz I.ok.above)
theorem Inv.stkSub (I:Inv X pins σ H s):∀ b∈frs X.stack,b∈X.env.locals::X.fs:=λ b hb=>by
 rcases I.ok.stk with e | ⟨e,hf⟩
 ·rw[e] at hb;exact uan _ hb
 ·rw[e] at hb
  unfold frs at hb
  rw[uca,hf] at hb
  exact hb
theorem Inv.stkFree (I:Inv X pins σ H s):∀ b∈frs X.stack,H b=none:=λ b hb=>by
 rcases uam.mp (I.stkSub b hb) with e | hb
 ·rw[e];exact I.free
 ·obtain⟨_,o,ho,_⟩:=I.ok.funs.mem hb
  exact I.base.free b o ho (I.ok.frf b hb) λ z=>I.ok.exfs b z hb
theorem Inv.step {g':Array GenState}{t':Nat}{d':Drawn}{ch:List Addr}(I:Inv X pins σ H s)
  (hch:∀ b∈ch,(b∈X.ex\/X.s₀.heap.objs.size<=b)/\b≠X.env.locals/\(∀ x c,X.env.cells.lookup x=some c->c≠b)/\∀ p∈X.pn++pins,p.1≠b)
  (keep:∀ b o,b≠X.env.locals->b∉X.fs->b∉ch->s.heap.get? b=some o->H b=none->h'.get? b=some o)
  (slot:∀ b o,b≠X.env.locals->b∈X.fs->b∉ch->s.heap.get? b=some o->H b=none->∃ sl,h'.get? b=some { o with slots:=sl }) (free:∀ b o,b∉ch->s.heap.get? b=some o->H b=none->H' b=none)
  (there:∀ b o,b∉ch->s.heap.get? b=some o->∃ o',h'.get? b=some o')
  (tups:∀ b xs,H b=some (.tup xs)->H' b=some (.tup xs)) (frzs:∀ b o u,H b=some (.frz o u)->H' b=some (.frz o u)) (tbls:∀ b ps,H b=some (.tbl ps)->∃ more,H' b=some (.tbl (ps++more)))
  (ns:∀ m,s.heap.Ns X.env.locals m->h'.Ns X.env.locals m) (hok:HOk X.prog X.w H' h') (hg:AllBare g') :
  Inv X pins σ H' { s with heap:=h',gens:=g',drawn:=d',toks:=t' }:=by
 have neL:∀ b o,X.s₀.heap.get? b=some o->b≠X.env.locals:=λ b o e=>uas (ua4 (Heap.lt_size e) I.ok.above)
 have neC:∀ b o,X.s₀.heap.get? b=some o->b∉X.ex->b∉ch:=λ b o e hx hb=>by
  rcases (hch b hb).1 with z | z
  ·exact hx z
  ·exact absurd (ua4 (Heap.lt_size e) z) (ubs _)
 have cellK:∀ x c,X.env.cells.lookup x=some c->∀ v,s.heap.IsCell c v->h'.IsCell c v:=λ x c e v ⟨o,ho,hd⟩=>by
  have nch:c∉ch:=λ z=>(hch c z).2.2.1 x c e rfl
  by_cases hc:c∈X.fs
  ·obtain⟨sl,q⟩:=slot c o (I.cne x c e) hc nch ho (I.freeC x c e)
   exact⟨_,q,hd⟩
  ·exact⟨o,keep c o (I.cne x c e) hc nch ho (I.freeC x c e),hd⟩
 refine⟨I.ok,I.os,hg,⟨λ b o e n hb hx=>?_,λ b o e n hb hx=>?_,λ b o e n hx=>?_,λ b o e hx=>?_,λ b xs e=>tups b xs (I.base.tups b xs e),λ b o xs e=>frzs b o xs (I.base.frzs b o xs e),λ b ps e=>?_⟩,?_,λ x c e=>?_,?_,λ x c e=>?_,λ p hp=>?_,hok,I.len⟩
 ·exact keep b o (neL b o e) hb (neC b o e hx) (I.base.keep b o e n hb hx) (I.base.free b o e n hx)
 ·obtain⟨sl,e1⟩:=I.base.slot b o e n hb hx
  obtain⟨sl',e2⟩:=slot b _ (neL b o e) hb (neC b o e hx) e1 (I.base.free b o e n hx)
  exact⟨sl',e2⟩
 ·obtain⟨o',e1⟩:=I.base.there b o e hx
  exact free b o' (neC b o e hx) e1 (I.base.free b o e n hx)
 ·obtain⟨o',e1⟩:=I.base.there b o e hx
  exact there b o' (neC b o e hx) e1
 ·obtain⟨m1,e1⟩:=I.base.tbls b ps e
  obtain⟨m2,e2⟩:=tbls b _ e1
  exact⟨m1++m2,by rw[e2,Array.append_assoc]⟩
 ·obtain⟨m,hn,hl⟩:=I.loc
  refine⟨m,ns m hn,λ i x v e1 e2 e3=>?_⟩
  obtain⟨u,r,l⟩:=hl i x v e1 e2 e3
  refine⟨u,r,?_⟩
  rcases l with l | ⟨k,c,e,z⟩
  ·exact .inl l
  ·exact .inr ⟨k,c,e,cellK x c e _ z⟩
 ·obtain⟨v,z⟩:=I.cell x c e
  exact⟨v,cellK x c e v z⟩
 ·obtain⟨m,⟨o,_,_,ho,_⟩,_⟩:=I.loc
  exact free _ o (λ z=>(hch _ z).2.1 rfl) ho I.free
 ·obtain⟨v,o,ho,hd⟩:=I.cell x c e
  exact free c o (λ z=>(hch c z).2.2.1 x c e rfl) ho (I.freeC x c e)
 ·obtain⟨e,n,ne,nf,d⟩:=I.pin p hp
  have nch:p.1∉ch:=λ z=>(hch p.1 z).2.2.2 p hp rfl
  exact⟨keep p.1 p.2 ne nf nch e n,free p.1 p.2 nch e n,ne,nf,d⟩
theorem Inv.un {t':Nat}(I:Inv X pins σ H s)(u:Un X.fs [] H H' s.heap h')(hok:HOk X.prog X.w H' h'):Inv X pins σ H' { s with heap:=h',toks:=t' }:=by
 obtain⟨m,⟨o,es,ep,ho,r⟩,_⟩:=id I.loc
 obtain⟨sl,hL⟩:=u.any ho I.free (by simp)
 exact I.step (g':=s.gens) (d':=s.drawn) (ch:=[]) (λ _ z=>nomatch z) (λ b o _ hb _ e n=>u.keep b o e n hb (by simp)) (λ b o _ hb _ e n=>u.slot b o e n hb (by simp)) (λ b o _ e n=>u.free b o e n (by simp)) (λ b o _ e=>u.there b o e (by simp)) u.tups u.frzs u.tbls (λ m' hm=>by
  obtain⟨o',es',ep',ho',r'⟩:=hm
  rw[ho] at ho';cases ho'
  exact⟨_,es',ep',hL,r'⟩) hok I.bare
theorem Inv.call {g':Array GenState}{t':Nat}{d':Drawn}{ch:List Addr}(I:Inv X pins σ H s)(u:Un (frs X.stack) ch H H' s.heap h')(hok:HOk X.prog X.w H' h')(hg:AllBare g')
  (hch:∀ b∈ch,(b∈X.ex\/X.s₀.heap.objs.size<=b)/\b≠X.env.locals/\(∀ x c,X.env.cells.lookup x=some c->c≠b)/\∀ p∈X.pn++pins,p.1≠b) :
  Inv X pins σ H' { s with heap:=h',gens:=g',drawn:=d',toks:=t' }:=by
 obtain⟨m,⟨o,es,ep,ho,r⟩,_⟩:=id I.loc
 obtain⟨sl,hL⟩:=u.any ho I.free λ z=>(hch _ z).2.1 rfl
 exact I.step (ch:=ch) hch (λ b o hL hb hc e n=>u.keep b o e n (λ z=>(uam.mp (I.stkSub b z)).elim hL hb) hc) (λ b o _ _ hc e n=>u.any e n hc) (λ b o hc e n=>u.free b o e n hc) (λ b o hc e=>u.there b o e hc) u.tups u.frzs u.tbls (λ m' hm=>by
  obtain⟨o',es',ep',ho',r'⟩:=hm
  rw[ho] at ho';cases ho'
  exact⟨_,es',ep',hL,r'⟩) hok hg
theorem Inv.turned {t':Nat}{it:Addr}(I:Inv X pins σ H s)(k:∀ b o,b≠it->s.heap.get? b=some o->h'.get? b=some o)(hn:H it=none)(hL:it≠X.env.locals)
  (h1:it∈X.ex\/X.s₀.heap.objs.size<=it) (h2:∀ x c,X.env.cells.lookup x=some c->c≠it) (h3:∀ p∈X.pn++pins,p.1≠it):Inv X pins σ H { s with heap:=h',toks:=t' }:=by
 have nit:∀ b u,H b=some u->b≠it:=λ b u e z=>by rw[z,hn] at e;cases e
 refine I.step (g':=s.gens) (d':=s.drawn) (ch:=[it]) (λ b hb=>?_) (λ b o _ _ hc e _=>k b o (λ z=>hc (by simp [z])) e) (λ b o _ _ hc e _=>⟨o.slots,k b o (λ z=>hc (by simp [z])) e⟩) (λ _ _ _ _ n=>n)
  (λ b o hc e=>⟨o,k b o (λ z=>hc (by simp [z])) e⟩) (λ _ _ e=>e) (λ _ _ _ e=>e) (λ b ps e=>⟨#[],by rw[e];simp⟩) (λ m hm=>?_) (λ b u e=>?_) I.bare
 ·have e:b=it:=by simpa using hb
  subst e
  exact⟨h1,hL,h2,h3⟩
 ·obtain⟨o,es,ep,ho,r⟩:=hm
  exact⟨o,es,ep,k _ o (Ne.symm hL) ho,r⟩
 ·refine (I.hok b u e).stay (λ c v hc q=>k c v ?_ q) (λ _ q=>q) λ _ _ q=>q
  rcases hc with z | z
  ·rw[z];exact nit b u e
  ·exact nit c _ z
theorem Inv.tok (I:Inv X pins σ H s)(t:Nat):Inv X pins σ H { s with toks:=t }:=I.un (h':=s.heap) (t':=t) Un.refl I.hok
theorem Inv.kept {t':Nat}(I:Inv X pins σ H s)(k:∀ b u,s.heap.get? b=some u->h'.get? b=some u):Inv X pins σ H { s with heap:=h',toks:=t' }:=I.un (Un.kept k) (I.hok.kept k)
theorem Inv.laid {a:Addr}{o:HO}{t':Nat}(I:Inv X pins σ H s)(k:∀ b u,s.heap.get? b=some u->h'.get? b=some u)(hp:s.heap.objs.size<=a)(new:ObjOk X.prog X.w (upd H a o) h' a o) :
  Inv X pins σ (upd H a o) { s with heap:=h',toks:=t' }:=I.un (Un.laid k hp (I.hok.fresh hp)) (I.hok.laid k hp new)
theorem Inv.write {x e:Addr}{o:HO}{t':Nat}(I:Inv X pins σ H s)(mu:Mut (H x))(he:e=x\/H e=some (.own x))(k:∀ b u,b≠e->s.heap.get? b=some u->h'.get? b=some u)(heo:∃ u,h'.get? e=some u)
  (new:ObjOk X.prog X.w (upd H x o) h' x o):Inv X pins σ (upd H x o) { s with heap:=h',toks:=t' }:=I.un (Un.write mu he k heo) (I.hok.write mu he k heo new)
theorem Inv.pins_of {pins':List (Addr × Obj)}(I:Inv X pins σ H s)(h:∀ p∈pins',s.heap.get? p.1=some p.2/\H p.1=none/\p.1≠X.env.locals/\p.1∉X.fs/\∀ v,p.2.data≠.cell v):Inv X pins' σ H s :=
 ⟨I.ok,I.os,I.bare,I.base,I.loc,I.cell,I.free,I.freeC,λ p hp=>(ubp.mp hp).elim (λ z=>I.pin p (ucn _ z)) (h p),I.hok,I.len⟩
theorem zlv {N:List Str}(hN:N.Nodup){i j:Nat}{x:Str}(a:N[i]?=some x)(b:N[j]?=some x):i=j:=by
 obtain⟨h1,e1⟩:=uak.mp a
 obtain⟨h2,e2⟩:=uak.mp b
 exact (List.getElem_inj hN).mp (e1.trans e2.symm)
theorem zir {M:Model}{A:Around}{E:Value->Shared->Prop}{i:Nat}{x:Str}{v:V}{u:Value}{Q:Unit->Shared->Prop}(I:Inv X pins σ H s)(hN:X.N.Nodup)(hi:X.N[i]?=some x)(hx:Loc X.env.scope x)(r:RelV v u)
  (h:∀ s',Inv X pins (σ.set i (some v)) H s'->(∃ a,Heap.SameBut a s.heap s'.heap/\(a=X.env.locals\/X.env.cells.lookup x=some a))->Q () s') (hf:X.fn x=true\/X.env.scope.names.lookup x=some .local:=by first | exact .inl rfl | exact .inr rfl | assumption):wpAny M A (storeName X.env x u) Q E s:=by
 obtain⟨m,hn,hl⟩:=id I.loc
 have hcls:(X.env.scope.kind==.class||(X.env.scope.kind==.module&&X.env.locals != X.env.globals))=false:=by rw[I.ok.kind];rfl
 have hiσ:i<σ.length:=by rw[I.len];exact (uak.mp hi).1
 have cne:=I.cne
 have tracked:∀ {a:Addr}{h':Heap},(∃ o,s.heap.get? a=some o/\H a=none)->Heap.SameBut a s.heap h'->HOk X.prog X.w H h':=λ {a h'} ha hs b ob e=>by
  obtain⟨_,_,hfree⟩:=ha
  refine (I.hok b ob e).stay (λ c w' hc q=>(hs.2 c ?_).trans q) (λ _ q=>q) λ _ _ q=>q
  rintro rfl
  rcases hc with rfl | hc
  ·rw[hfree] at e;cases e
  ·rw[hfree] at hc;cases hc
 rcases hx with hk | hk
 ·refine wpAny_storeName_local hk hn (λ h' hn' hs=>?_) hcls
  obtain⟨oL,_,_,hoL,_⟩:=id hn
  refine h _ ⟨I.ok,I.os,I.bare,⟨λ b o e n hb hx=>?_,λ b o e n hb hx=>?_,I.base.free,λ b o e hx=>?_,I.base.tups,I.base.frzs,I.base.tbls⟩,⟨_,hn',λ j y v' e1 e2 e3=>?_⟩,λ y c e=>?_,I.free,I.freeC,λ p hp=>?_,tracked ⟨oL,hoL,I.free⟩ hs,by simpa using I.len⟩ ⟨_,hs,.inl rfl⟩
  ·exact (hs.2 b (uas (ua4 (Heap.lt_size e) I.ok.above))).trans (I.base.keep b o e n hb hx)
  ·obtain⟨sl,e1⟩:=I.base.slot b o e n hb hx
   exact⟨sl,(hs.2 b (uas (ua4 (Heap.lt_size e) I.ok.above))).trans e1⟩
  ·obtain⟨o',e1⟩:=I.base.there b o e hx
   exact⟨o',(hs.2 b (uas (ua4 (Heap.lt_size e) I.ok.above))).trans e1⟩
  ·by_cases hj:j=i
   ·subst hj
    rw[hi] at e1;cases e1
    rw[ue2 hiσ] at e2
    cases e2
    exact⟨u,r,.inl ⟨hk,by simp⟩⟩
   ·rw[ufe (Ne.symm hj)] at e2
    obtain⟨u',r',q⟩:=hl j y v' e1 e2 e3
    refine⟨u',r',?_⟩
    rcases q with ⟨k,e⟩ | ⟨k,c,e,z⟩
    ·refine .inl ⟨k,?_⟩
     have:y≠x:=λ e=>hj (zlv hN e1 (e ▸ hi))
     simp [this,e]
    ·exact .inr ⟨k,c,e,z.sameBut hs (cne y c e)⟩
  ·obtain⟨w',z⟩:=I.cell y c e
   exact⟨w',z.sameBut hs (cne y c e)⟩
  ·obtain⟨e,n,ne,nf,d⟩:=I.pin p hp
   exact⟨(hs.2 p.1 ne).trans e,n,ne,nf,d⟩
 ·have hfn:X.fn x=true:=by
   rcases hf with z | z
   ·exact z
   ·rw[z] at hk;cases hk
  obtain⟨c,hc⟩:=I.ok.has x (.inl hk)
  obtain⟨w',z⟩:=I.cell x c hc
  refine wpAny_storeName_cell I.ok.kind hk hc z (λ h' hc' hs=>?_)
  obtain⟨oc,hoc,hocd⟩:=id z
  refine h { s with heap:=h' } ⟨I.ok,I.os,I.bare,⟨λ b o e n hb hx=>?_,λ b o e n hb hx=>?_,I.base.free,λ b o e hx=>?_,I.base.tups,I.base.frzs,I.base.tbls⟩,⟨m,hn.sameBut hs (Ne.symm (cne x c hc)),λ j y v' e1 e2 e3=>?_⟩,λ y c' e=>?_,I.free,I.freeC,λ p hp=>?_,tracked ⟨oc,hoc,I.freeC x c hc⟩ hs,by simpa using I.len⟩ ⟨c,hs,.inr hc⟩
  ·exact (hs.2 b (uas (ua4 (Heap.lt_size e) (I.ok.cab x c hfn hc)))).trans (I.base.keep b o e n hb hx)
  ·obtain⟨sl,e1⟩:=I.base.slot b o e n hb hx
   exact⟨sl,(hs.2 b (uas (ua4 (Heap.lt_size e) (I.ok.cab x c hfn hc)))).trans e1⟩
  ·obtain⟨o',e1⟩:=I.base.there b o e hx
   exact⟨o',(hs.2 b (uas (ua4 (Heap.lt_size e) (I.ok.cab x c hfn hc)))).trans e1⟩
  ·by_cases hj:j=i
   ·subst hj
    rw[hi] at e1;cases e1
    rw[ue2 hiσ] at e2
    cases e2
    exact⟨u,r,.inr ⟨.inl hk,c,hc,hc'⟩⟩
   ·rw[ufe (Ne.symm hj)] at e2
    obtain⟨u',r',q⟩:=hl j y v' e1 e2 e3
    refine⟨u',r',?_⟩
    rcases q with q | ⟨k,c',e,z'⟩
    ·exact .inl q
    ·refine .inr ⟨k,c',e,z'.sameBut hs ?_⟩
     rintro rfl
     exact hj (zlv hN e1 (I.ok.inj _ _ _ e hc ▸ hi))
  ·by_cases hcc:c'=c
   ·subst hcc;exact⟨_,hc'⟩
   ·obtain⟨w2,z2⟩:=I.cell y c' e
    exact⟨w2,z2.sameBut hs hcc⟩
  ·obtain⟨e,n,ne,nf,d⟩:=I.pin p hp
   refine⟨(hs.2 p.1 ?_).trans e,n,ne,nf,d⟩
   intro q
   rw[q,hoc] at e
   have q':oc=p.2:=ubj e
   exact d w' (by rw[← q'];exact hocd)
theorem zem {M:Model}{A:Around}{E:Value->Shared->Prop}{i:Nat}{x:Str}{v:V}{u:Value}{Q:Unit->Shared->Prop}(I:Inv X pins σ H s)(hN:X.N.Nodup)(hi:X.N[i]?=some x)(hx:Loc X.env.scope x)(r:RelV v u)
  (h:∀ s',Inv X pins (σ.set i (some v)) H s'->Q () s') (hf:X.fn x=true\/X.env.scope.names.lookup x=some .local:=by first | exact .inl rfl | exact .inr rfl | assumption):wpAny M A (storeName X.env x u) Q E s :=
 zir I hN hi hx r (λ s' I' _=>h s' I') hf
theorem Inv.call' {s':Shared}{ch:List Addr}(I:Inv X pins σ H s)(ho:s'.os=s.os)(u:Un (frs X.stack) ch H H' s.heap s'.heap)(hok:HOk X.prog X.w H' s'.heap)(hg:AllBare s'.gens)
  (hch:∀ b∈ch,(b∈X.ex\/X.s₀.heap.objs.size<=b)/\b≠X.env.locals/\(∀ x c,X.env.cells.lookup x=some c->c≠b)/\∀ p∈X.pn++pins,p.1≠b):Inv X pins σ H' s':=by
 obtain⟨h',g',d',t',o'⟩:=s'
 have e:o'=s.os:=ho
 subst e
 exact I.call (g':=g') (t':=t') (d':=d') u hok hg hch
end
abbrev XK:=Value->Option Addr->Hp->Prop
abbrev St:=List (Option V)
abbrev VK:=V->Hp->Prop
abbrev TE:=St->Hp->VK->Prop
abbrev TT:=St->Hp->(Bool->Hp->Prop)->Prop
abbrev TA:=St->Hp->(List V->Hp->Prop)->Prop
structure Ends where
 nx:St->Hp->Prop
 rt:VK
 bk:St->Hp->Prop:=λ _ _=>False
 ct:St->Hp->Prop:=λ _ _=>False
abbrev TS:=Ends->St->Hp->Prop
def EP (X:Cx)(pins:List (Addr × Obj))(σ:St)(Q:VK)(u:Value)(s':Shared):Prop:=∃ v H',Inv X pins σ H' s'/\RelV v u/\Q v H'
def TP (X:Cx)(pins:List (Addr × Obj))(σ:St)(Q:Bool->Hp->Prop)(b:Bool)(s':Shared):Prop:=∃ H',Inv X pins σ H' s'/\Q b H'
def AP (X:Cx)(pins:List (Addr × Obj))(σ:St)(Q:List V->Hp->Prop)(us:List Value)(s':Shared):Prop:=∃ vs H',Inv X pins σ H' s'/\Vals vs us/\Q vs H'
def SP (X:Cx)(pins:List (Addr × Obj))(D:Ends)(f:Flow)(s':Shared):Prop :=
 match f with
 | .next=>∃ σ' H',Inv X pins σ' H' s'/\D.nx σ' H'
 | .brk=>∃ σ' H',Inv X pins σ' H' s'/\D.bk σ' H'
 | .cont=>∃ σ' H',Inv X pins σ' H' s'/\D.ct σ' H'
 | .ret u=>∃ v σ' H',Inv X pins σ' H' s'/\RelV v u/\D.rt v H'
def PE (X:Cx)(e:Expr)(t:TE):Prop :=
 ∀ (pins:List (Addr × Obj))(s:Shared)(σ:St)(H:Hp)(Q:VK),Inv X pins σ H s->t σ H Q->wpAny (model X.prog X.w) X.A (eval e X.env) (EP X pins σ Q) X.xe s
def PT (X:Cx)(e:Expr)(t:TT):Prop :=
 ∀ (pins:List (Addr × Obj))(s:Shared)(σ:St)(H:Hp)(Q:Bool->Hp->Prop),Inv X pins σ H s->t σ H Q->wpAny (model X.prog X.w) X.A (isTrue e X.env (eval e X.env)) (TP X pins σ Q) X.xe s
def PW (X:Cx)(e:Expr)(t:TT):Prop :=
 ∀ (whole:Sem Value)(pins:List (Addr × Obj))(s:Shared)(σ:St)(H:Hp)(Q:Bool->Hp->Prop),Inv X pins σ H s->t σ H Q->wpAny (model X.prog X.w) X.A (isTrue e X.env whole) (TP X pins σ Q) X.xe s
theorem PW.pt {X:Cx}{e:Expr}{t:TT}(h:PW X e t):PT X e t:=h _
def PA (X:Cx)(es:List Expr)(t:TA):Prop :=
 ∀ (pos:Pos)(pins:List (Addr × Obj))(s:Shared)(σ:St)(H:Hp)(Q:List V->Hp->Prop),Inv X pins σ H s->t σ H Q->wpAny (model X.prog X.w) X.A (spliced (backTo pos (starEach es X.env))) (AP X pins σ Q) X.xe s
def PS (X:Cx)(st:Stmt)(t:TS):Prop :=
 ∀ (pins:List (Addr × Obj))(s:Shared)(σ:St)(H:Hp)(D:Ends),Inv X pins σ H s->t D σ H->wpAny (model X.prog X.w) X.A (exec st X.env) (SP X pins D) X.xe s
def PSs (X:Cx)(st:List Stmt)(t:TS):Prop :=
 ∀ (pins:List (Addr × Obj))(s:Shared)(σ:St)(H:Hp)(D:Ends),Inv X pins σ H s->t D σ H->wpAny (model X.prog X.w) X.A (execs st X.env) (SP X pins D) X.xe s
theorem thn {α:Type}{t:Sem α}{Q Q':α->Shared->Prop}{M:Model}{A:Around}{E:Value->Shared->Prop}{s:Shared}(h:wpAny M A t Q E s)(hQ:∀ a s,Q a s->Q' a s):wpAny M A t Q' E s:=ucw h hQ λ _ _ x=>x
end L2
namespace L2
open PySem PySem.Spec PyProof.Rows
section
variable {X:Cx}
theorem bin {a b:Expr}{ta tb:TE}(ha:PE X a ta)(hb:PE X b tb){pins:List (Addr × Obj)}{s:Shared}{σ:St}{H:Hp}{R:V->V->Hp->Prop}(I:Inv X pins σ H s)(h:ta σ H λ x H1=>tb σ H1 λ y H2=>R x y H2)
  {α:Type} {Q:α->Shared->Prop} {f:Value->Value->Sem α}
  (hf:∀ v u s2 x y H2,Inv X pins σ H2 s2->RelV x v->RelV y u->R x y H2->wpAny (model X.prog X.w) X.A (f v u) Q X.xe s2) :
  wpAny (model X.prog X.w) X.A (eval a X.env) (λ v s₁=>wpAny (model X.prog X.w) X.A (eval b X.env) (λ u s₂=>wpAny (model X.prog X.w) X.A (f v u) Q X.xe s₂) X.xe s₁) X.xe s:=by
 refine thn (ha pins s σ H _ I h) λ v s1 ⟨x,H1,I1,r1,q1⟩=>?_
 refine thn (hb pins s1 σ H1 _ I1 q1) λ u s2 ⟨y,H2,I2,r2,q2⟩=>?_
 exact hf v u s2 x y H2 I2 r1 r2 q2
inductive EVar (σ:L2.St)(i:Nat)(Q:V->Prop):Prop
 | mk:∀ v,(σ[i]?=some (some v))->Q v->EVar σ i Q
inductive EBl (x:V)(Q:Bool->Prop):Prop
 | mk:∀ c,(x=.bl c)->Q c->EBl x Q
inductive EInt (x:V)(Q:Int->Prop):Prop
 | mk:∀ i,(x=.int i)->Q i->EInt x Q
inductive ERef (x:V)(Q:Addr->Prop):Prop
 | mk:∀ a,(x=.ref a)->Q a->ERef x Q
inductive EOne (vs:List V)(Q:Int->Prop):Prop
 | mk:∀ j,(vs=[.int j])->Q j->EOne vs Q
inductive ETwo (vs:List V)(Q:V->V->Prop):Prop
 | mk:∀ v w,(vs=[v,w])->Q v w->ETwo vs Q
def tVar (i:Nat):TE:=λ σ H Q=>EVar σ i λ v=>Q v H
def tC (v:V):TE:=λ _ H Q=>Q v H
theorem zt7 {i:Nat}{x:Str}{pos:Pos}(hN:X.N[i]?=some x)(hv:Vis X.env.scope x)(hd:(x==("__debug__":Str))=false:=by decide)(hcd:(x==("__classdict__":Str))=false:=by decide):PE X (.Name x pos) (tVar i):=by
 intro pins s σ H Q I h
 obtain⟨v,e,h⟩:=h
 obtain⟨m,hn,hl⟩:=I.loc
 obtain⟨u,r,l⟩:=hl i x v hN e hv
 have fin:EP X pins σ Q u s:=⟨v,H,I,r,h⟩
 rcases l with ⟨hk,hm⟩ | ⟨hk,c,hc,hcell⟩
 ·exact wpAny_Name (wpAny_loadName_local I.ok.kind hk hn hm fin) hd
 ·rcases hk with hk | hk
  ·exact wpAny_Name (wpAny_loadName_cell I.ok.kind hk hc hcell fin) hd
  ·exact wpAny_Name (wpAny_loadName_free I.ok.kind hk hc hcell fin hcd) hd
theorem zae {i j pos}:PE X (.Constant (.int i) j pos) (tC (.int i)):=λ _ _ _ H _ I h=>wpAny_Constant_int ⟨.int i,H,I.tok _,⟨_,rfl⟩,h⟩
theorem zb2 {b j pos}:PE X (.Constant (.bool b) j pos) (tC (.bl b)):=λ _ _ _ H _ I h=>Constant_bool ⟨.bl b,H,I,rfl,h⟩
theorem za7 {j pos}:PE X (.Constant .none j pos) (tC .non):=λ _ _ _ H _ I h=>Constant_none ⟨.non,H,I,rfl,h⟩
theorem zn4 {x j pos}:PE X (.Constant (.str x) j pos) (tC (.str x)):=λ _ _ _ H _ I h=>Calls.Constant_str ⟨.str x,H,I.tok _,⟨_,rfl⟩,h⟩
def Gl (X:Cx)(x:Str):Prop:=X.env.kindOf x=some .globalImplicit
theorem ztf {E:Value->Shared->Prop}{pins:List (Addr × Obj)}{s:Shared}{σ:St}{H:Hp}{x:Str}{u:Value}{pos:Pos}{Q:Value->Shared->Prop}(I:Inv X pins σ H s)(hg:Gl X x)(hm:X.mg x=some u)(h:Q u s)
  (hd:(x==("__debug__":Str))=false:=by decide):wpAny (model X.prog X.w) X.A (eval (.Name x pos) X.env) Q E s :=
 Calls.Name_function_global I.ok.kind hg (Calls.loadGlobal_global (by rw[I.ok.glob];exact I.mod.glob.keeps I.bk) hm h) hd
theorem zfb {E:Value->Shared->Prop}{pins:List (Addr × Obj)}{s:Shared}{σ:St}{H:Hp}{x:Str}{u:Value}{pos:Pos}{Q:Value->Shared->Prop}(I:Inv X pins σ H s)(hg:Gl X x)(hm:X.mg x=none)(hv:bootBuiltins x=some u)(h:Q u s)
  (hn:x≠"__name__":=by decide) (hd:(x==("__debug__":Str))=false:=by decide):wpAny (model X.prog X.w) X.A (eval (.Name x pos) X.env) Q E s:=by
 obtain⟨mb,h1,h2⟩:=I.mod.blt
 exact Calls.Name_function_global I.ok.kind hg (Calls.loadGlobal_builtin (by rw[I.ok.glob];exact I.mod.glob.keeps I.bk) hm (by rw[I.ok.blt];exact h1.keeps I.bk) ((h2 x hn).trans hv) h) hd
theorem zdy {x:Str}{v:V}{u:Value}{pos:Pos}(hg:Gl X x)(hm:X.mg x=none)(hv:bootBuiltins x=some u)(r:RelV v u)(hn:x≠"__name__":=by decide)(hd:(x==("__debug__":Str))=false:=by decide):PE X (.Name x pos) (tC v) :=
 λ _ _ _ H _ I h=>zfb I hg hm hv ⟨v,H,I,r,h⟩ hn hd
variable {a b:Expr}{ta tb:TE}{pos:Pos}
def PC (X:Cx)(op:CmpOp)(a b:Expr)(t:TE):Prop :=
 ∀ (pins:List (Addr × Obj))(s:Shared)(σ:St)(H:Hp)(Q:VK),Inv X pins σ H s->t σ H Q ->
  wpAny (model X.prog X.w) X.A (eval a X.env) (λ v s₁=>wpAny (model X.prog X.w) X.A (eval b X.env) (λ u s₂=>wpAny (model X.prog X.w) X.A (compareOp op v u) (EP X pins σ Q) X.xe s₂) X.xe s₁) X.xe s
theorem nobehind (b:Expr){op:CmpOp}(h:op≠.In)(h2:op≠.NotIn):behindInMarks op b=false:=by
 have e1:(op==CmpOp.In)=false:=by cases op <;> first | rfl | exact absurd rfl h
 have e2:(op==CmpOp.NotIn)=false:=by cases op <;> first | rfl | exact absurd rfl h2
 cases b <;> simp [behindInMarks,e1,e2]
def tB (t:TE):TT:=λ σ H Q=>t σ H λ x H1=>EBl x λ c=>Q c H1
theorem znz {op:CmpOp}{t:TE}(h:PC X op a b t)(h1:behindInMarks op b=false:=by first | exact nobehind _ (by decide) (by decide) | rfl):PT X (.Compare a [op] [b] pos) (tB t):=by
 intro pins s σ H Q I hw
 refine wpAny_isTrue_Compare1 (thn (h pins s σ H _ I hw) λ v s1 h1=>thn h1 λ u s2 h2=>thn h2 λ c s3 ⟨x,H1,I1,r1,q1⟩=>?_) h1
 obtain⟨d,rfl,q⟩:=q1
 cases r1
 exact ub6 ⟨H1,I1,q⟩
theorem zbf {e:Expr}{t:TE}(h:PE X e t)(he:∀ whole,isTrue e X.env whole=(do let v ← whole;standAt e.pos;holding [v] (truthy v)):=by intro _;rfl):PT X e (tB t):=by
 intro pins s σ H Q I hw
 refine isTrue_plain (thn (h pins s σ H _ I hw) λ v s1 ⟨x,H1,I1,r1,q1⟩=>?_) (he _)
 obtain⟨d,rfl,q⟩:=q1
 cases r1
 exact ub6 ⟨H1,I1,q⟩
variable {tA tB':TT}{rest:List Expr}
def tAnd (t u:TT):TT:=λ σ H Q=>t σ H λ c H1=>if c=true then u σ H1 Q else Q false H1
def tOr (t u:TT):TT:=λ σ H Q=>t σ H λ c H1=>if c=true then Q true H1 else u σ H1 Q
def tNot (t:TT):TT:=λ σ H Q=>t σ H λ c H1=>Q (!c) H1
theorem zny (ha:PT X a tA):PW X (.BoolOp .And [a] pos) tA:=by
 intro wh pins s σ H Q I h
 refine isTrue_and (thn (ha pins s σ H Q I h) λ c s1 e=>?_)
 cases c with
 | true=>exact isTrue_and_nil e
 | false=>exact e
theorem zcd (ha:PT X a tA):PW X (.BoolOp .Or [a] pos) tA:=by
 intro wh pins s σ H Q I h
 refine isTrue_or (thn (ha pins s σ H Q I h) λ c s1 e=>?_)
 cases c with
 | false=>exact isTrue_or_nil e
 | true=>exact e
theorem zr6 (ha:PT X a tA)(hb:PW X (.BoolOp .And (b::rest) pos) tB'):PW X (.BoolOp .And (a::b::rest) pos) (tAnd tA tB'):=by
 intro wh pins s σ H Q I h
 refine isTrue_and (thn (ha pins s σ H _ I h) λ c s1 ⟨H1,I1,q1⟩=>?_)
 cases c with
 | true=>exact hb wh pins s1 σ H1 Q I1 q1
 | false=>exact⟨H1,I1,q1⟩
theorem zc1 (ha:PT X a tA)(hb:PW X (.BoolOp .Or (b::rest) pos) tB'):PW X (.BoolOp .Or (a::b::rest) pos) (tOr tA tB'):=by
 intro wh pins s σ H Q I h
 refine isTrue_or (thn (ha pins s σ H _ I h) λ c s1 ⟨H1,I1,q1⟩=>?_)
 cases c with
 | true=>exact⟨H1,I1,q1⟩
 | false=>exact hb wh pins s1 σ H1 Q I1 q1
theorem zbj (ha:PT X a tA):PT X (.UnaryOp .Not a pos) (tNot tA):=by
 intro pins s σ H Q I h
 exact isTrue_not (ha pins s σ H (λ c H1=>Q (!c) H1) I h)
def tAndV (ta tb:TE):TE:=λ σ H Q=>ta σ H λ x H1=>EBl x λ c=>if c=true then tb σ H1 Q else Q (.bl false) H1
def tOrV (ta tb:TE):TE:=λ σ H Q=>ta σ H λ x H1=>EBl x λ c=>if c=true then Q (.bl true) H1 else tb σ H1 Q
def tNotV (ta:TE):TE:=λ σ H Q=>ta σ H λ x H1=>EBl x λ c=>Q (.bl (!c)) H1
theorem zb1 {op} {t:TE} (h:PE X a t):PE X (.BoolOp op [a] pos) t:=λ pins s σ H Q I hw=>BoolOp_one (h pins s σ H Q I hw)
theorem zc6 (ha:PE X a ta)(hb:PE X (.BoolOp .And (b::rest) pos) tb):PE X (.BoolOp .And (a::b::rest) pos) (tAndV ta tb):=by
 intro pins s σ H Q I h
 refine BoolOp_and (thn (ha pins s σ H _ I h) λ v s1 ⟨x,H1,I1,r1,q1⟩=>?_)
 obtain⟨c,rfl,q1⟩:=q1
 cases r1
 refine ub6 ?_
 cases c with
 | true=>exact hb pins s1 σ H1 Q I1 q1
 | false=>exact⟨.bl false,H1,I1,rfl,q1⟩
theorem zn5 (ha:PE X a ta)(hb:PE X (.BoolOp .Or (b::rest) pos) tb):PE X (.BoolOp .Or (a::b::rest) pos) (tOrV ta tb):=by
 intro pins s σ H Q I h
 refine BoolOp_or (thn (ha pins s σ H _ I h) λ v s1 ⟨x,H1,I1,r1,q1⟩=>?_)
 obtain⟨c,rfl,q1⟩:=q1
 cases r1
 refine ub6 ?_
 cases c with
 | false=>exact hb pins s1 σ H1 Q I1 q1
 | true=>exact⟨.bl true,H1,I1,rfl,q1⟩
theorem zt8 (ha:PE X a ta):PE X (.UnaryOp .Not a pos) (tNotV ta):=by
 intro pins s σ H Q I h
 refine UnaryOp_ (thn (ha pins s σ H _ I h) λ v s1 ⟨x,H1,I1,r1,q1⟩=>?_)
 obtain⟨c,rfl,q1⟩:=q1
 cases r1
 exact not_of (ub6 ⟨.bl (!c),H1,I1,rfl,q1⟩)
def tIf (t:TT)(ta tb:TE):TE:=λ σ H Q=>t σ H λ c H1=>if c=true then ta σ H1 Q else tb σ H1 Q
theorem zg6 {c:Expr}(hc:PT X c tA)(ha:PE X a ta)(hb:PE X b tb):PE X (.IfExp c a b pos) (tIf tA ta tb):=by
 intro pins s σ H Q I h
 refine wpAny_IfExp (thn (hc pins s σ H _ I h) λ d s1 ⟨H1,I1,q1⟩=>?_)
 cases d with
 | true=>exact ha pins s1 σ H1 Q I1 q1
 | false=>exact hb pins s1 σ H1 Q I1 q1
end
end L2
namespace L2
open PySem PySem.Spec PyProof.Rows
def SqL (K:uac)(H:Hp)(a:Addr)(xs:List V):Prop :=
 Rd H a (.lst xs) \/
  ∃ (o:Obj)(its:Array Value)(n:Nat),K.lookup a=some o/\o.cls=.type "list"/\o.dict=none/\o.data=.seq its n/\its.size<=sizeLine/\Vals xs its.toList
def SqT (K:uac)(H:Hp)(a:Addr)(xs:List V):Prop :=
 Rd H a (.tup xs) \/
  ∃ (o:Obj)(its:Array Value)(n:Nat),K.lookup a=some o/\o.cls=.type "tuple"/\o.data=.seq its n/\its.size<=sizeLine/\Vals xs its.toList
def absV:Value->Option V
 | .none=>some .non
 | .bool b=>some (.bl b)
 | .int i _=>some (.int i)
 | .str x _=>some (.str x)
 | .bytes b _=>some (.byt b)
 | .float b _=>some (.flt b)
 | .ref a=>some (.ref a)
 | .type n=>some (.ty n)
 | _=>none
theorem RelV.abs {x:V}{u:Value}(r:RelV x u):absV u=some x:=by
 cases x with
 | non=>cases r;rfl
 | bl _=>cases r;rfl
 | int _=>obtain⟨t,rfl⟩:=r;rfl
 | str _=>obtain⟨t,rfl⟩:=r;rfl
 | byt _=>obtain⟨t,rfl⟩:=r;rfl
 | flt _=>obtain⟨t,rfl⟩:=r;rfl
 | ref _=>cases r;rfl
 | ty _=>cases r;rfl
theorem RelV.inj {x y:V}{u:Value}(r:RelV x u)(q:RelV y u):x=y:=ubj (r.abs.symm.trans q.abs)
theorem Vals.inj:∀ {xs ys:List V}{us:List Value},Vals xs us->Vals ys us->xs=ys
 | _,_,_,.nil,.nil=>rfl
 | _,_,_,.cons r t,.cons r' t'=>by rw[r.inj r',Vals.inj t t']
section
variable {X:Cx}{pins:List (Addr × Obj)}{σ:St}{H:Hp}{s:Shared}{a:Addr}{xs ys:List V}
theorem SqL.of {K:uac}(h:H a=some (.lst xs)):SqL K H a xs:=.inl (.inl h)
theorem SqT.of {K:uac}(h:H a=some (.tup xs)):SqT K H a xs:=.inl (.inl h)
theorem Inv.list (I:Inv X pins σ H s)(h:SqL X.K H a xs):∃ its:List Value,Vals xs its/\PlainL s.heap a its.toArray/\xs.length<=sizeLine:=by
 rcases h with h | ⟨o,its,n,hk,hc,hd,hs,hz,r⟩
 ·obtain⟨z,its,n,r,e⟩:=h.ok I.hok
  exact⟨its,r,⟨_,n,e,rfl,rfl,rfl⟩,z⟩
 ·refine⟨its.toList,r,⟨o,n,I.kIn a o hk,hc,hd,by simpa using hs⟩,?_⟩
  have e:=r.length
  simp only [ub0] at e
  left
theorem Inv.tuple (I:Inv X pins σ H s)(h:SqT X.K H a xs):∃ its:List Value,Vals xs its/\IsTup s.heap a its.toArray/\xs.length<=sizeLine:=by
 rcases h with h | ⟨o,its,n,hk,hc,hs,hz,r⟩
 ·obtain⟨z,its,r,p⟩:=h.ok I.hok
  exact⟨its,r,p.tup,z⟩
 ·refine⟨its.toList,r,⟨o,I.kIn a o hk,hc,n,by simpa using hs⟩,?_⟩
  have e:=r.length
  simp only [ub0] at e
  left
theorem Inv.list_inj (I:Inv X pins σ H s)(h:SqL X.K H a xs)(h':SqL X.K H a ys):xs=ys:=by
 obtain⟨its,r,⟨o,n,e,_,_,d⟩,_⟩:=I.list h
 obtain⟨its',r',⟨o',n',e',_,_,d'⟩,_⟩:=I.list h'
 rw[e] at e';cases e'
 rw[d] at d'
 injection d' with d1 _
 have:its=its':=by simpa using congrArg Array.toList d1
 subst this
 exact r.inj r'
theorem Inv.tuple_inj (I:Inv X pins σ H s)(h:SqT X.K H a xs)(h':SqT X.K H a ys):xs=ys:=by
 obtain⟨its,r,⟨o,e,_,n,d⟩,_⟩:=I.tuple h
 obtain⟨its',r',⟨o',e',_,n',d'⟩,_⟩:=I.tuple h'
 rw[e] at e';cases e'
 rw[d] at d'
 injection d' with d1 _
 have:its=its':=by simpa using congrArg Array.toList d1
 subst this
 exact r.inj r'
end
abbrev Cx.wish (X:Cx)(E:Value->Shared->Prop):Cx:={ X with xe:=E }
abbrev Cx.nox (X:Cx):Cx:=X.wish λ _ _=>False
theorem Cx.Ok.wish {X:Cx}(ok:X.Ok)(E:Value->Shared->Prop):(X.wish E).Ok :=
 ⟨ok.mod,ok.kind,ok.glob,ok.blt,ok.above,ok.inj,ok.has,ok.cab,ok.hd,ok.frames,ok.stk,ok.exf,ok.bs,ok.bsz,ok.noex,ok.exfs,ok.funs,ok.frf⟩
theorem Cx.Ok.unwish {X:Cx}{E:Value->Shared->Prop}(ok:(X.wish E).Ok):X.Ok :=
 ⟨ok.mod,ok.kind,ok.glob,ok.blt,ok.above,ok.inj,ok.has,ok.cab,ok.hd,ok.frames,ok.stk,ok.exf,ok.bs,ok.bsz,ok.noex,ok.exfs,ok.funs,ok.frf⟩
section
variable {X:Cx}{pins:List (Addr × Obj)}{σ:St}{H:Hp}{s:Shared}{E:Value->Shared->Prop}
theorem Inv.wish (I:Inv X pins σ H s)(E:Value->Shared->Prop):Inv (X.wish E) pins σ H s:=⟨I.ok.wish E,I.os,I.bare,I.base,I.loc,I.cell,I.free,I.freeC,I.pin,I.hok,I.len⟩
theorem Inv.unwish (I:Inv (X.wish E) pins σ H s):Inv X pins σ H s:=⟨I.ok.unwish,I.os,I.bare,I.base,I.loc,I.cell,I.free,I.freeC,I.pin,I.hok,I.len⟩
theorem SP.unwish {D:Ends}{f:Flow}{s':Shared}(h:SP (X.wish E) pins D f s'):SP X pins D f s':=by
 cases f with
 | next=>obtain⟨σ',H',I,q⟩:=h;exact⟨σ',H',I.unwish,q⟩
 | brk=>obtain⟨σ',H',I,q⟩:=h;exact⟨σ',H',I.unwish,q⟩
 | cont=>obtain⟨σ',H',I,q⟩:=h;exact⟨σ',H',I.unwish,q⟩
 | ret u=>obtain⟨v,σ',H',I,r,q⟩:=h;exact⟨v,σ',H',I.unwish,r,q⟩
theorem PSs.nox {st:List Stmt}{t:TS}(h:PSs X.nox st t):PSs X st t:=λ pins s σ H D I hw =>
 ucw (h pins s σ H D (I.wish _) hw) (λ _ _ q=>q.unwish) λ _ _ z=>False.elim z
end
section
variable {X:Cx}{st:Stmt}{rest:List Stmt}{t u:TS}{e:Expr}{te:TE}{pos:Pos}
def tNext:TS:=λ D σ H=>D.nx σ H
def tSeq (t u:TS):TS:=λ D σ H=>t { D with nx:=u D } σ H
theorem zar:PSs X [] tNext:=λ _ _ σ H _ I h=>ufg ⟨σ,H,I,h⟩
theorem zac (h1:PS X st t)(h2:PSs X rest u):PSs X (st::rest) (tSeq t u):=by
 intro pins s σ H D I h
 refine wpAny_execs_cons (thn (h1 pins s σ H { D with nx:=u D } I h) λ f s1 q=>?_)
 cases f with
 | next =>
  obtain⟨σ',H',I',q⟩:=q
  exact h2 pins s1 σ' H' D I' q
 | ret v=>exact q
 | brk=>exact q
 | cont=>exact q
theorem zaf (h1:PS X st t):PSs X [st] t:=by
 intro pins s σ H D I h
 refine wpAny_execs_cons (thn (h1 pins s σ H D I h) λ f s1 q=>?_)
 cases f with
 | next=>exact ufg q
 | ret v=>exact q
 | brk=>exact q
 | cont=>exact q
def tCont:TS:=λ D σ H=>D.ct σ H
theorem zkh:PS X (.Continue pos) tCont:=λ _ _ σ H _ I h=>wpAny_Continue ⟨σ,H,I,h⟩
theorem Inv.quiet {pins:List (Addr × Obj)}{σ:St}{H:Hp}{s:Shared}(I:Inv X pins σ H s):interactive X.env=false:=by simp [interactive,I.ok.kind]
def tDrop (te:TE):TS:=λ D σ H=>te σ H λ _ H1=>D.nx σ H1
theorem zbq (he:PE X e te)(hs:swapsWith e none pos.line X.env=pure false:=by rfl):PS X (.Expr e pos) (tDrop te):=by
 intro pins s σ H D I h
 exact wpAny_Expr_any (thn (he pins s σ H _ I h) λ v s1 ⟨x,H1,I1,r1,q1⟩=>⟨σ,H1,I1,q1⟩) I.quiet hs
def tRet (te:TE):TS:=λ D σ H=>te σ H D.rt
theorem zaj (he:PE X e te):PS X (.Return (some e) pos) (tRet te):=by
 intro pins s σ H D I h
 exact wpAny_Return_some (thn (he pins s σ H _ I h) λ v s1 ⟨x,H1,I1,r1,q1⟩=>⟨x,σ,H1,I1,r1,q1⟩)
def tIfS (c:TT)(t u:TS):TS:=λ D σ H=>c σ H λ b H1=>if b=true then t D σ H1 else u D σ H1
theorem zbb {c:Expr}{a b:List Stmt}{tc:TT}(hc:PT X c tc)(ha:PSs X a t)(hb:PSs X b u):PS X (.If c a b pos) (tIfS tc t u):=by
 intro pins s σ H D I h
 refine wpAny_If (thn (hc pins s σ H _ I h) λ d s1 ⟨H1,I1,q1⟩=>?_)
 cases d with
 | true=>exact ha pins s1 σ H1 D I1 q1
 | false=>exact hb pins s1 σ H1 D I1 q1
def tNever:TS:=λ _ _ _=>False
theorem zlr:PS X st tNever:=λ _ _ _ _ _ _ h=>h.elim
end
abbrev TG:=V->St->Hp->(St->Hp->Prop)->Prop
abbrev TGs:=List V->St->Hp->(St->Hp->Prop)->Prop
def PG (X:Cx)(target:Expr)(t:TG):Prop :=
 ∀ (pins:List (Addr × Obj))(s:Shared)(σ:St)(H:Hp)(v:V)(u:Value)(Q:St->Hp->Prop),Inv X pins σ H s->RelV v u->t v σ H Q ->
  wpAny (model X.prog X.w) X.A (assign target X.env u) (λ _ s'=>∃ σ' H',Inv X pins σ' H' s'/\Q σ' H') X.xe s
def PGs (X:Cx)(ts:List Expr)(t:TGs):Prop :=
 ∀ (pins:List (Addr × Obj))(s:Shared)(σ:St)(H:Hp)(vs:List V)(us:List Value)(Q:St->Hp->Prop),Inv X pins σ H s->Vals vs us->t vs σ H Q ->
  wpAny (model X.prog X.w) X.A (assignInOrder ((assignEach ts X.env).map (·.2)) us) (λ _ s'=>∃ σ' H',Inv X pins σ' H' s'/\Q σ' H') X.xe s
abbrev TSet:=V->V->V->Hp->(Hp->Prop)->Prop
def PSet (X:Cx)(t:TSet):Prop :=
 ∀ (pins:List (Addr × Obj))(s:Shared)(σ:St)(H:Hp)(o i v:V)(ov iv u:Value)(Q:Hp->Prop),Inv X pins σ H s->RelV o ov->RelV i iv->RelV v u->t o i v H Q ->
  wpAny (model X.prog X.w) X.A (setItem ov iv u) (λ _ s'=>∃ H',Inv X pins σ H' s'/\Q H') X.xe s
section
variable {X:Cx}{pos:Pos}
def gName (i:Nat):TG:=λ v σ H Q=>Q (σ.set i (some v)) H
theorem zag {i:Nat}{x:Str}(hN:X.N.Nodup)(hi:X.N[i]?=some x)(hx:Loc X.env.scope x)(hf:X.fn x=true\/X.env.scope.names.lookup x=some .local:=by first | exact .inl rfl | exact .inr rfl | assumption):PG X (.Name x pos) (gName i):=by
 intro pins s σ H v u Q I r h
 exact wpAny_assign_Name (zem I hN hi hx r (λ s' I'=>⟨_,H,I',h⟩) hf)
def gNil:TGs:=λ vs σ H Q=>vs=[]/\Q σ H
inductive gCons_i (t:TG)(u:TGs)(vs:List V)(σ:L2.St)(H:Hp)(Q:L2.St->Hp->Prop):Prop
 | mk:∀ v r,(vs=v::r)->(t v σ H λ σ' H'=>u r σ' H' Q)->gCons_i t u vs σ H Q
def gCons (t:TG)(u:TGs):TGs:=λ vs σ H Q=>gCons_i t u vs σ H Q
theorem za1:PGs X [] gNil:=by
 intro pins s σ H vs us Q I r h
 obtain⟨e,h⟩:=h
 subst e
 cases r
 exact assignInOrder_nil ⟨σ,H,I,h⟩
theorem zah {e:Expr}{es:List Expr}{t:TG}{u:TGs}(h1:PG X e t)(h2:PGs X es u)
  (hs:(assignEach (e::es) X.env).map (·.2)=assign e X.env::(assignEach es X.env).map (·.2):=by rfl):PGs X (e::es) (gCons t u):=by
 intro pins s σ H vs us Q I r h
 obtain⟨v,vr,e1,h⟩:=h
 subst e1
 cases r with
 | cons r rr =>
  rw[hs]
  refine assignInOrder_cons (thn (h1 pins s σ H _ _ _ I r h) λ _ s1 ⟨σ1,H1,I1,q1⟩=>?_)
  exact h2 pins s1 σ1 H1 _ _ Q I1 rr q1
inductive gTup_i (K:uac)(n:Nat)(t:TGs)(v:V)(σ:L2.St)(H:Hp)(Q:L2.St->Hp->Prop):Prop
 | mk:∀ a xs,(v=.ref a)->(SqT K H a xs)->(xs.length=n)->(t xs σ H Q)->gTup_i K n t v σ H Q
def gTup (K:uac)(n:Nat)(t:TGs):TG:=λ v σ H Q=>gTup_i K n t v σ H Q
theorem zbp {es:List Expr}{k:Nat}{t:TGs}{n:Nat}(hc:X.calm=true)(h:PGs X es t)
  (hn:(assignEach es X.env).length=n:=by rfl) (hst:(assignEach es X.env).findIdx? (·.1)=none:=by rfl):PG X (.Tuple es k pos) (gTup X.K n t):=by
 intro pins s σ H v u Q I r hw
 obtain⟨a,xs,e1,hq,hl,hw⟩:=hw
 subst e1
 cases r
 obtain⟨its,rv,ht,hz⟩:=I.tuple hq
 refine assign_Tuple_tuple (I.ok.hd hc) ht (by simp [hn,← hl,rv.length]) hst λ h' hx=>?_
 have I1:Inv X pins σ H { s with heap:=h' }:=I.kept (t':=s.toks) λ b o e=>hx b o (uas (Heap.lt_size e)) e
 exact h pins _ σ H xs _ Q I1 (by simpa using rv) hw
def gSub (to ti:TE)(t:TSet):TG:=λ v σ H Q=>to σ H λ o H1=>ti σ H1 λ i H2=>t o i v H2 λ H3=>Q σ H3
theorem zix {o i:Expr}{to ti:TE}{t:TSet}(ho:PE X o to)(hi:PE X i ti)(hs:PSet X t)
  (ha:∀ v,assign (.Subscript o i pos) X.env v=(do
   let ov ← holding [v] (eval o X.env)
   let iv ← holding [v,ov] (eval i X.env)
   standAt pos
   holding [v,ov,iv] (setItem ov iv v)
   release [v,ov,iv] []):=by intro _;rfl):PG X (.Subscript o i pos) (gSub to ti t):=by
 intro pins s σ H v u Q I r h
 rw[ha]
 refine uab (ubd (thn (ho pins s σ H _ I h) λ ov s1 ⟨x,H1,I1,r1,q1⟩=>?_))
 refine uab (ubd (thn (hi pins s1 σ H1 _ I1 q1) λ iv s2 ⟨y,H2,I2,r2,q2⟩=>?_))
 refine uab (uek (uab (ubd (thn (hs pins s2 σ H2 x y v ov iv u _ I2 r1 r2 r q2) λ _ s3 ⟨H3,I3,q3⟩=>?_))))
 exact wpAny_release ⟨σ,H3,I3,q3⟩
def tAsg (te:TE)(g:TG):TS:=λ D σ H=>te σ H λ x H1=>g x σ H1 D.nx
theorem zbn {tg e:Expr}{te:TE}{g:TG}(he:PE X e te)(hg:PG X tg g)(hs:swapsWithSole [tg] e pos.line X.env=pure false:=by rfl)(hw:swappedStores [tg] e X.env=pure none:=by rfl)
  (h1:(assignEach [tg] X.env).map (·.2)=[assign tg X.env]:=by rfl):PS X (.Assign [tg] e pos) (tAsg te g):=by
 intro pins s σ H D I h
 refine wpAny_Assign_stores (thn (he pins s σ H _ I h) λ v s1 ⟨x,H1,I1,r1,q1⟩=>?_) hs hw
 rw[h1]
 exact thn (hg pins s1 σ H1 x v _ I1 r1 q1) λ _ s2 q=>q
theorem zap {i:Nat}{x:Str}{e:Expr}{te:TE}{pos':Pos}(hN:X.N.Nodup)(hi:X.N[i]?=some x)(hx:Loc X.env.scope x)(he:PE X e te)(hs:swapsWith e (some (.Name x pos')) pos.line X.env=pure false:=by rfl)(hf:X.fn x=true\/X.env.scope.names.lookup x=some .local:=by first | exact .inl rfl | exact .inr rfl | assumption) :
  PS X (.Assign [.Name x pos'] e pos) (tAsg te (gName i)):=by
 intro pins s σ H D I h
 refine wpAny_Assign_Name (thn (he pins s σ H _ I h) λ v s1 ⟨y,H1,I1,r1,q1⟩=>?_) hs
 exact zem I1 hN hi hx r1 (λ s2 I2=>⟨_,H1,I2,q1⟩) hf
def tPar (i j:Nat)(ta:TA):TS:=λ D σ H=>ta σ H λ vs H1=>ETwo vs λ v w=>D.nx ((σ.set i (some v)).set j (some w)) H1
theorem zt1 {i j:Nat}{x y:Str}{a b:Expr}{ta:TA}{px py pt:Pos} {kt k2 pt2} (hc:X.calm=true) (hN:X.N.Nodup) (hi:X.N[i]?=some x) (hj:X.N[j]?=some y) (hij:i≠j)
  (hx:X.env.scope.names.lookup x=some .local) (hy:X.env.scope.names.lookup y=some .local) (ha:PA X [a,b] ta)
  (hw:swappedStores [.Tuple [.Name x px,.Name y py] kt pt] (.Tuple [a,b] k2 pt2) X.env=pure (some [x,y]))
  (hs:swapsWithSole [.Tuple [.Name x px,.Name y py] kt pt] (.Tuple [a,b] k2 pt2) pos.line X.env=pure false:=by rfl) :
  PS X (.Assign [.Tuple [.Name x px,.Name y py] kt pt] (.Tuple [a,b] k2 pt2) pos) (tPar i j ta):=by
 intro pins s σ H D I h
 rw[exec_Assign_arm]
 refine uab (uek ?_)
 rw[hs]
 refine uab (uah ?_)
 rw[if_neg (by decide)]
 refine uab (Tuple_ (thn (ha _ pins s σ H _ I h) λ us s1 ⟨vs,H1,I1,r1,q1⟩=>?_))
 obtain⟨v,w,e1,q1⟩:=q1
 subst e1
 obtain⟨u1,u2,rfl,rv,rw'⟩:∃ u1 u2,us=[u1,u2]/\RelV v u1/\RelV w u2:=by
  cases r1 with
  | cons p q =>
   cases q with
   | cons p' q' =>
    cases q'
    exact⟨_,_,rfl,p,p'⟩
 refine ubu ?_ (by show 2<=sizeLine;decide)
 have I2:Inv X pins σ H1 { s1 with heap:=s1.heap.push { cls:=.type "tuple",data:=.seq [u1,u2].toArray } }:=I1.kept (t':=s1.toks) λ b o e=>Heap.get?_push_of_some _ e
 rw[hw]
 refine uab (uah ?_)
 show wpAny (model X.prog X.w) X.A (do rule "assign.swapped-stores";let items ← unpackItems (.ref s1.heap.objs.size) 2 none;assignInOrder [λ v=>bindName X.env y v,λ v=>bindName X.env x v] items.reverse;pure Flow.next) _ _ _
 refine uab (udl (uab (unpackItems_tuple (items:=#[u1,u2]) (I.ok.hd hc) (IsTup.new s1.heap _) λ h' hx'=>?_)))
 have I3:=I2.kept (h':=h') (t':=s1.toks) λ b o e=>hx' b o (uas (Heap.lt_size e)) e
 show wpAny _ _ (assignInOrder [λ v=>bindName X.env y v,λ v=>bindName X.env x v] [u2,u1] >>= λ _=>pure Flow.next) _ _ _
 refine uab (assignInOrder_cons (wpAny_bindName (zem I3 hN hj (.inl hy) rw' (λ s2 I4=>?_) (.inr hy))))
 refine assignInOrder_cons (wpAny_bindName (zem I4 hN hi (.inl hx) rv (λ s3 I5=>assignInOrder_nil (uah ?_)) (.inr hx)))
 rw[List.set_comm _ _ (Ne.symm hij)] at I5
 exact⟨_,H1,I5,q1⟩
end
section
variable {X:Cx}{pos:Pos}
def tWhile (c:TT)(tb:TS):TS:=λ D σ H=>∃ W:Nat->St->Hp->Prop,(∃ m,W m σ H)/\∀ m σ H,W m σ H ->
 c σ H λ b H1=>if b=true then ∃ N:St->Hp->Prop,(∀ σ' H',N σ' H'->∃ m',m'<m/\W m' σ' H')/\tb { D with nx:=N,ct:=N,bk:=D.nx } σ H1 else D.nx σ H1
theorem zdl {c:Expr}{body:List Stmt}{tc:TT}{tb:TS}(hp:PassesOwn (model X.prog X.w) X.A X.env X.xe)(hc:PT X c tc)(hb:PSs X body tb):PS X (.While c body [] pos) (tWhile tc tb):=by
 intro pins s σ H D I h
 obtain⟨W,⟨m0,w0⟩,turn⟩:=h
 refine wpAny_While (codeAny_whileLoop (λ n s'=>∃ σ' H',Inv X pins σ' H' s'/\W n σ' H') ?_ m0 ⟨σ,H,I,w0⟩)
 rintro n s1 ⟨σ1,H1,I1,w1⟩
 refine udu hp (thn (hc pins s1 σ1 H1 _ I1 (turn n σ1 H1 w1)) λ b s2 ⟨H2,I2,q2⟩=>?_)
 cases b with
 | true =>
  obtain⟨N,hN,q2⟩:=q2
  rw[if_pos rfl]
  refine udu hp (thn (hb pins s2 σ1 H2 _ I2 q2) λ f s3 q3=>?_)
  cases f with
  | next =>
   obtain⟨σ3,H3,I3,n3⟩:=q3
   obtain⟨m',hm,w3⟩:=hN σ3 H3 n3
   exact⟨m',hm,σ3,H3,I3,w3⟩
  | cont =>
   obtain⟨σ3,H3,I3,n3⟩:=q3
   obtain⟨m',hm,w3⟩:=hN σ3 H3 n3
   exact⟨m',hm,σ3,H3,I3,w3⟩
  | brk=>exact q3
  | ret v=>exact q3
 | false =>
  rw[if_neg uau]
  exact ufg ⟨σ1,H2,I2,q2⟩
end
structure It where
 go:Nat->Hp->Prop
 yld:Nat->Hp->V->Hp->Prop
 stop:Nat->Hp->Prop
def FpOk (X:Cx)(pins:List (Addr × Obj))(H:Hp)(b:Addr):Prop :=
 H b=none/\b≠X.env.locals/\b∉X.fs/\(b∈X.ex\/X.s₀.heap.objs.size<=b)/\(∀ x c,X.env.cells.lookup x=some c->c≠b)/\∀ p∈X.pn++pins,p.1≠b
theorem Inv.fpOk {X:Cx}{pins:List (Addr × Obj)}{σ:St}{H H':Hp}{s:Shared}{b:Addr}(I:Inv X pins σ H s)(hb:s.heap.objs.size<=b)(hn:H' b=none):FpOk X pins H' b:=by
 refine⟨hn,ucq (ua4 I.lt hb),I.nofs hb,.inr (ubt I.sz hb),λ x c e z=>?_,λ p hp z=>?_⟩
 ·obtain⟨v,q⟩:=I.cell x c e
  exact absurd (ua4 q.lt (by rw[z];exact hb)) (ubs _)
 ·exact absurd (ua4 (Heap.lt_size (I.pin p hp).1) (by rw[z];exact hb)) (ubs _)
structure Turn (P:Program)(w:World)(K:uac)(tg:Expr)(J:It)(fp:List Addr)(it:Addr)(tn:Nat->Heap->Prop):Prop where
 mem:it∈fp
 obj:∀ i h,tn i h->∀ b∈fp,∃ o,h.get? b=some o/\∀ v,o.data≠.cell v
 keep:∀ i h h',tn i h->(∀ b∈fp,∀ o,h.get? b=some o->h'.get? b=some o)->tn i h'
 item:∀ (X:Cx),X.prog=P->X.w=w->X.K=K->X.calm=true->∀ (i:Nat)(pins:List (Addr × Obj))(s:Shared)(σ:St)(H:Hp)(E:Value->Shared->Prop),Inv X pins σ H s->(∀ b∈fp,FpOk X pins H b)->tn i s.heap->J.go i H ->
  wpAny (model P w) X.A (pyNext (.ref it)) (λ r s1=>∃ u,r=some u /\
   wpAny (model P w) X.A (letOwnedTupleGo tg (.ref it) u) (λ _ s2=>∃ x H',Inv X pins σ H' s2/\RelV x u/\J.yld i H x H'/\tn (i+1) s2.heap/\∀ b∈fp,H' b=none) E s1) E s
 done:∀ (X:Cx),X.prog=P->X.w=w->X.K=K->X.calm=true->∀ (i:Nat)(pins:List (Addr × Obj))(s:Shared)(σ:St)(H:Hp)(E:Value->Shared->Prop),Inv X pins σ H s->(∀ b∈fp,FpOk X pins H b)->tn i s.heap->J.stop i H ->
  wpAny (model P w) X.A (pyNext (.ref it)) (λ r s1=>r=none/\Inv X pins σ H s1) E s
 self:∀ (A:Around)(i:Nat)(s:Shared)(Q:Value->Shared->Prop)(E:Value->Shared->Prop),tn i s.heap->Q (.ref it) s->wpAny (model P w) A (pyIter (.ref it)) Q E s
abbrev TI:=St->Hp->(It->Hp->Prop)->Prop
def PIE (X:Cx)(pins:List (Addr × Obj))(σ:St)(tg:Expr)(R:It->Hp->Prop)(itv:Value)(s2:Shared):Prop :=
 ∃ (it:Addr)(fp:List Addr)(tn:Nat->Heap->Prop)(J:It)(H':Hp),itv=.ref it/\Inv X pins σ H' s2/\Turn X.prog X.w X.K tg J fp it tn/\tn 0 s2.heap/\(∀ b∈fp,FpOk X pins H' b)/\R J H'
def PI (X:Cx)(tg iter:Expr)(wi:TI):Prop :=
 ∀ (pins:List (Addr × Obj))(s:Shared)(σ:St)(H:Hp)(R:It->Hp->Prop),Inv X pins σ H s->wi σ H R ->
  wpAny (model X.prog X.w) X.A (eval iter X.env) (λ v s1=>wpAny (model X.prog X.w) X.A (pyIter v) (PIE X pins σ tg R) X.xe s1) X.xe s
theorem zrj {M:Model}{A:Around}{E:Value->Shared->Prop}{s:Shared}{tg:Expr}{it:Addr}{u:Value}{o:Obj}{n:String}{vs:Array Value}{Q:Unit->Shared->Prop}(ho:s.heap.get? it=some o)(hc:o.cls=.type n)(hd:o.data=.fields vs)
  (hn:["enumerate","zip","dict_itemiterator","dict_reverseitemiterator","odict_iterator","itertools.zip_longest","itertools.pairwise"].contains n=false) (hQ:Q () s):wpAny M A (letOwnedTupleGo tg (.ref it) u) Q E s:=by
 unfold letOwnedTupleGo
 cases tg <;> first
  | exact uah hQ
  | (cases u <;> first
      | exact uah hQ
      | (refine uab (wpAny_load ho ?_)
         rw[hc,hd]
         show wpAny M A (if (["enumerate","zip","dict_itemiterator","dict_reverseitemiterator","odict_iterator","itertools.zip_longest","itertools.pairwise"].contains n&&vs[0]?==some (rawInt _))=true then _ else _) Q E s
         rw[if_neg (by intro h;rw[hn,ugu] at h;cases h)]
         exact uah hQ))
def Itl (K:uac)(a:Addr):It :=
 ⟨λ i H=>∃ xs x,SqL K H a xs/\xs[i]?=some x,λ i H x H'=>H'=H/\∀ xs,SqL K H a xs->xs[i]?=some x,λ i H=>∃ xs,SqL K H a xs/\xs.length<=i⟩
def Itt (K:uac)(a:Addr):It :=
 ⟨λ i H=>∃ xs x,SqT K H a xs/\xs[i]?=some x,λ i H x H'=>H'=H/\∀ xs,SqT K H a xs->xs[i]?=some x,λ i H=>∃ xs,SqT K H a xs/\xs.length<=i⟩
def Itr (lo:Int)(n:Nat):It:=⟨λ i _=>i<n,λ i H x H'=>H'=H/\x=.int (lo+i),λ i _=>n<=i⟩
theorem zni {P:Program}{w:World}{K:uac}{tg:Expr}(a it:Addr):Turn P w K tg (Itl K a) [it] it (λ i h=>h.IsListIter it a i) where
 mem:=by simp
 obj:=λ i h st b hb=>by
  have e:b=it:=by simpa using hb
  subst e
  obtain⟨o,e,c,d⟩:=st
  exact⟨o,e,λ v z=>by rw[d] at z;cases z⟩
 keep:=λ i h h' st k=>st.at λ o e=>k it (by simp) o e
 item:=by
  intro X hP hw hK hc i pins s σ H E I hf st hg
  subst hP hw hK
  obtain⟨xs,x,hq,hx⟩:=hg
  obtain⟨its,rv,p,hz⟩:=I.list hq
  obtain⟨u,hu,ru⟩:=rv.get hx
  obtain⟨f0,f1,f2,f3,f4,f5⟩:=hf it (by simp)
  refine wpAny_pyNext_list_item st p.isList (x:=u) (by simpa using hu) λ h' st' sb=>?_
  have I1:Inv X pins σ H { s with heap:=h' }:=I.turned (t':=s.toks) (λ b o hb e=>(sb.2 b hb).trans e) f0 f1 f3 f4 f5
  obtain⟨o,e,c,d⟩:=id st'
  exact⟨u,rfl,zrj (s:={ s with heap:=h' }) e c d (by decide) ⟨x,H,I1,ru,⟨rfl,λ ys hy=>by rw[I.list_inj hy hq];exact hx⟩,st',λ b hb=>(hf b hb).1⟩⟩
 done:=by
  intro X hP hw hK hc i pins s σ H E I hf st hg
  subst hP hw hK
  obtain⟨xs,hq,hx⟩:=hg
  obtain⟨its,rv,p,hz⟩:=I.list hq
  obtain⟨f0,f1,f2,f3,f4,f5⟩:=hf it (by simp)
  have hl:=rv.length
  exact wpAny_pyNext_list_end (I.ok.hd hc) st p.isList (by simp;left) λ h' eb=>⟨rfl,I.turned (t':=s.toks) (λ b o hb e=>eb b o hb e) f0 f1 f3 f4 f5⟩
 self:=λ _ _ _ _ _ st h=>wpAny_pyIter_listiter st h
theorem zmk {P:Program}{w:World}{K:uac}{tg:Expr}(a it:Addr):Turn P w K tg (Itt K a) [it] it (λ i h=>h.IsTupleIter it a i) where
 mem:=by simp
 obj:=λ i h st b hb=>by
  have e:b=it:=by simpa using hb
  subst e
  obtain⟨o,e,c,d⟩:=st
  exact⟨o,e,λ v z=>by rw[d] at z;cases z⟩
 keep:=λ i h h' st k=>st.at λ o e=>k it (by simp) o e
 item:=by
  intro X hP hw hK hc i pins s σ H E I hf st hg
  subst hP hw hK
  obtain⟨xs,x,hq,hx⟩:=hg
  obtain⟨its,rv,p,hz⟩:=I.tuple hq
  obtain⟨u,hu,ru⟩:=rv.get hx
  obtain⟨f0,f1,f2,f3,f4,f5⟩:=hf it (by simp)
  refine wpAny_pyNext_tuple_item st (show s.heap.IsTuple a its.toArray from p) (x:=u) (by simpa using hu) λ h' st' sb=>?_
  have I1:Inv X pins σ H { s with heap:=h' }:=I.turned (t':=s.toks) (λ b o hb e=>(sb.2 b hb).trans e) f0 f1 f3 f4 f5
  obtain⟨o,e,c,d⟩:=id st'
  exact⟨u,rfl,zrj (s:={ s with heap:=h' }) e c d (by decide) ⟨x,H,I1,ru,⟨rfl,λ ys hy=>by rw[I.tuple_inj hy hq];exact hx⟩,st',λ b hb=>(hf b hb).1⟩⟩
 done:=by
  intro X hP hw hK hc i pins s σ H E I hf st hg
  subst hP hw hK
  obtain⟨xs,hq,hx⟩:=hg
  obtain⟨its,rv,p,hz⟩:=I.tuple hq
  obtain⟨f0,f1,f2,f3,f4,f5⟩:=hf it (by simp)
  have hl:=rv.length
  exact wpAny_pyNext_tuple_end (I.ok.hd hc) st (show s.heap.IsTuple a its.toArray from p) (by simp;left) λ h' eb=>⟨rfl,I.turned (t':=s.toks) (λ b o hb e=>eb b o hb e) f0 f1 f3 f4 f5⟩
 self:=λ _ _ _ _ _ st h=>wpAny_pyIter_tupleiter st h
theorem zml {P:Program}{w:World}{K:uac}{tg:Expr}(it:Addr)(lo:Int)(n:Nat):Turn P w K tg (Itr lo n) [it] it (λ i h=>IsRangeIter h it (lo+(i:Nat)*1) ((n:Int)-(i:Nat)) 1) where
 mem:=by simp
 obj:=λ i h st b hb=>by
  have e:b=it:=by simpa using hb
  subst e
  exact⟨_,st,λ v z=>by
   have z':Data.fields _=Data.cell v:=z
   cases z'⟩
 keep:=λ i h h' st k=>k it (by simp) _ st
 item:=by
  intro X hP hw hK hc i pins s σ H E I hf st hg
  subst hP hw hK
  obtain⟨f0,f1,f2,f3,f4,f5⟩:=hf it (by simp)
  have W:=Walks.range (prog:=X.prog) (w:=X.w) (I.ok.hd hc) it lo 1 n
  refine W.item i s _ _ hg st λ v h' tk hv st' kk=>?_
  obtain⟨t,rfl⟩:=hv
  have I1:Inv X pins σ H { s with heap:=h',toks:=tk }:=I.turned (λ b o hb e=>kk b o (by simpa using hb) e) f0 f1 f3 f4 f5
  refine⟨_,rfl,zrj (s:={ s with heap:=h',toks:=tk }) (n:="range_iterator") st' rfl rfl (by decide) ⟨.int (lo+i),H,I1,⟨t,?_⟩,⟨rfl,rfl⟩,st',λ b hb=>(hf b hb).1⟩⟩
  rw[Int.mul_one]
 done:=by
  intro X hP hw hK hc i pins s σ H E I hf st hg
  subst hP hw hK
  obtain⟨f0,f1,f2,f3,f4,f5⟩:=hf it (by simp)
  exact wpAny_pyNext_range_end (I.ok.hd hc) st (by have:n<=i:=hg;left) λ h' eb=>⟨rfl,I.turned (t':=s.toks) (λ b o hb e=>eb b o hb e) f0 f1 f3 f4 f5⟩
 self:=λ _ _ _ _ _ st h=>wpAny_pyIter_rangeiter st h
end L2
namespace L2
open PySem PySem.Spec PyProof.Rows
section
variable {X:Cx}{tg:Expr}
def iList (K:uac)(tl:TE):TI:=λ σ H R=>tl σ H λ x H1=>ERef x λ a=>(∃ xs,SqL K H1 a xs)/\R (Itl K a) H1
def iTup (K:uac)(tl:TE):TI:=λ σ H R=>tl σ H λ x H1=>ERef x λ a=>(∃ xs,SqT K H1 a xs)/\R (Itt K a) H1
theorem zda {l:Expr}{tl:TE}(hl:PE X l tl):PI X tg l (iList X.K tl):=by
 intro pins s σ H R I h
 refine thn (hl pins s σ H _ I h) λ v s1 ⟨x,H1,I1,r1,q1⟩=>?_
 obtain⟨a,e,⟨xs,hq⟩,q⟩:=q1
 subst e
 cases r1
 obtain⟨its,rv,p,hz⟩:=I1.list hq
 refine uct p.isList ?_
 refine⟨s1.heap.objs.size,[s1.heap.objs.size],_,_,H1,rfl,I1.kept (t':=s1.toks) λ b o e=>Heap.get?_push_of_some _ e,zni a _,⟨_,Heap.get?_push_size _ rfl,rfl,rfl⟩,λ b hb=>?_,q⟩
 have e:b=s1.heap.objs.size:=by simpa using hb
 subst e
 exact I1.fpOk (uai _) (I1.hok.fresh (uai _))
theorem zb0 {l:Expr}{tl:TE}(hl:PE X l tl):PI X tg l (iTup X.K tl):=by
 intro pins s σ H R I h
 refine thn (hl pins s σ H _ I h) λ v s1 ⟨x,H1,I1,r1,q1⟩=>?_
 obtain⟨a,e,⟨xs,hq⟩,q⟩:=q1
 subst e
 cases r1
 obtain⟨its,rv,p,hz⟩:=I1.tuple hq
 refine uev (show s1.heap.IsTuple a its.toArray from p) ?_
 refine⟨s1.heap.objs.size,[s1.heap.objs.size],_,_,H1,rfl,I1.kept (t':=s1.toks) λ b o e=>Heap.get?_push_of_some _ e,zmk a _,⟨_,Heap.get?_push_size _ rfl,rfl,rfl⟩,λ b hb=>?_,q⟩
 have e:b=s1.heap.objs.size:=by simpa using hb
 subst e
 exact I1.fpOk (uai _) (I1.hok.fresh (uai _))
theorem zqx {pins:List (Addr × Obj)}{σ:St}{H:Hp}{s:Shared}{R:It->Hp->Prop}{E:Value->Shared->Prop}{lo hi:Int}{t u v:Tok}{tk:Nat}(I:Inv X pins σ H s)(h1:-(2^62)<=lo)(h2:lo<2^62)(h3:-(2^62)<=hi)(h4:hi<2^62)
  (q:R (Itr lo (hi-lo).toNat) H):wpAny (model X.prog X.w) X.A (pyIter (.ref s.heap.objs.size)) (PIE X pins σ tg R) E { s with heap:=s.heap.push { cls:=.type "range",data:=.fields #[.int lo t,.int hi u,.int 1 v] },toks:=tk }:=by
 refine wpAny_pyIter_range (IsRange.new ..) (small_one h1 h2 h3 h4) ?_
 have I1:Inv X pins σ H { s with heap:=s.heap.push { cls:=.type "range",data:=.fields #[.int lo t,.int hi u,.int 1 v] },toks:=tk }:=I.kept λ b o e=>Heap.get?_push_of_some _ e
 refine⟨(s.heap.push { cls:=.type "range",data:=.fields #[.int lo t,.int hi u,.int 1 v] }).objs.size,[(s.heap.push { cls:=.type "range",data:=.fields #[.int lo t,.int hi u,.int 1 v] }).objs.size],_,_,H,rfl,
  I1.kept (t':=tk) λ b o e=>Heap.get?_push_of_some _ e,zml _ lo (hi-lo).toNat,?_,λ b hb=>?_,q⟩
 ·have e1:lo+((0:Nat):Int)*1=lo:=by simp
  have e2:(((hi-lo).toNat:Nat):Int)-((0:Nat):Int)=Builtin.Range.rangeSize lo hi 1:=by rw[rangeSize_one];split <;> left
  show IsRangeIter _ _ (lo+((0:Nat):Int)*1) ((((hi-lo).toNat:Nat):Int)-((0:Nat):Int)) 1
  rw[e1,e2]
  exact Heap.get?_push_size _ rfl
 ·have e:b=(s.heap.push { cls:=.type "range",data:=.fields #[.int lo t,.int hi u,.int 1 v] }).objs.size:=by simpa using hb
  subst e
  exact I1.fpOk (uai _) (I1.hok.fresh (uai _))
def iRng1 (ta:TA):TI:=λ σ H R=>ta σ H λ vs H1=>EOne vs λ j=>-(2^62)<=j/\j<2^62/\R (Itr 0 j.toNat) H1
theorem zbs {a:Expr}{ta:TA}{p pos:Pos}(hg:Gl X "range")(hm:X.mg "range"=none)(ha:PA X [a] ta)(hs:starEach [a] X.env=[(false,eval a X.env)]:=by rfl):PI X tg (.Call (.Name "range" p) [a] [] pos) (iRng1 ta):=by
 intro pins s σ H R I h
 refine Call_ (zfb I hg hm boot_range (udh (thn (ha pos pins s σ H _ I h) λ us s1 ⟨vs,H1,I1,r1,q1⟩=>?_) hs rfl))
 obtain⟨j,e,q1,q2,q⟩:=q1
 subst e
 cases r1 with
 | cons r rr =>
  cases rr
  obtain⟨t,rfl⟩:=r
  exact call_range_1 (zqx I1 (by left) (by left) q1 q2 (by simpa using q))
def tFor (wi:TI)(g:TG)(tb:TS):TS:=λ D σ H=>wi σ H λ J H1=>∃ W:Nat->Nat->St->Hp->Prop,(∃ m,W 0 m σ H1)/\∀ i m σ H,W i m σ H ->
 (J.stop i H/\D.nx σ H)\/(J.go i H/\∃ N:St->Hp->Prop,(∀ σ' H',N σ' H'->∃ m',m'<m/\W (i+1) m' σ' H')/\∀ x H',J.yld i H x H'->g x σ H' λ σ2 H2=>tb { D with nx:=N,ct:=N,bk:=D.nx } σ2 H2)
def pinsAt (fp:List Addr)(h:Heap):List (Addr × Obj):=fp.filterMap λ b=>(h.get? b).map λ o=>(b,o)
theorem zcu {fp:List Addr}{h:Heap}{b:Addr}{o:Obj}(hb:b∈fp)(e:h.get? b=some o):(b,o)∈pinsAt fp h:=udo.mpr ⟨b,hb,by rw[e];rfl⟩
theorem zoh {fp:List Addr}{h:Heap}{p:Addr × Obj}(hp:p∈pinsAt fp h):p.1∈fp/\h.get? p.1=some p.2:=by
 obtain⟨b,hb,e⟩:=udo.mp hp
 cases q:h.get? b with
 | none=>rw[q] at e;cases e
 | some o =>
  rw[q] at e
  have e':(b,o)=p:=ubj e
  subst e'
  exact⟨hb,q⟩
theorem Inv.pinned {pins:List (Addr × Obj)}{σ:St}{H:Hp}{s:Shared}{fp:List Addr}(I:Inv X pins σ H s)(hf:∀ b∈fp,FpOk X pins H b)(ho:∀ b∈fp,∃ o,s.heap.get? b=some o/\∀ v,o.data≠.cell v):Inv X (pins++pinsAt fp s.heap) σ H s :=
 I.pins_of λ p hp=>(ubp.mp hp).elim (λ z=>I.pin p (ua8 _ z)) λ z=>by
  obtain⟨hb,e⟩:=zoh z
  obtain⟨f0,f1,f2,_⟩:=hf p.1 hb
  obtain⟨o,e',d⟩:=ho p.1 hb
  rw[e] at e';cases e'
  exact⟨e,f0,f1,f2,d⟩
theorem Inv.unpinned {pins pl:List (Addr × Obj)}{σ:St}{H:Hp}{s:Shared}(I:Inv X (pins++pl) σ H s):Inv X pins σ H s:=I.pins_of λ p hp=>I.pin p (ua8 _ (ucn _ hp))
theorem zb5 {iter:Expr}{body:List Stmt}{wi:TI}{g:TG}{tb:TS}{pos:Pos}(hp:PassesOwn (model X.prog X.w) X.A X.env X.xe)(hc:X.calm=true)(hi:PI X tg iter wi)(hg:PG X tg g)(hb:PSs X body tb)
  (hs:∀ x,foldedSetIterable iter X.env x=pure x:=by intro _;rfl):PS X (.For tg iter body [] pos) (tFor wi g tb):=by
 intro pins s σ H D I h
 refine wpAny_For (thn (hi pins s σ H _ I h) λ v s1 h1=>thn h1 λ itv s2 h2=>?_) hs
 obtain⟨it,fp,tn,J,H2,e,I2,T,st2,f2,W,⟨m0,w0⟩,turn⟩:=h2
 subst e
  -- what stays true of the iterator's objects through the loop
 have stat:∀ {H':Hp},(∀ b∈fp,H' b=none)->∀ b∈fp,FpOk X pins H' b:=λ hn b hb=>⟨hn b hb,(f2 b hb).2⟩
 refine codeAny_forLoop_any (λ n s'=>∃ i σ' H',Inv X pins σ' H' s'/\tn i s'.heap/\(∀ b∈fp,H' b=none)/\W i n σ' H') ?_ m0 ⟨0,σ,H2,I2,st2,λ b hb=>(f2 b hb).1,w0⟩
 rintro n s3 ⟨i,σ3,H3,I3,st3,fr3,w3⟩
 rcases turn i n σ3 H3 w3 with ⟨stop,qn⟩ | ⟨go,N,hN,step⟩
 ·refine udu hp (thn (T.done X rfl rfl rfl hc i pins s3 σ3 H3 X.xe I3 (stat fr3) st3 stop) λ r s4 ⟨hr,I4⟩=>?_)
  subst hr
  exact ufg ⟨σ3,H3,I4,qn⟩
 ·refine udu hp (thn (T.item X rfl rfl rfl hc i pins s3 σ3 H3 X.xe I3 (stat fr3) st3 go) λ r s4 ⟨u,hr,h4⟩=>?_)
  subst hr
  refine udu hp (thn h4 λ _ s5 ⟨x,H5,I5,r5,y5,st5,fr5⟩=>?_)
  have I5':=I5.pinned (stat fr5) (T.obj _ _ st5)
  refine udu hp (thn (hg _ s5 σ3 H5 x u _ I5' r5 (step x H5 y5)) λ _ s6 ⟨σ6,H6,I6,q6⟩=>?_)
  refine udu hp (thn (hb _ s6 σ6 H6 _ I6 q6) λ f s7 q7=>?_)
  have again:∀ {σ7:St}{H7:Hp},Inv X (pins++pinsAt fp s5.heap) σ7 H7 s7->N σ7 H7->∃ m,m<n/\∃ i σ' H',Inv X pins σ' H' s7/\tn i s7.heap/\(∀ b∈fp,H' b=none)/\W i m σ' H':=λ {σ7 H7} I7 n7=>by
   obtain⟨m',hm,w7⟩:=hN σ7 H7 n7
   refine⟨m',hm,i+1,σ7,H7,I7.unpinned,T.keep _ _ _ st5 λ b hb o e=>(I7.pin (b,o) (ua8 _ (ua8 _ (zcu hb e)))).1,λ b hb=>?_,w7⟩
   obtain⟨o,e,d⟩:=T.obj _ _ st5 b hb
   exact (I7.pin (b,o) (ua8 _ (ua8 _ (zcu hb e)))).2.1
  cases f with
  | next=>obtain⟨σ7,H7,I7,n7⟩:=q7;exact again I7 n7
  | cont=>obtain⟨σ7,H7,I7,n7⟩:=q7;exact again I7 n7
  | brk=>obtain⟨σ7,H7,I7,q7⟩:=q7;exact⟨σ7,H7,I7.unpinned,q7⟩
  | ret v=>obtain⟨x7,σ7,H7,I7,r7,q7⟩:=q7;exact⟨x7,σ7,H7,I7.unpinned,r7,q7⟩
end
theorem zhv {K:uac}{a:Addr}{xs:List V}{g:TG}{tb:TS}{D:Ends}{σ:St}{H:Hp}(Pv:Nat->St->Hp->Prop)(h0:Pv 0 σ H)(hl:∀ i σ H,i<=xs.length->Pv i σ H->SqL K H a xs)
  (hs:∀ i x σ H,xs[i]?=some x->Pv i σ H->g x σ H λ σ2 H2=>tb { D with nx:=Pv (i+1),ct:=Pv (i+1),bk:=D.nx } σ2 H2) (hd:∀ σ H,Pv xs.length σ H->D.nx σ H) :
  ∃ W:Nat->Nat->St->Hp->Prop,(∃ m,W 0 m σ H)/\∀ i m σ H,W i m σ H ->
   ((Itl K a).stop i H/\D.nx σ H)\/((Itl K a).go i H/\∃ N:St->Hp->Prop,(∀ σ' H',N σ' H'->∃ m',m'<m/\W (i+1) m' σ' H')/\∀ x H',(Itl K a).yld i H x H'->g x σ H' λ σ2 H2=>tb { D with nx:=N,ct:=N,bk:=D.nx } σ2 H2):=by
 refine⟨λ i m σ H=>m=xs.length-i/\i<=xs.length/\Pv i σ H,⟨xs.length,by simp,ube _,h0⟩,?_⟩
 rintro i m σ H ⟨rfl,hi,p⟩
 have q:=hl i σ H hi p
 by_cases hlt:i<xs.length
 ·refine .inr ⟨⟨xs,xs[i],q,by simp [hlt]⟩,Pv (i+1),λ σ' H' p'=>⟨xs.length-(i+1),by left,rfl,hlt,p'⟩,λ x H' y=>?_⟩
  obtain⟨e,y⟩:=y
  subst e
  exact hs i x σ _ (y xs q) p
 ·have e:i=xs.length:=by left
  subst e
  exact .inl ⟨⟨xs,q,uai _⟩,hd σ H p⟩
theorem zfg {K:uac}{a:Addr}{xs:List V}{g:TG}{tb:TS}{D:Ends}{σ:St}{H:Hp}(Pv:Nat->St->Hp->Prop)(h0:Pv 0 σ H)(hl:∀ i σ H,i<=xs.length->Pv i σ H->SqT K H a xs)
  (hs:∀ i x σ H,xs[i]?=some x->Pv i σ H->g x σ H λ σ2 H2=>tb { D with nx:=Pv (i+1),ct:=Pv (i+1),bk:=D.nx } σ2 H2) (hd:∀ σ H,Pv xs.length σ H->D.nx σ H) :
  ∃ W:Nat->Nat->St->Hp->Prop,(∃ m,W 0 m σ H)/\∀ i m σ H,W i m σ H ->
   ((Itt K a).stop i H/\D.nx σ H)\/((Itt K a).go i H/\∃ N:St->Hp->Prop,(∀ σ' H',N σ' H'->∃ m',m'<m/\W (i+1) m' σ' H')/\∀ x H',(Itt K a).yld i H x H'->g x σ H' λ σ2 H2=>tb { D with nx:=N,ct:=N,bk:=D.nx } σ2 H2):=by
 refine⟨λ i m σ H=>m=xs.length-i/\i<=xs.length/\Pv i σ H,⟨xs.length,by simp,ube _,h0⟩,?_⟩
 rintro i m σ H ⟨rfl,hi,p⟩
 have q:=hl i σ H hi p
 by_cases hlt:i<xs.length
 ·refine .inr ⟨⟨xs,xs[i],q,by simp [hlt]⟩,Pv (i+1),λ σ' H' p'=>⟨xs.length-(i+1),by left,rfl,hlt,p'⟩,λ x H' y=>?_⟩
  obtain⟨e,y⟩:=y
  subst e
  exact hs i x σ _ (y xs q) p
 ·have e:i=xs.length:=by left
  subst e
  exact .inl ⟨⟨xs,q,uai _⟩,hd σ H p⟩
theorem zcn {lo:Int}{n:Nat}{g:TG}{tb:TS}{D:Ends}{σ:St}{H:Hp}(Pv:Nat->St->Hp->Prop)(h0:Pv 0 σ H)
  (hs:∀ i σ H,i<n->Pv i σ H->g (.int (lo+i)) σ H λ σ2 H2=>tb { D with nx:=Pv (i+1),ct:=Pv (i+1),bk:=D.nx } σ2 H2) (hd:∀ σ H,Pv n σ H->D.nx σ H) :
  ∃ W:Nat->Nat->St->Hp->Prop,(∃ m,W 0 m σ H)/\∀ i m σ H,W i m σ H ->
   ((Itr lo n).stop i H/\D.nx σ H)\/((Itr lo n).go i H/\∃ N:St->Hp->Prop,(∀ σ' H',N σ' H'->∃ m',m'<m/\W (i+1) m' σ' H')/\∀ x H',(Itr lo n).yld i H x H'->g x σ H' λ σ2 H2=>tb { D with nx:=N,ct:=N,bk:=D.nx } σ2 H2):=by
 refine⟨λ i m σ H=>m=n-i/\i<=n/\Pv i σ H,⟨n,by simp,ube _,h0⟩,?_⟩
 rintro i m σ H ⟨rfl,hi,p⟩
 by_cases hlt:i<n
 ·refine .inr ⟨hlt,Pv (i+1),λ σ' H' p'=>⟨n-(i+1),by left,rfl,hlt,p'⟩,λ x H' y=>?_⟩
  obtain⟨e,y⟩:=y
  subst e y
  exact hs i σ _ hlt p
 ·have e:i=n:=by left
  subst e
  exact .inl ⟨uai _,hd σ H p⟩
end L2
namespace L2
open PySem PySem.Spec PyProof.Rows
abbrev R2:=V->V->Hp->VK->Prop
def OpR (X:Cx)(f:Value->Value->Sem Value)(r:R2):Prop :=
 ∀ (pins:List (Addr × Obj))(s:Shared)(σ:St)(H:Hp)(x y:V)(v u:Value)(Q:VK),Inv X pins σ H s->RelV x v->RelV y u->r x y H Q ->
  wpAny (model X.prog X.w) X.A (f v u) (EP X pins σ Q) X.xe s
def UnR (X:Cx)(f:Value->Sem Value)(r:V->Hp->VK->Prop):Prop :=
 ∀ (pins:List (Addr × Obj))(s:Shared)(σ:St)(H:Hp)(x:V)(v:Value)(Q:VK),Inv X pins σ H s->RelV x v->r x H Q ->
  wpAny (model X.prog X.w) X.A (f v) (EP X pins σ Q) X.xe s
def CallR (X:Cx)(f:Value)(r:List V->Hp->VK->Prop):Prop :=
 ∀ (pins:List (Addr × Obj))(s:Shared)(σ:St)(H:Hp)(xs:List V)(us:List Value)(Q:VK),Inv X pins σ H s->Vals xs us->r xs H Q ->
  wpAny (model X.prog X.w) X.A (call f us) (EP X pins σ Q) X.xe s
def tOp (r:R2)(ta tb:TE):TE:=λ σ H Q=>ta σ H λ x H1=>tb σ H1 λ y H2=>r x y H2 Q
def tUn (r:V->Hp->VK->Prop)(ta:TE):TE:=λ σ H Q=>ta σ H λ x H1=>r x H1 Q
inductive rI_i (C:Int->Int->Prop)(g:Int->Int->V)(x:V)(y:V)(H:Hp)(Q:VK):Prop
 | mk:∀ i j,(x=.int i)->(y=.int j)->(C i j)->(Q (g i j) H)->rI_i C g x y H Q
def rI (C:Int->Int->Prop)(g:Int->Int->V):R2:=λ x y H Q=>rI_i C g x y H Q
inductive rI0_i (g:Int->Int->V)(x:V)(y:V)(H:Hp)(Q:VK):Prop
 | mk:∀ i j,(x=.int i)->(y=.int j)->(Q (g i j) H)->rI0_i g x y H Q
def rI0 (g:Int->Int->V):R2:=λ x y H Q=>rI0_i g x y H Q
inductive rU_i (g:Int->V)(x:V)(H:Hp)(Q:VK):Prop
 | mk:∀ i,(x=.int i)->(Q (g i) H)->rU_i g x H Q
def rU (g:Int->V):V->Hp->VK->Prop:=λ x H Q=>rU_i g x H Q
section
variable {X:Cx}{a b c:Expr}{ta tb tc:TE}{pos:Pos}
theorem binT (ha:PE X a ta)(hb:PE X b tb){pins:List (Addr × Obj)}{s:Shared}{σ:St}{H:Hp}{R:V->V->Hp->Prop}(I:Inv X pins σ H s)
  (h:ta σ H λ x H1=>tb σ H1 λ y H2=>R x y H2) {Q:Value->Shared->Prop} {f:Value->Value->Sem Value}
  (hf:∀ v u s2 x y H2,Inv X pins σ H2 s2->RelV x v->RelV y u->R x y H2->wpAny (model X.prog X.w) X.A (f v u) Q X.xe s2) :
  wpAny (model X.prog X.w) X.A (eval a X.env) (λ v s₁=>wpAny (model X.prog X.w) X.A (eval b X.env) (λ u s₂=>wpAny (model X.prog X.w) X.A (f v u) Q X.xe s₂) X.xe s₁) X.xe s:=by
 refine thn (ha pins s σ H _ I h) λ v s1 ⟨x,H1,I1,r1,q1⟩=>?_
 refine thn (hb pins s1 σ H1 _ I1 q1) λ u s2 ⟨y,H2,I2,r2,q2⟩=>?_
 exact hf v u s2 x y H2 I2 r1 r2 q2
theorem zax {op:Operator}{r:R2}(ho:OpR X (binaryOp op) r)(ha:PE X a ta)(hb:PE X b tb):PE X (.BinOp a op b pos) (tOp r ta tb):=by
 intro pins s σ H Q I h
 exact wpAny_BinOp (binT ha hb I h λ v u s2 x y H2 I2 rx ry q=>ho pins s2 σ H2 x y v u Q I2 rx ry q)
theorem zft {op:UnaryOp}{r:V->Hp->VK->Prop}(ho:UnR X (unaryOp op) r)(ha:PE X a ta):PE X (.UnaryOp op a pos) (tUn r ta):=by
 intro pins s σ H Q I h
 exact UnaryOp_ (thn (ha pins s σ H _ I h) λ v s1 ⟨x,H1,I1,r1,q1⟩=>ho pins s1 σ H1 x v Q I1 r1 q1)
theorem opI {f:Value->Value->Sem Value}{C:Int->Int->Prop}{g:Int->Int->Int}
  (rule:∀ (i j:Int)(t u:Tok)(s:Shared)(Q:Value->Shared->Prop)(E:Value->Shared->Prop),C i j->Q (.int (g i j) s.toks) { s with toks:=s.toks+1 }->wpAny (model X.prog X.w) X.A (f (.int i t) (.int j u)) Q E s) :
  OpR X f (rI C λ i j=>.int (g i j)):=by
 intro pins s σ H x y v u Q I rx ry h
 obtain⟨i,j,rfl,rfl,hc,q⟩:=h
 obtain⟨t,rfl⟩:=rx
 obtain⟨t',rfl⟩:=ry
 exact rule i j t t' s _ _ hc ⟨.int (g i j),H,I.tok _,⟨_,rfl⟩,q⟩
theorem opI0 {f:Value->Value->Sem Value}{g:Int->Int->Int}
  (rule:∀ (i j:Int)(t u:Tok)(s:Shared)(Q:Value->Shared->Prop)(E:Value->Shared->Prop),Q (.int (g i j) s.toks) { s with toks:=s.toks+1 }->wpAny (model X.prog X.w) X.A (f (.int i t) (.int j u)) Q E s) :
  OpR X f (rI0 λ i j=>.int (g i j)):=by
 intro pins s σ H x y v u Q I rx ry h
 obtain⟨i,j,rfl,rfl,q⟩:=h
 obtain⟨t,rfl⟩:=rx
 obtain⟨t',rfl⟩:=ry
 exact rule i j t t' s _ _ ⟨.int (g i j),H,I.tok _,⟨_,rfl⟩,q⟩
theorem opB0 {f:Value->Value->Sem Value}{g:Int->Int->Bool}
  (rule:∀ (i j:Int)(t u:Tok)(s:Shared)(Q:Value->Shared->Prop)(E:Value->Shared->Prop),Q (.bool (g i j)) s->wpAny (model X.prog X.w) X.A (f (.int i t) (.int j u)) Q E s) :
  OpR X f (rI0 λ i j=>.bl (g i j)):=by
 intro pins s σ H x y v u Q I rx ry h
 obtain⟨i,j,rfl,rfl,q⟩:=h
 obtain⟨t,rfl⟩:=rx
 obtain⟨t',rfl⟩:=ry
 exact rule i j t t' s _ _ ⟨.bl (g i j),H,I,rfl,q⟩
def CDiv (i j:Int):Prop:=0<j/\j<1073741824
def CPow (i j:Int):Prop:=0<=j/\j<=1000000/\i.natAbs<2^64
def CMul (i j:Int):Prop:=(-(2^64)<i/\i<2^64)\/(-(2^64)<j/\j<2^64)
theorem CMul.ok {i j:Int}(h:CMul i j):IntMulOk i j:=by
 rcases h with ⟨h1,h2⟩ | ⟨h1,h2⟩
 ·exact .of_left (intBits_le_64 h1 h2)
 ·exact .of_right (intBits_le_64 h1 h2)
theorem zbt:OpR X (binaryOp .Add) (rI0 λ i j=>.int (i+j)):=opI0 λ _ _ _ _ _ _ _ q=>add_int q
theorem zc7:OpR X (binaryOp .Sub) (rI0 λ i j=>.int (i-j)):=opI0 λ _ _ _ _ _ _ _ q=>sub_int q
theorem zce:OpR X (binaryOp .Mult) (rI CMul λ i j=>.int (i*j)):=opI λ _ _ _ _ _ _ _ hc q=>mul_int q hc.ok
theorem zof:OpR X (binaryOp .FloorDiv) (rI CDiv λ i j=>.int (i / j)):=opI λ i j _ _ _ _ _ hc q=>by
 have h1:(0:Int)<j:=hc.1
 have h2:j<1073741824:=hc.2
 exact floordiv_int (by left) (by rw[ugs i (by left)];exact q) (.inl (PyProof.noPylong_small (by left)))
theorem zcl:OpR X (binaryOp .Mod) (rI (λ _ j=>0<j) λ i j=>.int (i%j)):=opI λ i j _ _ _ _ _ hc q=>by
 have h1:(0:Int)<j:=hc
 exact mod_int' (by left) (by rw[Int.fmod_eq_emod_of_nonneg i (by left)];exact q)
theorem zcm:OpR X (binaryOp .Pow) (rI CPow λ i j=>.int (i^j.toNat)):=opI λ _ _ _ _ _ _ _ hc q=>pow_int_small hc.1 hc.2.1 hc.2.2 q
theorem unI {f:Value->Sem Value}{g:Int->Int}
  (rule:∀ (i:Int)(t:Tok)(s:Shared)(Q:Value->Shared->Prop)(E:Value->Shared->Prop),Q (.int (g i) s.toks) { s with toks:=s.toks+1 }->wpAny (model X.prog X.w) X.A (f (.int i t)) Q E s) :
  UnR X f (rU λ i=>.int (g i)):=by
 intro pins s σ H x v Q I rx h
 obtain⟨i,rfl,q⟩:=h
 obtain⟨t,rfl⟩:=rx
 exact rule i t s _ _ ⟨.int (g i),H,I.tok _,⟨_,rfl⟩,q⟩
theorem zc5:UnR X (unaryOp .USub) (rU λ i=>.int (-i)):=unI λ _ _ _ _ _ q=>neg_int q
end
def scal:V->V->Bool
 | .non,.non=>true | .non,.int _=>true | .int _,.non=>true | .non,.bl _=>true | .bl _,.non=>true | .non,.str _=>true | .str _,.non=>true
 | .int _,.int _=>true | .bl _,.bl _=>true | .str _,.str _=>true | .byt _,.byt _=>true
 | .int _,.str _=>true | .str _,.int _=>true | .bl _,.str _=>true | .str _,.bl _=>true
 | _,_=>false
def rEq:R2:=λ x y H Q=>scal x y=true/\Q (.bl (decide (x=y))) H
def rNe:R2:=λ x y H Q=>scal x y=true/\Q (.bl (!decide (x=y))) H
theorem zpe {i j:Int}:decide (V.int i=V.int j)=(i==j):=by
 rw[uc4]
 simp
theorem zsf {i j:Bool}:decide (V.bl i=V.bl j)=(i==j):=by
 rw[uc4]
 simp
theorem zpd {i j:Str}:decide (V.str i=V.str j)=(i==j):=by
 rw[uc4]
 simp
theorem zpf {i j:Array UInt8}:decide (V.byt i=V.byt j)=(i.toList==j.toList):=by
 rw[uc4]
 cases i
 cases j
 simp
section
variable {X:Cx}{a b c:Expr}{ta tb tc:TE}{pos:Pos}
theorem za3 {pins:List (Addr × Obj)}{σ:St}{H:Hp}{s:Shared}{Q:VK}{k k':Bool}(I:Inv X pins σ H s)(q:Q (.bl k) H)(e:k=k'):EP X pins σ Q (.bool k') s:=by
 subst e
 exact⟨.bl k,H,I,rfl,q⟩
theorem zcc:OpR X (compareOp .Eq) rEq:=by
 intro pins s σ H x y v u Q I rx ry h
 obtain⟨hs,q⟩:=h
 cases x with
 | non =>
  cases rx
  cases y with
  | non=>cases ry;exact PySem.EqNone.eq_none_none (za3 I q (by simp))
  | bl j=>cases ry;exact PySem.EqNone.eq_none_bool (za3 I q (by simp))
  | int j=>obtain⟨t',rfl⟩:=ry;exact PySem.EqNone.eq_none_int (za3 I q (by simp))
  | str j=>obtain⟨t',rfl⟩:=ry;exact PySem.EqNone.eq_none_str (za3 I q (by simp))
  | _=>exact absurd (show false=true from hs) uau
 | bl i =>
  cases rx
  cases y with
  | non=>cases ry;exact PySem.EqNone.eq_bool_none (za3 I q (by simp))
  | bl j=>cases ry;exact eq_bool (za3 I q zsf)
  | str j=>obtain⟨t',rfl⟩:=ry;exact PySem.EqMixed.eq_bool_str (za3 I q (by simp))
  | _=>exact absurd (show false=true from hs) uau
 | int i =>
  obtain⟨t,rfl⟩:=rx
  cases y with
  | non=>cases ry;exact PySem.EqNone.eq_int_none (za3 I q (by simp))
  | int j=>obtain⟨t',rfl⟩:=ry;exact eq_int (za3 I q zpe)
  | str j=>obtain⟨t',rfl⟩:=ry;exact PySem.EqMixed.eq_int_str (za3 I q (by simp))
  | _=>exact absurd (show false=true from hs) uau
 | str i =>
  obtain⟨t,rfl⟩:=rx
  cases y with
  | non=>cases ry;exact PySem.EqNone.eq_str_none (za3 I q (by simp))
  | bl j=>cases ry;exact PySem.EqMixed.eq_str_bool (za3 I q (by simp))
  | int j=>obtain⟨t',rfl⟩:=ry;exact PySem.EqMixed.eq_str_int (za3 I q (by simp))
  | str j=>obtain⟨t',rfl⟩:=ry;exact eq_str (za3 I q zpd)
  | _=>exact absurd (show false=true from hs) uau
 | byt i =>
  obtain⟨t,rfl⟩:=rx
  cases y with
  | byt j=>obtain⟨t',rfl⟩:=ry;exact PySem.W.eq_bytes (za3 I q zpf)
  | _=>exact absurd (show false=true from hs) uau
 | _=>cases y <;> exact absurd (show false=true from hs) uau
theorem zoc:OpR X (compareOp .NotEq) rNe:=by
 intro pins s σ H x y v u Q I rx ry h
 obtain⟨hs,q⟩:=h
 cases x with
 | non =>
  cases rx
  cases y with
  | non=>cases ry;exact PySem.EqNone.ne_none_none (za3 I q (by simp))
  | bl j=>cases ry;exact PySem.EqNone.ne_none_bool (za3 I q (by simp))
  | int j=>obtain⟨t',rfl⟩:=ry;exact PySem.EqNone.ne_none_int (za3 I q (by simp))
  | str j=>obtain⟨t',rfl⟩:=ry;exact PySem.EqNone.ne_none_str (za3 I q (by simp))
  | _=>exact absurd (show false=true from hs) uau
 | bl i =>
  cases rx
  cases y with
  | non=>cases ry;exact PySem.EqNone.ne_bool_none (za3 I q (by simp))
  | bl j=>cases ry;exact ne_bool (za3 I q (congrArg not zsf))
  | str j=>obtain⟨t',rfl⟩:=ry;exact PySem.EqMixed.ne_bool_str (za3 I q (by simp))
  | _=>exact absurd (show false=true from hs) uau
 | int i =>
  obtain⟨t,rfl⟩:=rx
  cases y with
  | non=>cases ry;exact PySem.EqNone.ne_int_none (za3 I q (by simp))
  | int j=>obtain⟨t',rfl⟩:=ry;exact ne_int (za3 I q (congrArg not zpe))
  | str j=>obtain⟨t',rfl⟩:=ry;exact PySem.EqMixed.ne_int_str (za3 I q (by simp))
  | _=>exact absurd (show false=true from hs) uau
 | str i =>
  obtain⟨t,rfl⟩:=rx
  cases y with
  | non=>cases ry;exact PySem.EqNone.ne_str_none (za3 I q (by simp))
  | bl j=>cases ry;exact PySem.EqMixed.ne_str_bool (za3 I q (by simp))
  | int j=>obtain⟨t',rfl⟩:=ry;exact PySem.EqMixed.ne_str_int (za3 I q (by simp))
  | str j=>obtain⟨t',rfl⟩:=ry;exact ne_str (za3 I q (congrArg not zpd))
  | _=>exact absurd (show false=true from hs) uau
 | byt i =>
  obtain⟨t,rfl⟩:=rx
  cases y with
  | byt j=>obtain⟨t',rfl⟩:=ry;exact PySem.W.ne_bytes (za3 I q (congrArg not zpf))
  | _=>exact absurd (show false=true from hs) uau
 | _=>cases y <;> exact absurd (show false=true from hs) uau
theorem zec:OpR X (compareOp .Lt) (rI0 λ i j=>.bl (decide (i<j))):=opB0 λ _ _ _ _ _ _ _ q=>lt_int q
theorem zha:OpR X (compareOp .LtE) (rI0 λ i j=>.bl (decide (i<=j))):=opB0 λ _ _ _ _ _ _ _ q=>le_int q
theorem zhb:OpR X (compareOp .Gt) (rI0 λ i j=>.bl (decide (j<i))):=opB0 λ _ _ _ _ _ _ _ q=>gt_int q
theorem zb6:OpR X (compareOp .Is) (λ x y H Q=>y=.non/\Q (.bl (decide (x=.non))) H):=by
 intro pins s σ H x y v u Q I rx ry h
 obtain⟨rfl,q⟩:=h
 cases ry
 refine is_none_gen (za3 I q ?_)
 cases x <;> first
  | (cases rx;rfl)
  | (obtain⟨t,rfl⟩:=rx;rfl)
theorem zg9:OpR X (compareOp .IsNot) (λ x y H Q=>y=.non/\Q (.bl (!decide (x=.non))) H):=by
 intro pins s σ H x y v u Q I rx ry h
 obtain⟨rfl,q⟩:=h
 cases ry
 refine isnot_none_gen (za3 I q ?_)
 cases x <;> first
  | (cases rx;rfl)
  | (obtain⟨t,rfl⟩:=rx;rfl)
theorem nomark (b:Expr){op:CmpOp}(h:op≠.In:=by decide)(h2:op≠.NotIn:=by decide):behindInMarks op b=false:=by
 have e1:(op==CmpOp.In)=false:=by cases op <;> first | rfl | exact absurd rfl h
 have e2:(op==CmpOp.NotIn)=false:=by cases op <;> first | rfl | exact absurd rfl h2
 cases b <;> simp [behindInMarks,e1,e2]
theorem za0 {op:CmpOp}{r:R2}(ho:OpR X (compareOp op) r)(ha:PE X a ta)(hb:PE X b tb)(hm:behindInMarks op b=false):PE X (.Compare a [op] [b] pos) (tOp r ta tb):=by
 intro pins s σ H Q I h
 exact wpAny_Compare1 (binT ha hb I h λ v u s2 x y H2 I2 rx ry q=>ho pins s2 σ H2 x y v u Q I2 rx ry q) hm
def tTest (t:TE):TT:=λ σ H Q=>t σ H λ x H'=>EBl x λ k=>Q k H'
theorem zao {op:CmpOp}{r:R2}(ho:OpR X (compareOp op) r)(ha:PE X a ta)(hb:PE X b tb)(hm:behindInMarks op b=false):PT X (.Compare a [op] [b] pos) (tTest (tOp r ta tb)):=by
 intro pins s σ H Q I h
 refine wpAny_isTrue_Compare1 (thn (ha pins s σ H _ I h) λ v s1 ⟨x,H1,I1,r1,q1⟩=>thn (hb pins s1 σ H1 _ I1 q1) λ u s2 ⟨y,H2,I2,r2,q2⟩ =>
  thn (ho pins s2 σ H2 x y v u _ I2 r1 r2 q2) λ c s3 ⟨z,H3,I3,r3,k,e,q3⟩=>?_) hm
 subst e
 cases r3
 exact ub6 ⟨H3,I3,q3⟩
def tChain (r r':R2)(ta tb tc:TE):TE:=λ σ H Q=>ta σ H λ x H1=>tb σ H1 λ y H2=>r x y H2 λ z H3=>EBl z λ k=>(if k=true then tc σ H3 λ w' H4=>r' y w' H4 Q else Q (.bl false) H3)
theorem zls {op op':CmpOp}{r r':R2}(ho:OpR X (compareOp op) r)(ho':OpR X (compareOp op') r')(ha:PE X a ta)(hb:PE X b tb)(hc:PE X c tc)
  (hm:lastMarks [op,op'] [b,c]=false:=by with_unfolding_all rfl):PE X (.Compare a [op,op'] [b,c] pos) (tChain r r' ta tb tc):=by
 intro pins s σ H Q I h
 refine Compare_chain (thn (ha pins s σ H _ I h) λ v s1 ⟨x,H1,I1,r1,q1⟩=>chain_link (thn (hb pins s1 σ H1 _ I1 q1) λ u s2 ⟨y,H2,I2,r2,q2⟩ =>
  thn (ho pins s2 σ H2 x y v u _ I2 r1 r2 q2) λ d s3 ⟨z,H3,I3,r3,k,e,q3⟩=>?_)) hm
 subst e
 cases r3
 refine ub6 ?_
 cases k with
 | false=>exact ite_ff ⟨.bl false,H3,I3,rfl,q3⟩
 | true=>exact ite_tt (chain_last (thn (hc pins s3 σ H3 _ I3 q3) λ w' s4 ⟨z',H4,I4,r4,q4⟩=>ho' pins s4 σ H4 y z' u w' Q I4 r2 r4 q4))
theorem zlq {op op':CmpOp}{r r':R2}(ho:OpR X (compareOp op) r)(ho':OpR X (compareOp op') r')(ha:PE X a ta)(hb:PE X b tb)(hc:PE X c tc)
  (hm:lastMarks [op,op'] [b,c]=false:=by with_unfolding_all rfl):PT X (.Compare a [op,op'] [b,c] pos) (tTest (tChain r r' ta tb tc)):=by
 intro pins s σ H Q I h
 refine isTrue_chain (thn (ha pins s σ H _ I h) λ v s1 ⟨x,H1,I1,r1,q1⟩=>test_link (thn (hb pins s1 σ H1 _ I1 q1) λ u s2 ⟨y,H2,I2,r2,q2⟩ =>
  thn (ho pins s2 σ H2 x y v u _ I2 r1 r2 q2) λ d s3 ⟨z,H3,I3,r3,k,e,q3⟩=>?_)) hm
 subst e
 cases r3
 refine ub6 ?_
 cases k with
 | false =>
  obtain⟨k',e',q'⟩:=q3
  cases e'
  exact ite_ff ⟨H3,I3,q'⟩
 | true =>
  refine ite_tt (test_last (thn (hc pins s3 σ H3 _ I3 q3) λ w' s4 ⟨z',H4,I4,r4,q4⟩=>thn (ho' pins s4 σ H4 y z' u w' _ I4 r2 r4 q4) λ d' s5 ⟨z2,H5,I5,r5,k2,e2,q5⟩=>?_))
  subst e2
  cases r5
  exact ub6 ⟨H5,I5,q5⟩
theorem line63:(sizeLine:Nat)<2^63:=by rw[uc9];decide
theorem vals1 {x:V}{us:List Value}(r:Vals [x] us):∃ u,us=[u]/\RelV x u:=by
 cases r with
 | cons r1 r2=>cases r2;exact⟨_,rfl,r1⟩
theorem vals2 {x y:V}{us:List Value}(r:Vals [x,y] us):∃ u w',us=[u,w']/\RelV x u/\RelV y w':=by
 cases r with
 | cons r1 r2 =>
  cases r2 with
  | cons r3 r4=>cases r4;exact⟨_,_,rfl,r1,r3⟩
theorem zfm (hc:X.calm=true):CallR X (.builtin "max") (λ xs H Q=>∃ i j,xs=[.int i,.int j]/\Q (.int (if j>i then j else i)) H):=by
 intro pins s σ H xs us Q I r h
 obtain⟨i,j,rfl,q⟩:=h
 obtain⟨u,w',rfl,⟨t,rfl⟩,⟨t',rfl⟩⟩:=vals2 r
 refine max_two_ints (I.ok.hd hc) λ h' tk k=>⟨_,H,I.kept k,?_,q⟩
 by_cases hj:j>i
 ·rw[if_pos hj,if_pos hj];exact⟨_,rfl⟩
 ·rw[if_neg hj,if_neg hj];exact⟨_,rfl⟩
inductive call_min2_i  (xs:List V) (H:Hp) (Q:VK):Prop
 | mk:∀ i j,(xs=[.int i,.int j])->(Q (.int (if j<i then j else i)) H)->call_min2_i xs H Q
theorem zfl (hc:X.calm=true):CallR X (.builtin "min") (call_min2_i):=by
 intro pins s σ H xs us Q I r h
 obtain⟨i,j,rfl,q⟩:=h
 obtain⟨u,w',rfl,⟨t,rfl⟩,⟨t',rfl⟩⟩:=vals2 r
 refine min_two_ints (I.ok.hd hc) λ h' tk k=>⟨_,H,I.kept k,?_,q⟩
 by_cases hj:j<i
 ·rw[if_pos hj,if_pos hj];exact⟨_,rfl⟩
 ·rw[if_neg hj,if_neg hj];exact⟨_,rfl⟩
theorem zpv:CallR X (.type "int") (λ xs H Q=>(∃ i,xs=[.int i]/\Q (.int i) H)\/∃ k,xs=[.bl k]/\Q (.int (if k then 1 else 0)) H):=by
 intro pins s σ H xs us Q I r h
 rcases h with ⟨i,rfl,q⟩ | ⟨k,rfl,q⟩
 ·obtain⟨u,rfl,t,rfl⟩:=vals1 r
  exact call_int_int ⟨.int i,H,I,⟨_,rfl⟩,q⟩
 ·obtain⟨u,rfl,r1⟩:=vals1 r
  cases r1
  exact call_int_bool ⟨.int (if k then 1 else 0),H,I.tok _,⟨_,rfl⟩,q⟩
end
end L2
namespace L2
open PySem PySem.Spec PyProof.Rows
structure ObjM (h:Heap)(x dx C:Addr)(mA:Str->Option Value):Prop where
 obj:h.get? x=some (ufx C dx)
 ns:h.Ns1 dx mA
 ne:dx≠x
theorem zop {h:Heap}{dx:Addr}{mA:Str->Option Value}(n:h.Ns1 dx mA):∃ od,h.get? dx=some od/\∀ name,ugb name od=some (mA name):=by
 obtain⟨o,es,ep,ho,hd,hk,_,hm⟩:=n
 refine⟨o,ho,λ name=>?_⟩
 have e:=hm name
 unfold nsFind findBy at e
 rw[← Array.find?_toList] at e
 unfold ugb
 rw[hd]
 dsimp only
 split
 ·rename_i y q
  rw[q] at e
  exact congrArg some e
 ·rename_i q
  rw[q] at e
  have a:es.toList.any (·.refKey)=false:=by
   rw[List.any_eq_false]
   intro y hy
   obtain⟨z,t,hkey⟩:=hk y (Array.mem_toList_iff.mp hy)
   simp [DictEntry.refKey,hkey]
  have a':¬ es.toList.any (·.refKey)=true:=by rw[a];exact uau
  rw[if_neg a']
  exact congrArg some e
theorem ObjM.look {h:Heap}{x dx C:Addr}{mA:Str->Option Value}(I:ObjM h x dx C mA):∃ od,PySem.W.InstAt h x (ufx C dx) C (some od)/\∀ name,ugb name od=some (mA name) :=
 let ⟨od,ho,hl⟩:=zop I.ns
 ⟨od,⟨I.obj,rfl,rfl,ho⟩,hl⟩
section
variable {prog:Program}{w:World}{A:Around}{E:Value->Shared->Prop}{s:Shared}{K:uac}{x dx C f:Addr}{mA:Str->Option Value}{name:Str}{v:Value}
end
theorem RelO.some_of {v:V}{o:Option Value}(r:RelO (some v) o):∃ u,o=some u/\RelV v u:=by
 cases o with
 | none=>exact (show False from r).elim
 | some u=>exact⟨u,rfl,r⟩
section
variable {P:Program}{w:World}{H H':Hp}{h h':Heap}{a C dx:Addr}{fs fs':List (Str × V)}
theorem zti (hok:HOk P w H h)(e:H a=some (.ins C dx fs)):∃ mA,ObjM h a dx C mA/\(∀ f,RelO (fs.lookup f) (mA f))/\PySem.Within mA (fs.map (·.1))/\fs.length<=1000/\H dx=some (.own a):=by
 obtain⟨d,z,ne,ob,mA,n,r,q⟩:=(show ObjOk P w H h a (.ins C dx fs) from hok a _ e)
 exact⟨mA,⟨ob,n,ne⟩,r,q,z,d⟩
end
structure Cls (K:uac)(C:Addr):Prop where
 pg:PySem.W.plainGet K C Str.empty=true
 hd:PySem.W.hasDictIn K C=true
 po:PySem.W.plainOver K C=true
 sa:ugc K (.ref C) "__setattr__"=some (some (.builtin "object.__setattr__"))
theorem Cls.get {K:uac}{C:Addr}(c:Cls K C)(f:Str):PySem.W.plainGet K C f=true:=c.pg
structure Con (K:uac)(C:Addr)(f:Str)(v:V)(u:Value):Prop where
 at_:ugc K (.ref C) f=some (some u)
 rel:RelV v u
 get:PySem.W.specialIn K u "__get__"=some none
 cp:PySem.W.copiedNames.contains f=false
section
variable {X:Cx}{pins:List (Addr × Obj)}{σ:St}{H:Hp}{s:Shared}{a C dx:Addr}{fs:List (Str × V)}{f:Str}{v:V}{A:Around}{E:Value->Shared->Prop}
end
section
variable {X:Cx}{o e value:Expr}{f:Str}{pos pos' tpos:Pos}{ta tv:TE}
end
section
variable {X:Cx}{pins:List (Addr × Obj)}{σ:St}{H:Hp}{s:Shared}{A:Around}{E:Value->Shared->Prop}{Q:Value->Shared->Prop}{c:Value}{b:Bool}
inductive TyOf (K:uac)(H:Hp):V->Value->Prop where
 | non:TyOf K H .non (.type "NoneType")
 | bl (x:Bool):TyOf K H (.bl x) (.type "bool")
 | int (i:Int):TyOf K H (.int i) (.type "int")
 | str (x:Str):TyOf K H (.str x) (.type "str")
 | flt (x:UInt64):TyOf K H (.flt x) (.type "float")
 | lst {a:Addr} {xs:List V} (e:H a=some (.lst xs)):TyOf K H (.ref a) (.type "list")
 | frz {a:Addr} {o:Obj} {xs:List V} (e:H a=some (.frz o (.lst xs))):TyOf K H (.ref a) (.type "list")
 | tup {a:Addr} {xs:List V} (e:H a=some (.tup xs)):TyOf K H (.ref a) (.type "tuple")
 | dK {a:Addr} {kvs:List (Key × V)} (e:H a=some (.dK kvs)):TyOf K H (.ref a) (.type "dict")
 | dT {a:Addr} {kvs:List (List Key × V)} (e:H a=some (.dT kvs)):TyOf K H (.ref a) (.type "dict")
 | ins {a C dx : Addr} {fs : List (Str × V)} (e : H a = some (.ins C dx fs)) (cl : Cls K C) (ha : ugc K (.ref C) "__class__" = some (some (.builtin "object.__class__")))
     (hn:PySem.W.specialIn K (.builtin "object.__class__") "__get__"=some (some (.builtin "getset_descriptor.__get__"))) (htk:PySem.W.takesIn K (.builtin "object.__class__")=some true)
     (hm:PySem.W.mroIn K C (.type "object")=some true):TyOf K H (.ref a) (.ref C)
theorem zo0 {x:V}{u t:Value}(I:Inv X pins σ H s)(rx:RelV x u)(ty:TyOf X.K H x t)(e:PySem.W.kitOne X.K t c=some b)(h:∀ tk,Q (.bool b) { s with toks:=tk }) :
  wpAny (model X.prog X.w) A (call (.builtin "isinstance") [u,c]) Q E s:=by
 cases ty with
 | non=>cases (show u=Value.none from rx);exact uck PySem.W.kitx_none I.kIn True.intro e (λ z=>nomatch z) h
 | bl y=>cases (show u=Value.bool y from rx);exact uck PySem.W.kitx_bool I.kIn True.intro e (λ z=>nomatch z) h
 | int i=>obtain⟨t,q⟩:=(show ∃ t,u=Value.int i t from rx);cases q;exact uck PySem.W.kitx_int I.kIn True.intro e (λ z=>nomatch z) h
 | str y=>obtain⟨t,q⟩:=(show ∃ t,u=Value.str y t from rx);cases q;exact uck PySem.W.kitx_str I.kIn True.intro e (λ z=>nomatch z) h
 | flt y=>obtain⟨t,q⟩:=(show ∃ t,u=Value.float y t from rx);cases q;exact uck PySem.W.kitx_float I.kIn True.intro e (λ z=>nomatch z) h
 | @lst a xs ea =>
  cases (show u=Value.ref a from rx)
  obtain⟨_,_,n,_,h1⟩:=(show ObjOk X.prog X.w H s.heap a (.lst xs) from I.hok a _ ea)
  exact uck PySem.W.kitx_list I.kIn ⟨_,h1,rfl⟩ e (λ z=>nomatch z) h
 | @frz a ob xs ea =>
  cases (show u=Value.ref a from rx)
  obtain⟨_,_,_,n,_,h1⟩:=(show ObjOk X.prog X.w H s.heap a (.frz ob (.lst xs)) from I.hok a _ ea)
  exact uck PySem.W.kitx_list I.kIn ⟨_,h1,rfl⟩ e (λ z=>nomatch z) h
 | @tup a xs ea =>
  cases (show u=Value.ref a from rx)
  obtain⟨_,_,_,p⟩:=(show ObjOk X.prog X.w H s.heap a (.tup xs) from I.hok a _ ea)
  obtain⟨o,h1,h2,_⟩:=p
  exact uck PySem.W.kitx_tuple I.kIn ⟨o,h1,h2⟩ e (λ z=>nomatch z) h
 | @dK a kvs ea =>
  cases (show u=Value.ref a from rx)
  obtain⟨_,_,vs,_,p⟩:=(show ObjOk X.prog X.w H s.heap a (.dK kvs) from I.hok a _ ea)
  obtain⟨o,es,ep,h1,h2,_⟩:=p
  exact uck PySem.W.kitx_dict I.kIn ⟨o,h1,h2.1⟩ e (λ z=>nomatch z) h
 | @dT a kvs ea =>
  cases (show u=Value.ref a from rx)
  obtain⟨_,_,xs,_,o,es,ep,h1,h2,_⟩:=(show ObjOk X.prog X.w H s.heap a (.dT kvs) from I.hok a _ ea)
  exact uck PySem.W.kitx_dict I.kIn ⟨o,h1,h2.1⟩ e (λ z=>nomatch z) h
 | @ins a C dx fs ea cl ha hn htk hm =>
  cases (show u=Value.ref a from rx)
  obtain⟨mA,O,_⟩:=zti I.hok ea
  obtain⟨od,J,_⟩:=O.look
  exact uck (PySem.W.kitx_own (cl.get _) cl.hd ha hn htk hm) I.kIn J e (λ z=>nomatch z) h
end
end L2
namespace L2
open PySem PySem.Spec PyProof.Rows
structure Room (k:Nat)(A:Around):Prop where
 hd:A.handled=none
 dp:A.depth+3*k+5<recursionLimit
 un:A.units+16*k+200<cLine
 gd:A.guards=some []
theorem Room.mono {j k:Nat}{A:Around}(r:Room k A)(h:j<=k):Room j A:=⟨r.hd,by have:=r.dp;left,by have:=r.un;left,r.gd⟩
theorem Room.deeper {k:Nat}{A:Around}(r:Room (k+1) A)(env:Env):Room k (A.deeper env) :=
 ⟨r.hd,by have:=r.dp;show A.depth+1+3*k+5<_;left,by have:=r.un;show A.units+3+16*k+200<_;left,r.gd⟩
theorem Room.depth {k:Nat}{A:Around}(r:Room k A):A.depth<recursionLimit:=by have:=r.dp;left
theorem Room.units {k:Nat}{A:Around}(r:Room k A):A.units+64<cLine:=by have:=r.un;left
theorem Room.units0 {k:Nat}{A:Around}(r:Room k A):A.units<cLine:=by have:=r.un;left
def tNil:TA:=λ _ H Q=>Q [] H
def tCons (ta:TE)(tr:TA):TA:=λ σ H Q=>ta σ H λ x H1=>tr σ H1 λ xs H2=>Q (x::xs) H2
section
variable {X:Cx}{e:Expr}{es:List Expr}{te:TE}{t:TA}{pos:Pos}
theorem zab:PA X [] tNil:=λ _ _ _ _ H Q I h=>Calls.spliced_nil ⟨[],H,I,.nil,h⟩
theorem zaa (ha:PE X e te)(hr:PA X es t)(hs:starEach (e::es) X.env=(false,eval e X.env)::starEach es X.env:=by rfl):PA X (e::es) (tCons te t):=by
 intro pos pins s σ H Q I h
 rw[hs]
 show wpAny _ _ (spliced ((false,eval e X.env)::backTo pos (starEach es X.env))) _ _ s
 refine Calls.spliced_cons (thn (ha pins s σ H _ I h) λ u s1 ⟨x,H1,I1,r1,q1⟩=>?_)
 exact thn (hr pos pins s1 σ H1 _ I1 q1) λ us s2 ⟨xs,H2,I2,r2,q2⟩=>⟨x::xs,H2,I2,.cons r1 r2,q2⟩
def tTup (t:TA):TE:=λ σ H Q=>t σ H λ xs H1=>xs.length<=sizeLine/\∀ p,H1 p=none->Q (.ref p) (upd H1 p (.tup xs))
def tLst (t:TA):TE:=λ σ H Q=>t σ H λ xs H1=>xs.length<=sizeLine/\∀ p,H1 p=none->Q (.ref p) (upd H1 p (.lst xs))
theorem zr8 {x1} (h:PA X es t):PE X (.Tuple es x1 pos) (tTup t):=by
 intro pins s σ H Q I hq
 refine wpAny_Tuple_spliced (thn (h pos pins s σ H _ I hq) λ us s1 ⟨xs,H1,I1,r,z,q⟩=>⟨by rw[← r.length];exact z,?_⟩)
 have hf:H1 s1.heap.objs.size=none:=I1.hok.fresh (uai _)
 refine⟨.ref s1.heap.objs.size,upd H1 s1.heap.objs.size (.tup xs),I1.laid (t':=s1.toks) (λ b u e=>Heap.get?_push_of_some _ e) (uai _) ?_,rfl,q _ hf⟩
 exact⟨z,us,r,⟨_,Heap.get?_push_size _ rfl,rfl,⟨_,rfl⟩,rfl⟩⟩
theorem zex (h:PA X es t):PE X (.List es pos) (tLst t):=by
 intro pins s σ H Q I hq
 refine wpAny_List_spliced (thn (h pos pins s σ H _ I hq) λ us s1 ⟨xs,H1,I1,r,z,q⟩=>⟨by rw[← r.length];exact z,?_⟩)
 have hf:H1 s1.heap.objs.size=none:=I1.hok.fresh (uai _)
 refine⟨.ref s1.heap.objs.size,upd H1 s1.heap.objs.size (.lst xs),I1.laid (t':=s1.toks) (λ b u e=>Heap.get?_push_of_some _ e) (uai _) ?_,rfl,q _ hf⟩
 exact⟨z,us,0,r,Heap.get?_push_size _ rfl⟩
end
abbrev Sp:=List V->Hp->VK->XK->Prop
abbrev CXT:=List Env->Hp->Shared->XK->Value->Shared->Prop
structure Env0 (P:Program)(w:World)(K:uac)(mg:Str->Option Value)(base:Heap)(A:Around)(outer:List Env)(s:Shared)(H:Hp):Prop where
 frames:A.frames=some outer
 mod:Mod K mg base
 bs:∀ b o,base.get? b=some o->s.heap.get? b=some o/\H b=none
 bsz:base.objs.size<=s.heap.objs.size
 funs:s.heap.FunFrames base outer
 frf:∀ b∈frs outer,H b=none
 hok:HOk P w H s.heap
 bare:AllBare s.gens
def CE (outer:List Env)(P:Program)(w:World)(H:Hp)(s:Shared)(Q:VK)(u:Value)(s':Shared):Prop :=
 ∃ v H',s'.os=s.os/\AllBare s'.gens/\Un (frs outer) [] H H' s.heap s'.heap/\HOk P w H' s'.heap/\RelV v u/\Q v H'
def CR (CX:CXT)(outer:List Env)(P:Program)(w:World)(H:Hp)(s:Shared)(Q:VK)(E:XK)(r:Result)(s':Shared):Prop :=
 match r with
 | .ok (.ret u)=>CE outer P w H s Q u s'
 | .ok _=>False
 | .error e=>CX outer H s E e s'
structure FnOk (P:Program)(w:World)(K:uac)(mg:Str->Option Value)(base:Heap)(CX:CXT)(k:Nat)(f:Addr)(fd:FuncData)(ps:List Str)(sp:Sp):Prop where
 len:∀ vs H Q E,sp vs H Q E->vs.length=ps.length
 run:∀ (A:Around)(outer:List Env)(s:Shared)(H:Hp)(args:Args)(us:List Value)(vs:List V)(Q:VK)(E:XK),Room k A->Env0 P w K mg base A outer s H->BindsTo s fd args (ps.zip us)->Vals vs us->sp vs H Q E ->
  codeAny (model P w) A (.call (.ref f) args) (CR CX outer P w H s Q E) s
theorem FnOk.mono {P:Program}{w:World}{K:uac}{mg:Str->Option Value}{base:Heap}{CX:CXT}{j k:Nat}{f:Addr}{fd:FuncData}{ps:List Str}{sp:Sp}(F:FnOk P w K mg base CX j f fd ps sp)(h:j<=k) :
  FnOk P w K mg base CX k f fd ps sp:=⟨F.len,λ A outer s H args us vs Q E hr=>F.run A outer s H args us vs Q E (hr.mono h)⟩
theorem FnOk.imp {P:Program}{w:World}{K:uac}{mg:Str->Option Value}{base:Heap}{CX:CXT}{k:Nat}{f:Addr}{fd:FuncData}{ps:List Str}{sp sp':Sp}(F:FnOk P w K mg base CX k f fd ps sp)
  (h:∀ vs H Q E,sp' vs H Q E->sp vs H Q E):FnOk P w K mg base CX k f fd ps sp' :=
 ⟨λ vs H Q E q=>F.len vs H Q E (h _ _ _ _ q),λ A outer s H args us vs Q E hr he hb hv hs=>F.run A outer s H args us vs Q E hr he hb hv (h _ _ _ _ hs)⟩
section
variable {X:Cx}{pins:List (Addr × Obj)}{σ:St}{H:Hp}{s s':Shared}
theorem Inv.env0 (I:Inv X pins σ H s):Env0 X.prog X.w X.K X.mg X.base X.A X.stack s H :=
 ⟨I.ok.frames,I.ok.mod,I.bs,ubt I.ok.bsz I.sz,I.stack,I.stkFree,I.hok,I.bare⟩
theorem Inv.after {Q:VK}{u:Value}(I:Inv X pins σ H s)(h:CE X.stack X.prog X.w H s Q u s'):EP X pins σ Q u s':=by
 obtain⟨v,H',os,bare,un,hok,r,q⟩:=h
 obtain⟨hh,g,d,t,os'⟩:=s'
 obtain rfl:os'=s.os:=os
 exact⟨v,H',I.call (h':=hh) (g':=g) (d':=d) (t':=t) (ch:=[]) un hok bare (λ b z=>absurd z (by simp)),r,q⟩
end
def tCall (sp:Sp)(dvs:List V)(E:XK)(t:TA):TE:=λ σ H Q=>t σ H λ vs H1=>sp (vs++dvs) H1 Q E
def Binds (K:uac)(fd:FuncData)(ps:List Str)(ds:List Value):Prop :=
 ∀ (s:Shared)(us:List Value),K.In s.heap->(us++ds).length=ps.length->BindsTo s fd ⟨us,[]⟩ (ps.zip (us++ds))
theorem Binds.all {K:uac}{fd:FuncData}{ps:List Str}(h:∀ us:List Value,us.length=ps.length->bindArgs fd ⟨us,[]⟩=pure (ps.zip us)):Binds K fd ps []:=λ s us _ hl=>by
 rw[ud4] at hl ⊢
 exact .of_eq (h us hl)
def Passes (CX:CXT)(X:Cx)(E:XK):Prop:=∀ (pins:List (Addr × Obj))(σ:St)(H:Hp)(s:Shared)(e:Value)(s':Shared),Inv X pins σ H s->CX X.stack H s E e s'->X.xe e s'
section
variable {X:Cx}{CX:CXT}{k:Nat}{f C:Addr}{fd:FuncData}{ps:List Str}{sp:Sp}{dvs:List V}{ds:List Value}{E:XK}{x m:Str}{p pos apos:Pos}{e o:Expr}{es:List Expr}{ta:TE}{t:TA}
theorem ztz {pins:List (Addr × Obj)}{σ:St}{H:Hp}{s:Shared}{Q:VK}{us:List Value}{vs:List V}(F:FnOk X.prog X.w X.K X.mg X.base CX k f fd ps sp)(hr:Room k X.A)(hb:Binds X.K fd ps ds)(hd:Vals dvs ds)(hx:Passes CX X E)
  (I:Inv X pins σ H s) (r:Vals vs us) (h:sp (vs++dvs) H Q E):wpAny (model X.prog X.w) X.A (call (.ref f) us) (EP X pins σ Q) X.xe s:=by
 have r2:Vals (vs++dvs) (us++ds):=r.append hd
 have hl:(us++ds).length=ps.length:=by rw[← r2.length];exact F.len _ _ _ _ h
 refine wpAny_call (ud7 (F.run X.A X.stack s H ⟨us,[]⟩ (us++ds) (vs++dvs) Q E hr I.env0 (hb s us I.kIn hl) r2 h) λ r s' hq=>?_)
 cases r with
 | error e=>exact hx pins σ H s e s' I hq
 | ok fl =>
  cases fl with
  | ret u=>exact I.after hq
  | next=>exact False.elim hq
  | brk=>exact False.elim hq
  | cont=>exact False.elim hq
theorem zta (F:FnOk X.prog X.w X.K X.mg X.base CX k f fd ps sp)(hr:Room k X.A)(hg:Gl X x)(hm:X.mg x=some (.ref f))(hk:ud8 X.K (.ref f)=true)(hb:Binds X.K fd ps ds)(hd:Vals dvs ds)(hx:Passes CX X E)
  (ha:PA X (e::es) t) (hdb:(x==("__debug__":Str))=false:=by decide) (he:starEach (e::es) X.env=(false,eval e X.env)::starEach es X.env:=by rfl) (hpl:(backTo pos (starEach es X.env)).any (·.1)=false:=by rfl) :
  PE X (.Call (.Name x p) (e::es) [] pos) (tCall sp dvs E t):=by
 intro pins s σ H Q I h
 refine uew (ztf I hg hm ?_ hdb)
 refine PySem.W.callWith_K (h₀:=X.base) I.ok.mod.kin hk (thn (ha pos pins s σ H _ I h) λ us s1 ⟨vs,H1,I1,r,q⟩=>⟨I1.kIn,?_⟩) he hpl
 exact ztz F hr hb hd hx I1 r q
end
def PK (X:Cx)(kws:List Keyword)(t:TA):Prop :=
 ∀ (pos:Pos)(pins:List (Addr × Obj))(s:Shared)(σ:St)(H:Hp)(Q:List V->Hp->Prop),Inv X pins σ H s->t σ H Q->wpAny (model X.prog X.w) X.A (evalAll ((backToKw pos (keywordEach kws X.env)).map (·.2))) (AP X pins σ Q) X.xe s
section
variable {X:Cx}{CX:CXT}{k:Nat}{f C:Addr}{fd:FuncData}{ps ks:List Str}{sp:Sp}{E:XK}{x m:Str}{p pos apos kpos:Pos}{e o:Expr}{es:List Expr}{kws:List Keyword}{te ta:TE}{t tk:TA}{nm:Option Str}
theorem zt3:PK X [] tNil:=λ _ _ _ _ H Q I h=>wpAny_evalAll_nil ⟨[],H,I,.nil,h⟩
theorem zs5 (ha:PE X e te)(hr:PK X kws t):PK X (⟨nm,e,kpos⟩::kws) (tCons te t):=by
 intro pos pins s σ H Q I h
 show wpAny _ _ (evalAll ((do let v ← eval e X.env;standAt pos;pure v)::(backToKw pos (keywordEach kws X.env)).map (·.2))) _ _ s
 refine wpAny_evalAll_cons (uab (thn (ha pins s σ H _ I h) λ u s1 ⟨x,H1,I1,r1,q1⟩=>uab (uek (uah ?_))))
 exact thn (hr pos pins s1 σ H1 _ I1 q1) λ us s2 ⟨xs,H2,I2,r2,q2⟩=>⟨x::xs,H2,I2,.cons r1 r2,q2⟩
variable {g:List Value->List Value->List Value}{gV:List V->List V->List V}
end
structure FnScope (N P:List Str)(sc:Scope):Prop where
 kind:sc.kind=.function
 co:sc.isCoroutine=false
 gen:sc.isGenerator=false
 nd:N.Nodup
 pre:N.take P.length=P
 par:∀ x∈P,sc.names.lookup x=some .local\/sc.names.lookup x=some .cell
 nofree:∀ y∈sc.names,y.2≠.free
theorem zjn {kindOf:Str->Option NameKind}{x:Str}:∀ {binds:List (Str × Value)}{m:Str->Option Value},(∀ v,(x,v)∉binds)->bindL kindOf binds m x=m x
 | [],_,_=>rfl
 | (n,v)::r,m,h=>by
  unfold bindL
  rw[zjn λ w hw=>h w (uan _ hw)]
  split
  ·have:x≠n:=by rintro rfl;exact h v ual
   simp [this]
  ·rfl
theorem zjp {kindOf:Str->Option NameKind}{x:Str}:∀ {binds:List (Str × Value)}{m:Str->Option Value},(∀ v,(x,v)∉binds)->bindC kindOf binds m x=m x
 | [],_,_=>rfl
 | (n,v)::r,m,h=>by
  unfold bindC
  rw[zjp λ w hw=>h w (uan _ hw)]
  split
  ·rfl
  ·have:x≠n:=by rintro rfl;exact h v ual
   simp [this]
theorem zjo {kindOf:Str->Option NameKind}{x:Str}{v:Value}:∀ {P:List Str}{vs:List Value}{i:Nat}{m:Str->Option Value},P.Nodup->P[i]?=some x->vs[i]?=some v->kindOf x=some .local ->
  bindL kindOf (P.zip vs) m x=some v
 | [],_,_,_,_,h,_,_=>by simp at h
 | _::_,[],_,_,_,_,h,_=>by simp at h
 | p::P,w::vs,0,m,nd,h1,h2,hk=>by
  simp at h1 h2;subst h1;subst h2
  show bindL kindOf ((p,w)::P.zip vs) m p=_
  unfold bindL
  rw[zjn λ v hv=>(ucl.mp nd).1 (uge hv).1,if_pos hk]
  simp
 | p::P,w::vs,i+1,m,nd,h1,h2,hk=>by
  show bindL kindOf ((p,w)::P.zip vs) m x=_
  unfold bindL
  exact zjo (i:=i) (ucl.mp nd).2 (by simpa using h1) (by simpa using h2) hk
theorem zjq {kindOf:Str->Option NameKind}{x:Str}{v:Value}:∀ {P:List Str}{vs:List Value}{i:Nat}{m:Str->Option Value},P.Nodup->P[i]?=some x->vs[i]?=some v->kindOf x≠some .local ->
  bindC kindOf (P.zip vs) m x=some v
 | [],_,_,_,_,h,_,_=>by simp at h
 | _::_,[],_,_,_,_,h,_=>by simp at h
 | p::P,w::vs,0,m,nd,h1,h2,hk=>by
  simp at h1 h2;subst h1;subst h2
  show bindC kindOf ((p,w)::P.zip vs) m p=_
  unfold bindC
  rw[zjp λ v hv=>(ucl.mp nd).1 (uge hv).1,if_neg hk]
  simp
 | p::P,w::vs,i+1,m,nd,h1,h2,hk=>by
  show bindC kindOf ((p,w)::P.zip vs) m x=_
  unfold bindC
  exact zjq (i:=i) (ucl.mp nd).2 (by simpa using h1) (by simpa using h2) hk
def start (N:List Str)(vs:List V):St:=vs.map some++ua0 (N.length-vs.length) none
def cxOf (CX:CXT)(P:Program)(w:World)(K:uac)(mg:Str->Option Value)(base:Heap)(N:List Str)(qual:Str)(scope:Scope)(f:Addr)(cd:Value)(A:Around)(outer:List Env)(s:Shared)(H:Hp)(E:XK):Cx where
 prog:=P
 w:=w
 K:=K
 mg:=mg
 base:=base
 A:=A.deeper (envOfC qual scope s.heap.objs.size f cd)
 N:=N
 s₀:=s
 H₀:=H
 env:=envOfC qual scope s.heap.objs.size f cd
 outer:=outer
 stack:=envOfC qual scope s.heap.objs.size f cd::outer
 ex:=[]
 calm:=true
 fn:=λ _=>true
 pn:=[]
 xe:=λ e s'=>wpAny (model P w) (A.deeper (envOfC qual scope s.heap.objs.size f cd)) (leaving (envOfC qual scope s.heap.objs.size f cd) e) (λ _ s''=>CX outer H s E e s'') (λ e' s''=>CX outer H s E e' s'') s'
theorem zmf {sc:Scope}{n:Nat}{x:Str}(h:sc.names.lookup x=some .cell):∃ c,(cellsFrom n sc.names []).lookup x=some c:=by
 have q:=ugo sc.names n [] (.inl h)
 exact ugk.mp q
theorem zo2 {CX:CXT}{P:Program}{w:World}{K:uac}{mg:Str->Option Value}{base:Heap}{N ps:List Str}{qual:Str}{scope:Scope}{f:Addr}{cd:Value}{A:Around}{outer:List Env}{s s1:Shared}{H:Hp}{E:XK}{us:List Value}{vs:List V}
  (S:FnScope N ps scope) (hd:A.handled=none) (e0:Env0 P w K mg base A outer s H) (hl:vs.length=ps.length) (r:Vals vs us)
  (x:InCallC s s.heap.objs.size (bindL (envOfC qual scope s.heap.objs.size f cd).kindOf (ps.zip us) λ _=>none) (cellsFrom (s.heap.objs.size+1) scope.names []) (bindC (envOfC qual scope s.heap.objs.size f cd).kindOf (ps.zip us) λ _=>none) s1) :
  Inv (cxOf CX P w K mg base N qual scope f cd A outer s H E) [] (start N vs) H s1:=by
 have hpl:ps.length<=N.length:=by have:=congrArg List.length S.pre;rw[ued] at this;left
 obtain⟨h1,tk,rfl,hk⟩:=x.done
 have noA:∀ b:Addr,b∉(cxOf CX P w K mg base N qual scope f cd A outer s H E).ex:=λ b z=>absurd (show b∈([]:List Addr) from z) (by simp)
 refine⟨⟨e0.mod,S.kind,rfl,rfl,uai _,λ y z c h1 h2=>?_,λ y hy=>?_,λ y c _ h=>?_,λ _=>hd,Around.frames_deeper e0.frames,.inr ⟨rfl,rfl⟩,λ b z=>absurd z (noA b),e0.bs,e0.bsz,λ b _ _=>noA b,λ b z=>absurd z (noA b),e0.funs,e0.frf⟩,
  rfl,e0.bare,Un.kept hk,⟨_,x.toInCall.ns,λ i y v h1 h2 h3=>?_⟩,λ y c h=>⟨_,x.cell y c h⟩,e0.hok.fresh (uai _),λ y c h=>?_,λ p hp=>absurd (show p∈([]:List (Addr × Obj)) from hp) (by simp),e0.hok.kept hk,?_⟩
 ·exact name_of_addr x.apart (uc0 h1) (uc0 h2)
 ·have hy:scope.names.lookup y=some .cell\/scope.names.lookup y=some .free:=hy
  rcases hy with hy | hy
  ·exact zmf hy
  ·exact absurd rfl (S.nofree _ (uc0 hy))
 ·exact ue9 (x.above y c (uc0 h))
 ·have hi:i<vs.length:=by
   unfold start at h2
   by_cases hi:i<vs.length
   ·exact hi
   ·rw[ubb (by simpa using hi)] at h2
    rw[ud2] at h2
    split at h2 <;> cases h2
  have ha:vs[i]?=some v:=by
   unfold start at h2
   rw[uch (by simpa using hi),uaj] at h2
   cases e:vs[i]? with
   | none=>rw[e] at h2;cases h2
   | some a=>rw[e] at h2;cases h2;rfl
  obtain⟨u,hu,rv⟩:=r.get ha
  have hp:ps[i]?=some y:=by
   rw[← S.pre,List.getElem?_take_of_lt (by left)];exact h1
  have ndP:ps.Nodup:=by rw[← S.pre];exact S.nd.sublist (List.take_sublist _ _)
  refine⟨u,rv,?_⟩
  rcases S.par y (ua2 hp) with k | k
  ·exact .inl ⟨k,zjo ndP hp hu k⟩
  ·obtain⟨c,e⟩:=zmf (n:=s.heap.objs.size+1) k
   refine .inr ⟨.inl k,c,e,?_⟩
   have q:=x.cell y c e
   rw[zjq ndP hp hu (by show scope.names.lookup y≠_;rw[k];decide)] at q
   exact q
 ·exact e0.hok.fresh (ue9 (x.above y c (uc0 h)))
 ·unfold start
  show _=N.length
  rw[uar,uae,ubq]
  left
theorem zu9 {CX:CXT}{P:Program}{w:World}{K:uac}{mg:Str->Option Value}{base:Heap}{k:Nat}{f:Addr}{name qual:Str}{params:Arguments}{body:List Stmt}{scope:Scope}{dV kV doc pm cdv ct oc:Value}{an od:Option Addr}
  {osl:Array (Option Value)} {N ps:List Str} {sp:Sp} (lk:K.lookup f=some ⟨oc,od,.func (uc8 name qual params body scope dV kV doc pm an cdv ct),osl⟩) (hcd:uei K cdv qual=true) (S:FnScope N ps scope)
  (len:∀ vs H Q E,sp vs H Q E->vs.length=ps.length)
  (hbody:∀ (A:Around)(outer:List Env)(s:Shared)(H:Hp)(vs:List V)(Q:VK)(E:XK),Room k (A.deeper (envOfC qual scope s.heap.objs.size f cdv))->sp vs H Q E ->
   ∃ t,PSs (cxOf CX P w K mg base N qual scope f cdv A outer s H E) body t/\t { nx:=λ _ H'=>Q .non H',rt:=Q } (start N vs) H) :
  FnOk P w K mg base CX (k+1) f (uc8 name qual params body scope dV kV doc pm an cdv ct) ps sp:=by
 refine⟨len,λ A outer s H args us vs Q E hr e0 hb r hsp=>?_⟩
 have hl:=len _ _ _ _ hsp
 have KX:K.In s.heap:=e0.mod.kin.keeps λ b o e=>(e0.bs b o e).1
 have lim:s.heap.NoLimit:=e0.mod.nolimit.keeps λ b o e=>(e0.bs b o e).1
 have hkind:∀ y∈ps.zip us,scope.names.lookup y.1=some .local\/(scope.names.lookup y.1=some .cell/\((cellsFrom (s.heap.objs.size+1) scope.names []).lookup y.1).isSome=true):=λ ⟨n,v⟩ hy=>by
  rcases S.par n (uge hy).1 with q | q
  ·exact .inl q
  ·exact .inr ⟨q,ugo _ _ _ (.inl q)⟩
 refine codeAny_call_function hr.depth (KX _ _ lk) rfl S.co S.gen rfl (PySem.W.codeRec_of KX hcd) (hb _ _ _ _ ?_)
 refine wpAny_newFunctionEnv_cells S.kind hkind λ env he s1 x=>?_
 subst he
 refine⟨lim.keeps x.toInCall.keep,codeAny_func ?_⟩
 obtain⟨t,ht,hq⟩:=hbody A outer s H vs Q E (hr.deeper _) hsp
 have I:Inv (cxOf CX P w K mg base N qual scope f cdv A outer s H E) [] (start N vs) H s1:=zo2 S hr.hd e0 hl r x
 refine ucw (ht [] s1 (start N vs) H _ I hq) (λ fl s' hs=>?_) λ e s' hs=>hs
 have fin:∀ {σ':St}{H':Hp}{v:V}{u:Value},Inv (cxOf CX P w K mg base N qual scope f cdv A outer s H E) [] σ' H' s'->RelV v u->Q v H'->CE outer P w H s Q u s' :=
  λ {σ' H' v u} J rv q=>⟨v,H',J.os,J.bare,J.base,J.hok,rv,q⟩
 cases fl with
 | ret u =>
  obtain⟨v,σ',H',J,rv,q⟩:=hs
  exact fin J rv q
 | next =>
  obtain⟨σ',H',J,q⟩:=hs
  exact fin (v:=V.non) (u:=Value.none) J rfl q
 | brk =>
  obtain⟨_,_,_,q⟩:=hs
  exact False.elim q
 | cont =>
  obtain⟨_,_,_,q⟩:=hs
  exact False.elim q
end L2
namespace L2
open PySem PySem.Spec PyProof.Rows
section
variable {X:Cx}{x:Str}{p pos:Pos}{e:Expr}{es:List Expr}{t:TA}{id T:String}{r:List V->Hp->VK->Prop}
def tCB (r:List V->Hp->VK->Prop)(t:TA):TE:=λ σ H Q=>t σ H λ vs H1=>r vs H1 Q
theorem zal (hc:CallR X (.builtin id) r)(hg:Gl X x)(hm:X.mg x=none)(hv:bootBuiltins x=some (.builtin id))(ha:PA X (e::es) t)(hn:x≠"__name__":=by decide)(hdb:(x==("__debug__":Str))=false:=by decide)
  (he:starEach (e::es) X.env=(false,eval e X.env)::starEach es X.env:=by rfl) (hpl:(backTo pos (starEach es X.env)).any (·.1)=false:=by rfl):PE X (.Call (.Name x p) (e::es) [] pos) (tCB r t):=by
 intro pins s σ H Q I h
 refine uew (zfb I hg hm hv ?_ hn hdb)
 exact PyProof.Rows.callWith_builtin1 (thn (ha pos pins s σ H _ I h) λ us s1 ⟨vs,H1,I1,r1,q1⟩=>hc pins s1 σ H1 vs us Q I1 r1 q1) he hpl
theorem zau (hc:CallR X (.type T) r)(hg:Gl X x)(hm:X.mg x=none)(hv:bootBuiltins x=some (.type T))(ha:PA X (e::es) t)(hn:x≠"__name__":=by decide)(hdb:(x==("__debug__":Str))=false:=by decide)
  (he:starEach (e::es) X.env=(false,eval e X.env)::starEach es X.env:=by rfl) (hpl:(backTo pos (starEach es X.env)).any (·.1)=false:=by rfl):PE X (.Call (.Name x p) (e::es) [] pos) (tCB r t):=by
 intro pins s σ H Q I h
 refine uew (zfb I hg hm hv ?_ hn hdb)
 exact udh (thn (ha pos pins s σ H _ I h) λ us s1 ⟨vs,H1,I1,r1,q1⟩=>hc pins s1 σ H1 vs us Q I1 r1 q1) he hpl
end
end L2
namespace HT
open PySem PyProof.Rows
def lexLt:List Int->List Int->Bool
 | [],[]=>false
 | [],_::_=>true
 | _::_,[]=>false
 | x::xs,y::ys=>if x=y then lexLt xs ys else decide (x<y)
theorem zby (x y:Int)(xs ys:List Int):lexLt (x::xs) (y::ys)=if x=y then lexLt xs ys else decide (x<y):=rfl
theorem zhp:lexLt [] []=false:=rfl
theorem zf6 (y:Int)(ys:List Int):lexLt [] (y::ys)=true:=rfl
theorem zf7 (x:Int)(xs:List Int):lexLt (x::xs) []=false:=rfl
theorem zrp (A:Around)(s:Shared)(a:Int)(t:Tok)(c:Int)(u:Tok):∃ e,SeqAt.EqAt A s (.int a t) (.int c u) e/\(e=true↔a=c) :=
 ⟨(a==c),SeqAt.EqAt.int_int a t c u,by simp⟩
theorem zqv (A:Around)(s:Shared)(a:Int)(t:Tok)(c:Int)(u:Tok)(prog:Program)(w:World)(E:Value->Shared->Prop)(Q:Value->Shared->Prop)(h:Q (.bool (decide (a<c))) s) :
  wpAny (model prog w) A (richCompare .Lt (.int a t) (.int c u)) Q E s :=
 (PyProof.Rows.lt_int h:wpAny (model prog w) A (compareOp .Lt (.int a t) (.int c u)) Q E s)
section
open PySem.SeqAt
open PySem.AutoSeq1 (wpAny_loadPart')
open PySem.MeetsSeq PySem.MeetsSeq2 PySem.MeetsSeq3
theorem zgy (l b:Addr)(items items2:Array Value)(n n2:Nat)(dd dd2:Option Addr)(sl sl2:Array (Option Value))(ns ms:List Int)(hi:IntsAre items.toList ns)(hj:IntsAre items2.toList ms) :
  Meets (Builtin.«tuple.__lt__» ⟨[.ref l,.ref b],[]⟩)
   (λ _ R s=>s.heap.get? l=some { cls:=.type "tuple",dict:=dd,data:=.seq items n,slots:=sl }/\s.heap.get? b=some { cls:=.type "tuple",dict:=dd2,data:=.seq items2 n2,slots:=sl2 } /\
    R (.ok (.ret (.bool (lexLt ns ms)))) s) :=
 .of_wp λ prog w A R s h=>by
  obtain⟨hp,g,d,tk,os⟩:=s;obtain⟨hl,hb,h⟩:=h
  have f2:=AutoSeq1.sub_tuple_tuple
  have z1:items.size=ns.length:=by rw[← hi.length];simp
  have z2:items2.size=ms.length:=by rw[← hj.length];simp
  wp_walk using ueq hl,ueq hb,wpAny_forIn_list _ (λ rest b s'=>b.1=none/\s'=⟨hp,g,d,tk,os⟩/\∃ (vs ws:List Value)(ns' ms':List Int),rest=vs.zip ws /\
   IntsAre vs ns'/\IntsAre ws ms'/\ns'.length+items2.size=ms'.length+items.size/\R (.ok (.ret (.bool (lexLt ns' ms')))) ⟨hp,g,d,tk,os⟩) _
  case turn =>
   rintro ⟨y,x⟩ rest b s' ⟨hb',rfl,vs,ws,ns',ms',hz,hvi,hwi,hlen,hR⟩
   cases hvi with
   | nil=>rw[List.zip_nil_left] at hz;cases hz
   | cons a t hvi' =>
    cases hwi with
    | nil=>rw[List.zip_nil_right] at hz;cases hz
    | cons c u hwi' =>
     rw[uem] at hz
     injection hz with hyx hrest
     injection hyx with hy hx
     subst hy hx
     rw[zby] at hR
     simp only [ucp] at hlen
     obtain⟨e,he,hiff⟩:=zrp A.in1 ⟨hp,g,d,tk,os⟩ a t c u
     refine uab (he prog w _ _ ?_)
     cases e with
     | true =>
      rw[if_pos (hiff.mp rfl)] at hR
      wp_walk
      exact⟨rfl,rfl,_,_,_,_,hrest,hvi',hwi',by left,hR⟩
     | false =>
      rw[if_neg (λ q=>absurd (hiff.mpr q) uau)] at hR
      have hri:=zqv A.in1 ⟨hp,g,d,tk,os⟩ a t c u prog w
      wp_walk using hri
      exact⟨_,rfl,by simpa using hR⟩
  case fin =>
   rintro ⟨b1,b2⟩ s' ⟨hb',rfl,vs,ws,ns',ms',hz,hvi,hwi,hlen,hR⟩
   simp only at hb'
   subst hb'
   have hv:lexLt ns' ms'=decide (items.size<items2.size):=by
    cases hvi with
    | nil =>
     cases hwi with
     | nil =>
      simp only [ue5] at hlen
      rw[zhp]
      exact (decide_eq_false (by left)).symm
     | cons c u hw =>
      simp only [ue5,ucp] at hlen
      rw[zf6]
      exact (decide_eq_true (by left)).symm
    | cons a t hv =>
     cases hwi with
     | nil =>
      simp only [ue5,ucp] at hlen
      rw[zf7]
      exact (decide_eq_false (by left)).symm
     | cons c u hw =>
      rw[uem] at hz
      cases hz
   rw[hv] at hR
   wp_walk
   exact⟨_,rfl,by simpa [Builtin.Tuple.tupleCompareSizes] using hR⟩
  case h =>
   exact⟨rfl,rfl,items.toList,items2.toList,ns,ms,rfl,hi,hj,by left,h⟩
end
section
variable {prog:Program}{w:World}{A:Around}{E:Value->Shared->Prop}{s:Shared}
theorem zgt {l b:Addr}{items items2:Array Value}{ns ms:List Int}{Q:Value->Shared->Prop}(hl:IsTup s.heap l items)(hb:IsTup s.heap b items2)(hi:IntsAre items.toList ns)(hj:IntsAre items2.toList ms)
  (hu:A.units<cLine) (h:Q (.bool (lexLt ns ms)) s):wpAny (model prog w) A (compareOp .Lt (.ref l) (.ref b)) Q E s:=by
 obtain⟨⟨cls,dd,data,sl⟩,ho,hc,n,hd⟩:=id hl
 obtain⟨⟨cls2,dd2,data2,sl2⟩,ho2,hc2,n2,hd2⟩:=id hb
 simp only at hc hd hc2 hd2
 subst hc hd hc2 hd2
 exact richCompare_meets_room (op:=.Lt) ⟨_,ho,rfl⟩ ⟨_,ho2,rfl⟩ PySem.F.slot_tuple_lt PySem.F.entry_tuple_lt (PySem.F.args_tuple_lt_2 _ _) (zgy l b items items2 n n2 dd dd2 sl sl2 ns ms hi hj)
  ⟨ho,ho2,show Value.bool (lexLt ns ms)≠Value.notImplemented/\Q (.bool (lexLt ns ms)) s from ⟨(λ x=>nomatch x),h⟩⟩ hu
def sIx (n d:Nat):Option Int->Nat
 | none=>d
 | some v=>if v<0 then (v+(n:Int)).toNat else min v.toNat n
theorem zqt (n d:Nat):sIx n d none=d:=rfl
theorem zs0 (n d k:Nat):sIx n d (some (k:Int))=min k n:=by
 show (if (k:Int)<0 then ((k:Int)+(n:Int)).toNat else min (k:Int).toNat n)=min k n
 rw[if_neg (by left),uao]
theorem zty (n d:Nat)(hd:d<=n)(o:Option Int):sIx n d o<=n:=by
 cases o with
 | none=>exact hd
 | some v =>
  show (if v<0 then (v+(n:Int)).toNat else min v.toNat n)<=n
  by_cases hv:v<0
  ·rw[if_pos hv];left
  ·rw[if_neg hv];exact Nat.min_le_right _ _
theorem zpj (v:Int)(n d:Nat):(if v<0 then max (v+(n:Int)) 0 else min v (n:Int))=((sIx n d (some v):Nat):Int):=by
 show (if v<0 then max (v+(n:Int)) 0 else min v (n:Int))=(((if v<0 then (v+(n:Int)).toNat else min v.toNat n):Nat):Int)
 by_cases hv:v<0
 ·simp only [if_pos hv];left
 ·simp only [if_neg hv];left
theorem znb (lo hi:Option Int)(n:Nat):Builtin.Slice.sliceAdjust lo hi 1 (n:Int)=(((sIx n 0 lo:Nat):Int),((sIx n n hi:Nat):Int)):=by
 have h1:¬ ((1:Int)<0):=by left
 unfold Builtin.Slice.sliceAdjust
 simp only [h1,if_false]
 refine Prod.ext ?_ ?_
 ·cases lo with
  | none=>rfl
  | some v=>exact zpj v n 0
 ·cases hi with
  | none=>rfl
  | some v=>exact zpj v n n
theorem zmn (i j:Nat):Builtin.Slice.slicePlaces (i:Int) (j:Int) 1=j-i:=by
 unfold Builtin.Slice.slicePlaces
 have h1:(1:Int)>0:=by left
 simp only [h1,if_true,Int.ediv_one]
 split <;> left
theorem zgm {v:Value}{o:Option Int}{Q:Option Int->Shared->Prop}(p:IsPart v o)(h:Q o s):wpAny (model prog w) A (Builtin.Slice.slicePartIndex v) Q E s:=by
 cases p with
 | none=>exact slicePart_none h
 | int i t=>exact slicePart_int h
theorem zck {sl:Addr}{vl vu:Value}{lo hi:Option Int}{n:Nat}{Q:Int × Int × Nat->Shared->Prop}(hs:s.heap.IsSliceOf sl vl vu .none)(pl:IsPart vl lo)(pu:IsPart vu hi)
  (h:Q (((sIx n 0 lo:Nat):Int),1,sIx n n hi-sIx n 0 lo) s):wpAny (model prog w) A (Builtin.Slice.sliceApplied (.ref sl) (pure (n:Int))) Q E s:=by
 obtain⟨os,hos,hcs,hds⟩:=id hs
 unfold Builtin.Slice.sliceApplied Builtin.Slice.sliceFields
 refine uab (uab (ub1 hos hds (x:=vl) rfl (uab (ub1 hos hds (x:=vu) rfl (uab (ub1 hos hds (x:=.none) rfl (uah ?_)))))))
 refine uab (slicePart_none ?_)
 show wpAny _ _ (if ((1:Int)==0)=true then _ else _) _ _ s
 rw[if_neg (by decide)]
 refine uab (zgm pl (uab (zgm pu (uab (uah ?_)))))
 show wpAny _ _ (match Builtin.Slice.sliceAdjust lo hi 1 (n:Int) with | (lo,hi)=>pure (lo,(1:Int),Builtin.Slice.slicePlaces lo hi 1)) _ _ s
 rw[znb lo hi n]
 show wpAny _ _ (pure (((sIx n 0 lo:Nat):Int),(1:Int),Builtin.Slice.slicePlaces ((sIx n 0 lo:Nat):Int) ((sIx n n hi:Nat):Int) 1)) _ _ s
 rw[zmn]
 exact uah h
theorem zqy (xs:Array Value)(i k:Nat):((uaf k).filterMap λ (m:Nat)=>xs[((i:Int)+(m:Int)*1).toNat]?).toArray=((xs.toList.drop i).take k).toArray:=by
 have e:(λ (m:Nat)=>xs[((i:Int)+(m:Int)*1).toNat]?)=λ m=>xs[i+m]?:=by
  funext m
  have:((i:Int)+(m:Int)*1).toNat=i+m:=by left
  rw[this]
 rw[e]
 have:=pick_run xs i k
 rw[ueo] at this
 have e2:((λ x=>xs[x]?) ∘ λ x=>i+x)=λ m=>xs[i+m]?:=rfl
 rw[e2] at this
 rw[this]
theorem zd6 {t sl:Addr}{items:Array Value}{vl vu:Value}{lo hi:Option Int}{Q:Value->Shared->Prop}(ht:IsTup s.heap t items)(hs:s.heap.IsSliceOf sl vl vu .none)(pl:IsPart vl lo)(pu:IsPart vu hi)
  (hw:¬ (sIx items.size 0 lo=0/\sIx items.size items.size hi=items.size))
  (h:Q (.ref s.heap.objs.size) { s with heap:=s.heap.push { cls:=.type "tuple",data:=.seq ((items.toList.drop (sIx items.size 0 lo)).take (sIx items.size items.size hi-sIx items.size 0 lo)).toArray } })
  (hsz:items.size<=sizeLine):wpAny (model prog w) A (getItem (.ref t) (.ref sl)) Q E s:=by
 have htake:sizeOk (.seq ((items.toList.drop (sIx items.size 0 lo)).take (sIx items.size items.size hi-sIx items.size 0 lo)).toArray):=by
  show ((items.toList.drop (sIx items.size 0 lo)).take (sIx items.size items.size hi-sIx items.size 0 lo)).toArray.size<=sizeLine
  rw[uap,ued,udm,ub0]
  left
 have hj:sIx items.size items.size hi<=items.size:=zty _ _ (uai _) hi
 obtain⟨os,hos,hcs,hds⟩:=id hs
 have hTs:s.TypeIs (.ref sl) "slice":=⟨os,hos,hcs⟩
 unfold getItem
 try with_reducible refine ubd ?_
 first | refine uab (uah ?_) | skip
 refine uab (wpAny_sequenceKey ht.typeIs (by decide) ?_)
 refine uab (ubh (name:=Str.ofString "__getitem__") ht.typeIs ub7
  (ubm ub7 ht.typeIs entry_tuple_getitem ?_ (args_tuple_getitem _ _)))
 show wpAny _ _ (Builtin.Tuple.tupleItemsOf (.ref t) >>= _) _ _ s
 refine uab (tupleItemsOf_ ht ?_)
 refine uab (ud6 hTs ?_)
 rw[if_pos (by decide)]
 refine uab (zck hs pl pu ?_)
 have hno:¬ ((((sIx items.size 0 lo:Nat):Int)==0&&(1:Int)==1&&(sIx items.size items.size hi-sIx items.size 0 lo)==items.size)=true):=by
  intro q
  rw[ucb,ucb] at q
  have q1:((sIx items.size 0 lo:Nat):Int)=0:=eq_of_beq q.1.1
  have q2:sIx items.size items.size hi-sIx items.size 0 lo=items.size:=eq_of_beq q.2
  exact hw ⟨by left,by left⟩
 show wpAny _ _ (if (((sIx items.size 0 lo:Nat):Int)==0&&(1:Int)==1&&(sIx items.size items.size hi-sIx items.size 0 lo)==items.size)=true then _ else _) _ _ s
 rw[if_neg hno,zqy]
 first
  | exact uab (m:=Builtin.Tuple.tupleExact _) (ubu (uah ⟨_,rfl,uah h⟩) htake)
  | exact uab (m:=Builtin.Tuple.tupleExact _) (ubu (uab (uah (uah ⟨_,rfl,uah h⟩))) htake)
  | exact uab (uab (m:=Builtin.Tuple.tupleExact _) (ubu (uah (uah ⟨_,rfl,uah h⟩)) htake))
  | exact uab (uab (m:=Builtin.Tuple.tupleExact _) (ubu (uah ⟨_,rfl,uah h⟩) htake))
end
end HT
namespace L2
open PySem PySem.Spec PyProof.Rows
abbrev TO:=St->Hp->(Option Int->Hp->Prop)->Prop
def PO (X:Cx)(e:Option Expr)(t:TO):Prop :=
 ∀ (pins:List (Addr × Obj))(s:Shared)(σ:St)(H:Hp)(Q:Option Int->Hp->Prop),Inv X pins σ H s->t σ H Q ->
  wpAny (model X.prog X.w) X.A (evalPart e X.env) (λ u s'=>∃ o H',Inv X pins σ H' s'/\IsPart u o/\Q o H') X.xe s
def tNoPart:TO:=λ _ H Q=>Q none H
def tPart (t:TE):TO:=λ σ H Q=>t σ H λ x H1=>EInt x λ i=>Q (some i) H1
theorem zbd {ns:List Int}:∀ {us:List Value},Vals (ns.map V.int) us->IntsAre us ns:=by
 induction ns with
 | nil=>intro us r;rw[List.map_nil] at r;cases r;exact .nil
 | cons n ns ih =>
  intro us r
  rw[ubg] at r
  cases r with
  | cons r1 r2 =>
   obtain⟨t,e⟩:=r1
   subst e
   exact .cons n t (ih r2)
section
variable {X:Cx}{e:Expr}{te:TE}{lo hi:Option Expr}{tl th:TO}{pos p2:Pos}
theorem zdx:PO X none tNoPart:=by
 intro pins s σ H Q I h
 rw[evalPart_none]
 exact uah ⟨none,H,I,.none,h⟩
theorem zdw (h:PE X e te):PO X (some e) (tPart te):=by
 intro pins s σ H Q I hw
 rw[evalPart_some]
 refine thn (h pins s σ H _ I hw) λ u s1 ⟨x,H1,I1,r1,q1⟩=>?_
 obtain⟨i,rfl,q⟩:=q1
 obtain⟨t,rfl⟩:=r1
 exact⟨some i,H1,I1,.int i t,q⟩
def SlR (X:Cx)(r:V->Option Int->Option Int->Hp->VK->Prop):Prop :=
 ∀ (pins:List (Addr × Obj))(s:Shared)(σ:St)(H:Hp)(x:V)(v vl vu:Value)(lo hi:Option Int)(sl:Addr)(Q:VK),Inv X pins σ H s->RelV x v->s.heap.IsSliceOf sl vl vu .none->IsPart vl lo->IsPart vu hi->r x lo hi H Q ->
  ∃ T id,typeLookup (.type T) "__getitem__"=pure (some (.builtin id))/\s.TypeIs v T/\wpAny (model X.prog X.w) X.A (getItem v (.ref sl)) (EP X pins σ Q) X.xe s
def tSl (r:V->Option Int->Option Int->Hp->VK->Prop)(te:TE)(tl th:TO):TE:=λ σ H Q=>te σ H λ x H1=>tl σ H1 λ l H2=>th σ H2 λ u H3=>r x l u H3 Q
theorem zct {r:V->Option Int->Option Int->Hp->VK->Prop}(hr:SlR X r)(he:PE X e te)(hl:PO X lo tl)(hu:PO X hi th):PE X (.Subscript e (.Slice lo hi none p2) pos) (tSl r te tl th):=by
 intro pins s σ H Q I h
 refine Subscript_ (thn (he pins s σ H _ I h) λ v s1 ⟨x,H1,I1,r1,q1⟩=>?_)
 refine wpAny_Slice (thn (hl pins s1 σ H1 _ I1 q1) λ vl s2 ⟨l,H2,I2,pl,q2⟩=>thn (hu pins s2 σ H2 _ I2 q2) λ vu s3 ⟨u,H3,I3,pu,q3⟩=>?_)
 rw[evalPart_none]
 refine uah ?_
 have I4:Inv X pins σ H3 { s3 with heap:=s3.heap.push { cls:=.type "slice",data:=.fields #[vl,vu,.none] } }:=I3.kept (t':=s3.toks) λ b ob q=>Heap.get?_push_of_some _ q
 obtain⟨T,id,hT,ht,hg⟩:=hr pins { s3 with heap:=s3.heap.push { cls:=.type "slice",data:=.fields #[vl,vu,.none] } } σ H3 x v vl vu l u s3.heap.objs.size Q I4 r1 (Heap.IsSliceOf.new ..) pl pu q3
 show wpAny (model X.prog X.w) X.A (subscriptTail e (.Slice lo hi none p2) v (.ref s3.heap.objs.size)) (EP X pins σ Q) X.xe { s3 with heap:=s3.heap.push { cls:=.type "slice",data:=.fields #[vl,vu,.none] } }
 exact tail_any (ops:=[.ref s3.heap.objs.size,v]) ht hT hg (by with_unfolding_all rfl)
def cutV (xs:List V)(lo hi:Option Int):List V:=(xs.drop (HT.sIx xs.length 0 lo)).take (HT.sIx xs.length xs.length hi-HT.sIx xs.length 0 lo)
theorem zfj (xs:List V)(lo hi:Option Int):(cutV xs lo hi).length<=xs.length:=by
 unfold cutV
 rw[ued,udm]
 left
inductive rSlT_i (K:uac)(x:V)(lo:Option Int)(hi:Option Int)(H:Hp)(Q:VK):Prop
 | mk:∀ a xs,(x=.ref a)->(SqT K H a xs)->(¬ (HT.sIx xs.length 0 lo=0/\HT.sIx xs.length xs.length hi=xs.length))->(∀ p,H p=none->Q (.ref p) (upd H p (.tup (cutV xs lo hi))))->rSlT_i K x lo hi H Q
def rSlT (K:uac):V->Option Int->Option Int->Hp->VK->Prop:=λ x lo hi H Q=>rSlT_i K x lo hi H Q
theorem ztv:SlR X (rSlT X.K):=by
 intro pins s σ H x v vl vu lo hi sl Q I rx hs pl pu h
 obtain⟨a,xs,rfl,hx,hw,q⟩:=h
 cases rx
 obtain⟨its,r,ht,hz⟩:=I.tuple hx
 have hlen:its.toArray.size=xs.length:=by rw[uap];exact r.length.symm
 refine⟨"tuple",_,ub7.lookup,ht.typeIs,?_⟩
 refine HT.zd6 ht hs pl pu (by rw[hlen];exact hw) ?_ (by rw[hlen];exact hz)
 rw[hlen]
 refine⟨.ref s.heap.objs.size,_,I.laid (t':=s.toks) (o:=.tup (cutV xs lo hi)) (λ b ob q=>Heap.get?_push_of_some _ q) (uai _) ?_,rfl,q _ (I.hok.fresh (uai _))⟩
 exact⟨ubt (zfj xs lo hi) hz,_,(r.drop (HT.sIx xs.length 0 lo)).take (HT.sIx xs.length xs.length hi-HT.sIx xs.length 0 lo),TupN.new _ _⟩
inductive rLtT_i (K:uac)(x:V)(y:V)(H:Hp)(Q:VK):Prop
 | mk:∀ a b ns ms,(x=.ref a)->(y=.ref b)->(SqT K H a (ns.map V.int))->(SqT K H b (ms.map V.int))->(Q (.bl (HT.lexLt ns ms)) H)->rLtT_i K x y H Q
def rLtT (K:uac):R2:=λ x y H Q=>rLtT_i K x y H Q
theorem zub (hu:X.A.units<cLine):OpR X (compareOp .Lt) (rLtT X.K):=by
 intro pins s σ H x y v u Q I rx ry h
 obtain⟨a,b,ns,ms,rfl,rfl,ha,hb,q⟩:=h
 cases rx
 cases ry
 obtain⟨its,r1,p1,_⟩:=I.tuple ha
 obtain⟨its2,r2,p2,_⟩:=I.tuple hb
 have i1:IntsAre its.toArray.toList ns:=zbd r1
 have i2:IntsAre its2.toArray.toList ms:=zbd r2
 exact HT.zgt p1 p2 i1 i2 hu ⟨.bl (HT.lexLt ns ms),H,I,rfl,q⟩
end
end L2
namespace L2
open PySem PySem.Spec PyProof.Rows
def ixN (n:Nat)(i:Int):Option Nat:=if 0<=i then (if i<n then some i.toNat else none) else if -(n:Int)<=i then some (i+n).toNat else none
def atI {α:Type}(xs:List α)(i:Int):Option α:=(ixN xs.length i).bind λ j=>xs[j]?
theorem zkv {n:Nat}{i:Int}{j:Nat}(h:ixN n i=some j):seqIndex? i n=some j/\j<n/\-(n:Int)<=i/\i<n:=by
 unfold ixN at h
 by_cases h0:0<=i
 ·rw[if_pos h0] at h
  by_cases h1:i<n
  ·rw[if_pos h1] at h
   have e:i.toNat=j:=ubj h
   exact⟨by rw[seqIndex_of h0 h1,e],by left,by left,h1⟩
  ·rw[if_neg h1] at h;cases h
 ·rw[if_neg h0] at h
  by_cases h1:-(n:Int)<=i
  ·rw[if_pos h1] at h
   have e:(i+n).toNat=j:=ubj h
   exact⟨by rw[seqIndex_neg (by left) h1,e],by left,h1,by left⟩
  ·rw[if_neg h1] at h;cases h
theorem zp5 {α:Type}{xs:List α}{i:Int}{v:α}(h:atI xs i=some v):∃ j,seqIndex? i xs.length=some j/\xs[j]?=some v/\j<xs.length/\-(xs.length:Int)<=i/\i<xs.length:=by
 unfold atI at h
 cases e:ixN xs.length i with
 | none=>rw[e] at h;cases h
 | some j =>
  rw[e] at h
  obtain⟨h1,h2,h3,h4⟩:=zkv e
  exact⟨j,h1,h,h2,h3,h4⟩
theorem zp3 {α:Type}{xs:List α}{j:Nat}{v:α}(h:xs[j]?=some v):atI xs (j:Int)=some v:=by
 have hj:j<xs.length:=(uak.mp h).1
 have e:ixN xs.length (j:Int)=some j:=by
  unfold ixN
  rw[if_pos (by left),if_pos (by left)];simp
 unfold atI;rw[e];exact h
theorem zmg {α:Type}(xs:List α)(v:α):atI (xs++[v]) (-1)=some v:=by
 have hl:(xs++[v]).length=xs.length+1:=by simp
 have e:ixN (xs++[v]).length (-1)=some xs.length:=by
  unfold ixN
  rw[hl,if_neg (by decide),if_pos (by left)]
  congr 1
  left
 unfold atI
 rw[e]
 show (xs++[v])[xs.length]?=some v
 simp
def PlainIx (b:Expr):Prop:=∀ o i,subscripted b false o i=operate [o,i] (getItem o i)
def IxR (X:Cx)(r:R2):Prop :=
 ∀ (value slice:Expr)(pins:List (Addr × Obj))(s:Shared)(σ:St)(H:Hp)(x y:V)(v u:Value)(Q:VK),Inv X pins σ H s->RelV x v->RelV y u->r x y H Q ->
  subscripted slice false v u=operate [v,u] (getItem v u)->wpAny (model X.prog X.w) X.A (subscriptTail value slice v u) (EP X pins σ Q) X.xe s
def MtR (X:Cx)(id:String)(r:V->List V->Hp->VK->Prop):Prop :=
 ∀ (pins:List (Addr × Obj))(s:Shared)(σ:St)(H:Hp)(x:V)(xs:List V)(v:Value)(us:List Value)(Q:VK),Inv X pins σ H s->RelV x v->Vals xs us->r x xs H Q ->
  wpAny (model X.prog X.w) X.A (call (.builtin id) (v::us)) (EP X pins σ Q) X.xe s
section
variable {X:Cx}{a b:Expr}{ta tb:TE}{pos:Pos}
theorem zaq {r:R2}(hr:IxR X r)(ha:PE X a ta)(hb:PE X b tb)(hs:PlainIx b):PE X (.Subscript a b pos) (tOp r ta tb):=by
 intro pins s σ H Q I h
 exact Subscript_ (binT ha hb I h λ v u s2 x y H2 I2 rx ry q=>hr a b pins s2 σ H2 x y v u Q I2 rx ry q (hs _ _))
inductive rIxL_i (K:uac)(x:V)(y:V)(H:Hp)(Q:VK):Prop
 | mk:∀ p xs i v,(x=.ref p)->(y=.int i)->(SqL K H p xs)->(atI xs i=some v)->(Q v H)->rIxL_i K x y H Q
def rIxL (K:uac):R2:=λ x y H Q=>rIxL_i K x y H Q
inductive rIxT_i (K:uac)(x:V)(y:V)(H:Hp)(Q:VK):Prop
 | mk:∀ p xs i v,(x=.ref p)->(y=.int i)->(SqT K H p xs)->(atI xs i=some v)->(Q v H)->rIxT_i K x y H Q
def rIxT (K:uac):R2:=λ x y H Q=>rIxT_i K x y H Q
theorem zay:IxR X (rIxL X.K):=by
 intro value slice pins s σ H x y v u Q I rx ry h hs
 obtain⟨p,xs,i,z,rfl,rfl,hq,he,q⟩:=h
 cases rx
 obtain⟨t,rfl⟩:=ry
 obtain⟨its,r,pl,hz⟩:=I.list hq
 obtain⟨j,h1,h2,h3,h4,h5⟩:=zp5 he
 obtain⟨w,ew,rw'⟩:=r.get h2
 have hl:=r.length
 have hn:=line63
 have fin:EP X pins σ Q w s:=⟨z,H,I,rw',q⟩
 by_cases h0:0<=i
 ·have hj:i.toNat=j:=by
   rw[seqIndex_of h0 h5] at h1
   exact ubj h1
  exact item_listR pl.isList h0 (by left) (by rw[hj];simpa using ew) fin hs
 ·have hj:(i+(its.toArray.size:Int)).toNat=j:=by
   rw[seqIndex_neg (by left) h4] at h1
   rw[uap,← hl]
   exact ubj h1
  exact subscriptTail_builtinR (x:=w) pl.isList.typeIs slot_list_getitem.lookup
   (wpAny_getItem_list_neg (Q:=λ r s'=>r=w/\EP X pins σ Q r s') pl.isList (by left) (by rw[uap] <;> left) (by left) (by rw[hj];simpa using ew) ⟨rfl,fin⟩) hs
theorem zav:IxR X (rIxT X.K):=by
 intro value slice pins s σ H x y v u Q I rx ry h hs
 obtain⟨p,xs,i,z,rfl,rfl,hq,he,q⟩:=h
 cases rx
 obtain⟨t,rfl⟩:=ry
 obtain⟨its,r,pl,hz⟩:=I.tuple hq
 obtain⟨j,h1,h2,h3,h4,h5⟩:=zp5 he
 obtain⟨w,ew,rw'⟩:=r.get h2
 have hl:=r.length
 have hn:=line63
 have fin:EP X pins σ Q w s:=⟨z,H,I,rw',q⟩
 exact subscriptTail_builtinR (x:=w) pl.typeIs slot_tuple_getitem.lookup
  (getItem_tuple (j:=j) (Q:=λ r s'=>r=w/\EP X pins σ Q r s') pl (by left) (by left) (by rw[uap,← hl];exact h1) (by simpa using ew) ⟨rfl,fin⟩) hs
theorem zmt (its:List Value)(n j:Nat)(u:Value):Obj.mapSeq (·.setIfInBounds j u) { cls:=.type "list",data:=.seq its.toArray n }={ cls:=.type "list",data:=.seq (its.set j u).toArray n }:=by
 simp [Obj.mapSeq]
theorem Inv.lst {pins:List (Addr × Obj)}{σ:St}{H:Hp}{s:Shared}{p:Addr}{xs:List V}(I:Inv X pins σ H s)(h:H p=some (.lst xs)) :
  ∃ (its:List Value)(n:Nat),Vals xs its/\s.heap.get? p=some { cls:=.type "list",data:=.seq its.toArray n }/\xs.length<=sizeLine:=by
 obtain⟨z,its,n,r,e⟩:=I.hok p _ h
 exact⟨its,n,r,e,z⟩
theorem Inv.lstUpd {pins:List (Addr × Obj)}{σ:St}{H:Hp}{s:Shared}{p:Addr}{xs ys:List V}{its its':List Value}{n n':Nat}{f:Obj->Obj}(I:Inv X pins σ H s)(h:H p=some (.lst xs))
  (ho:s.heap.get? p=some { cls:=.type "list",data:=.seq its.toArray n }) (hf:f { cls:=.type "list",data:=.seq its.toArray n }={ cls:=.type "list",data:=.seq its'.toArray n' }) (r:Vals ys its') (hz:ys.length<=sizeLine) (t:Nat) :
  Inv X pins σ (upd H p (.lst ys)) { s with heap:=s.heap.update p f,toks:=t }:=by
 have e:(s.heap.update p f).get? p=some { cls:=.type "list",data:=.seq its'.toArray n' }:=by
  rw[Heap.get?_update_self f ho (by rw[hf] <;> rfl),hf]
 refine I.write (x:=p) (e:=p) (by rw[h];trivial) (.inl rfl) (λ b u hb q=>(Heap.get?_update_other _ _ (Ne.symm hb)).trans q) ⟨_,e⟩ ?_
 exact⟨hz,its',n',r,e⟩
inductive rSetL_i  (o:V) (i:V) (v:V) (H:Hp) (Q:Hp->Prop):Prop
 | mk:∀ p xs k j,(o=.ref p)->(i=.int k)->(H p=some (.lst xs))->(ixN xs.length k=some j)->(Q (upd H p (.lst (xs.set j v))))->rSetL_i o i v H Q
def rSetL :V->V->V->Hp->(Hp->Prop)->Prop:=λ o i v H Q=>rSetL_i o i v H Q
theorem zdj:PSet X rSetL:=by
 intro pins s σ H o i v ov iv u Q I ro ri rv h
 obtain⟨p,xs,k,j,rfl,rfl,hp,hj,q⟩:=h
 cases ro
 obtain⟨t,rfl⟩:=ri
 obtain⟨its,n,r,ho,hz⟩:=I.lst hp
 obtain⟨h1,h2,h3,h4⟩:=zkv hj
 have hl:=r.length
 have hn:=line63
 have I':Inv X pins σ (upd H p (.lst (xs.set j v))) { s with heap:=s.heap.update p (Obj.mapSeq (·.setIfInBounds j u)) } :=
  I.lstUpd hp ho (zmt its n j u) (r.set rv j) (by rw[uc2];exact hz) s.toks
 by_cases h0:0<=k
 ·have hk:k.toNat=j:=by
   rw[seqIndex_of h0 h4] at h1
   exact ubj h1
  exact PySem.W.ki_setAt ho h0 (by left) (by rw[uap,← hl];exact h4) (by rw[hk];exact⟨_,I',q⟩)
 ·have hk:(k+(its.toArray.size:Int)).toNat=j:=by
   rw[seqIndex_neg (by left) h3] at h1
   rw[uap,← hl]
   exact ubj h1
  exact PySem.W.ki_setBack ho (by left) (by rw[uap,← hl];exact h3) (by left) (by rw[hk];exact⟨_,I',q⟩)
theorem zit (lo hi:Option Int)(n:Nat):(sliceBounds lo hi none n).1=((HT.sIx n 0 lo:Nat):Int)/\(sliceBounds lo hi none n).2.1=((HT.sIx n n hi:Nat):Int)/\(sliceBounds lo hi none n).2.2=1:=by
 refine⟨?_,?_,rfl⟩
 ·cases lo with
  | none=>simp [sliceBounds,HT.sIx]
  | some i =>
   simp only [sliceBounds,HT.sIx,Option.getD_none,show (1:Int)>0 by decide,if_true]
   by_cases h:i<0
   ·simp only [h,if_true] <;> left
   ·simp only [h,if_false] <;> left
 ·cases hi with
  | none=>simp [sliceBounds,HT.sIx]
  | some i =>
   simp only [sliceBounds,HT.sIx,Option.getD_none,show (1:Int)>0 by decide,if_true]
   by_cases h:i<0
   ·simp only [h,if_true] <;> left
   ·simp only [h,if_false] <;> left
theorem zg2 (its:List Value)(lo hi:Option Int):slicePick its.toArray lo hi none=((its.drop (HT.sIx its.length 0 lo)).take (HT.sIx its.length its.length hi-HT.sIx its.length 0 lo)).toArray:=by
 obtain⟨h1,h2,h3⟩:=zit lo hi its.toArray.size
 unfold slicePick
 rw[h1,h2,h3]
 simp only [sliceRange_one,pick_run,uap] <;> rfl
inductive rSlL_i (K:uac)(x:V)(lo:Option Int)(hi:Option Int)(H:Hp)(Q:VK):Prop
 | mk:∀ a xs,(x=.ref a)->(SqL K H a xs)->(∀ p,H p=none->Q (.ref p) (upd H p (.lst (cutV xs lo hi))))->rSlL_i K x lo hi H Q
def rSlL (K:uac):V->Option Int->Option Int->Hp->VK->Prop:=λ x lo hi H Q=>rSlL_i K x lo hi H Q
theorem znq:SlR X (rSlL X.K):=by
 intro pins s σ H x v vl vu lo hi sl Q I rx hs pl pu h
 obtain⟨a,xs,rfl,hx,q⟩:=h
 cases rx
 obtain⟨its,r,ht,hz⟩:=I.list hx
 have hlen:=r.length
 refine⟨"list",_,slot_list_getitem.lookup,ht.isList.typeIs,?_⟩
 refine wpAny_getItem_list_slice ht.isList hs pl pu .none (by simp) ?_ (by rw[uap] <;> left)
 rw[zg2,← hlen]
 refine⟨.ref s.heap.objs.size,_,I.laid (t':=s.toks) (o:=.lst (cutV xs lo hi)) (λ b ob q=>Heap.get?_push_of_some _ q) (uai _) ?_,rfl,q _ (I.hok.fresh (uai _))⟩
 exact⟨ubt (zfj xs lo hi) hz,_,0,(r.drop (HT.sIx xs.length 0 lo)).take (HT.sIx xs.length xs.length hi-HT.sIx xs.length 0 lo),Heap.get?_push_size _ rfl⟩
def flatV:V->Bool
 | .non=>true
 | .bl _=>true
 | .int _=>true
 | .str _=>true
 | _=>false
def eqV:V->V->Bool
 | .non,.non=>true
 | .bl a,.bl b=>a==b
 | .bl a,.int b=>(if a then 1 else 0)==b
 | .int a,.bl b=>a==(if b then 1 else 0)
 | .int a,.int b=>a==b
 | .str a,.str b=>a==b
 | _,_=>false
theorem zup {A:Around}{s:Shared}{y x:V}{u v:Value}(ry:RelV y u)(rx:RelV x v)(fy:flatV y=true)(fx:flatV x=true):SeqAt.EqAt A s u v (eqV y x):=by
 cases y with
 | non =>
  cases ry
  cases x with
  | non=>cases rx;exact SeqAt.EqAt.same _
  | bl b=>cases rx;exact SeqAt.EqAt.none_bool b
  | int b=>obtain⟨t,rfl⟩:=rx;exact SeqAt.EqAt.none_int b t
  | str b=>obtain⟨t,rfl⟩:=rx;exact SeqAt.EqAt.none_str b t
  | _=>exact absurd (show false=true from fx) uau
 | bl a =>
  cases ry
  cases x with
  | non=>cases rx;exact SeqAt.EqAt.bool_none a
  | bl b=>cases rx;exact SeqAt.EqAt.bool_bool a b
  | int b=>obtain⟨t,rfl⟩:=rx;exact SeqAt.EqAt.bool_int a b t
  | str b=>obtain⟨t,rfl⟩:=rx;exact SeqAt.EqAt.bool_str a b t
  | _=>exact absurd (show false=true from fx) uau
 | int a =>
  obtain⟨t',rfl⟩:=ry
  cases x with
  | non=>cases rx;exact SeqAt.EqAt.int_none a t'
  | bl b=>cases rx;exact SeqAt.EqAt.int_bool a t' b
  | int b=>obtain⟨t,rfl⟩:=rx;exact SeqAt.EqAt.int_int a t' b t
  | str b=>obtain⟨t,rfl⟩:=rx;exact SeqAt.EqAt.int_str a t' b t
  | _=>exact absurd (show false=true from fx) uau
 | str a =>
  obtain⟨t',rfl⟩:=ry
  cases x with
  | non=>cases rx;exact SeqAt.EqAt.str_none a t'
  | bl b=>cases rx;exact SeqAt.EqAt.str_bool a t' b
  | int b=>obtain⟨t,rfl⟩:=rx;exact SeqAt.EqAt.str_int a t' b t
  | str b=>obtain⟨t,rfl⟩:=rx;exact SeqAt.EqAt.str_str a t' b t
  | _=>exact absurd (show false=true from fx) uau
 | _=>exact absurd (show false=true from fy) uau
def eqU (x:V)(u:Value):Bool:=match u with
 | .none=>eqV .non x
 | .bool b=>eqV (.bl b) x
 | .int i _=>eqV (.int i) x
 | .str z _=>eqV (.str z) x
 | _=>false
theorem zse {x y:V}{u:Value}(r:RelV y u)(f:flatV y=true):eqU x u=eqV y x:=by
 cases y with
 | non=>cases r;rfl
 | bl b=>cases r;rfl
 | int i=>obtain⟨t,rfl⟩:=r;rfl
 | str z=>obtain⟨t,rfl⟩:=r;rfl
 | _=>exact absurd (show false=true from f) uau
theorem zfr {x:V}:∀ {xs:List V}{us:List Value},Vals xs us->xs.all flatV=true->us.any (eqU x)=xs.any λ y=>eqV y x
 | _,_,.nil,_=>rfl
 | y::xs,u::us,.cons r t,f=>by
  rw[List.all_cons,ucb] at f
  rw[ug4,ug4,zse r f.1,zfr t f.2]
theorem zdo {A:Around}{s:Shared}{x:V}{v:Value}(rx:RelV x v)(fx:flatV x=true):∀ {xs:List V}{us:List Value},Vals xs us->xs.all flatV=true->∀ u∈us,SeqAt.EqAt A s u v (eqU x u)
 | _,_,.nil,_=>λ u hu=>by cases hu
 | y::xs,u::us,.cons r t,f=>λ u' hu=>by
  rw[List.all_cons,ucb] at f
  rcases uam.mp hu with rfl | hu
  ·rw[zse r f.1];exact zup r rx f.1 fx
  ·exact zdo rx fx t f.2 u' hu
def inV (x:V)(xs:List V):Bool:=xs.any λ y=>eqV y x
inductive rIn_i (K:uac)(neg:Bool)(x:V)(y:V)(H:Hp)(Q:VK):Prop
 | mk:∀ p xs,(y=.ref p)->((SqL K H p xs\/SqT K H p xs))->(flatV x=true)->(xs.all flatV=true)->(Q (.bl (if neg then !inV x xs else inV x xs)) H)->rIn_i K neg x y H Q
def rIn (K:uac)(neg:Bool):R2:=λ x y H Q=>rIn_i K neg x y H Q
theorem ziy:OpR X (compareOp .In) (rIn X.K false):=by
 intro pins s σ H x y v u Q I rx ry h
 obtain⟨p,xs,rfl,hq,fx,fs,q⟩:=h
 cases ry
 rcases hq with hq | hq
 ·obtain⟨its,r,pl,hz⟩:=I.list hq
  refine SeqAt.in_listAt (eqU x) pl.isList (λ w hw=>zdo rx fx r fs w (by simpa using hw)) ⟨.bl _,H,I,rfl,?_⟩
  rw[show its.toArray.any (eqU x)=its.any (eqU x) by simp,zfr r fs]
  exact q
 ·obtain⟨its,r,pl,hz⟩:=I.tuple hq
  refine SeqAt.in_tupleAt (eqU x) pl (λ w hw=>zdo rx fx r fs w (by simpa using hw)) ⟨.bl _,H,I,rfl,?_⟩
  rw[show its.toArray.any (eqU x)=its.any (eqU x) by simp,zfr r fs]
  exact q
theorem zeb:OpR X (compareOp .NotIn) (rIn X.K true):=by
 intro pins s σ H x y v u Q I rx ry h
 obtain⟨p,xs,rfl,hq,fx,fs,q⟩:=h
 cases ry
 rcases hq with hq | hq
 ·obtain⟨its,r,pl,hz⟩:=I.list hq
  refine SeqAt.notIn_listAt (eqU x) pl.isList (λ w hw=>zdo rx fx r fs w (by simpa using hw)) ⟨.bl _,H,I,rfl,?_⟩
  rw[show its.toArray.any (eqU x)=its.any (eqU x) by simp,zfr r fs]
  exact q
 ·obtain⟨its,r,pl,hz⟩:=I.tuple hq
  refine SeqAt.notIn_tupleAt (eqU x) pl (λ w hw=>zdo rx fx r fs w (by simpa using hw)) ⟨.bl _,H,I,rfl,?_⟩
  rw[show its.toArray.any (eqU x)=its.any (eqU x) by simp,zfr r fs]
  exact q
inductive call_len_seq_i (K:uac)(xs:List V)(H:Hp)(Q:VK):Prop
 | mk:∀ p ys,(xs=[.ref p])->((SqL K H p ys\/SqT K H p ys))->(Q (.int ys.length) H)->call_len_seq_i K xs H Q
theorem zas:CallR X (.builtin "len") (call_len_seq_i X.K):=by
 intro pins s σ H xs us Q I r h
 obtain⟨p,ys,rfl,hq,q⟩:=h
 obtain⟨u,rfl,rx⟩:=vals1 r
 cases rx
 have hn:=line63
 rcases hq with hq | hq
 ·obtain⟨its,r',pl,hz⟩:=I.list hq
  have hlen:=r'.length
  exact Calls.call_len_list pl.isList (by simp only [uap] <;> left) ⟨.int ys.length,H,I.tok _,⟨s.toks+1,by rw[uap,hlen]⟩,q⟩
 ·obtain⟨its,r',pl,hz⟩:=I.tuple hq
  have hlen:=r'.length
  exact len_tuple pl (by simp only [uap] <;> left) ⟨.int ys.length,H,I.tok _,⟨s.toks+1,by rw[uap,hlen]⟩,q⟩
inductive call_tuple_of_i (K:uac)(xs:List V)(H:Hp)(Q:VK):Prop
 | mk:∀ p ys,(xs=[.ref p])->(((SqL K H p ys/\∀ l,H l=none->Q (.ref l) (upd H l (.tup ys)))\/(SqT K H p ys/\Q (.ref p) H)))->call_tuple_of_i K xs H Q
theorem zdt:CallR X (.type "tuple") (call_tuple_of_i X.K):=by
 intro pins s σ H xs us Q I r h
 obtain⟨p,ys,rfl,h⟩:=h
 obtain⟨u,rfl,rx⟩:=vals1 r
 cases rx
 rcases h with ⟨hq,q⟩ | ⟨hq,q⟩
 ·obtain⟨its,r',pl,hz⟩:=I.list hq
  have hlen:=r'.length
  refine call_tuple_list pl.isList (λ h' kp=>?_) (by simp only [uap] <;> left)
  have I1:Inv X pins σ H { s with heap:=h' }:=I.kept (t':=s.toks) kp
  have I2:Inv X pins σ (upd H h'.objs.size (.tup ys)) { s with heap:=h'.push { cls:=.type "tuple",data:=.seq its.toArray } } :=
   I1.laid (t':=s.toks) (λ b o e=>Heap.get?_push_of_some _ e) (uai _) (show ObjOk X.prog X.w _ _ _ (.tup ys) from ⟨hz,its,r',TupN.new _ _⟩)
  exact⟨.ref h'.objs.size,_,I2,rfl,q _ (I1.hok.fresh (uai _))⟩
 ·obtain⟨its,r',pl,hz⟩:=I.tuple hq
  exact call_tuple_same pl ⟨.ref p,H,I,rfl,q⟩
def tyV (K:uac)(T:String)(x:V)(H:Hp):Prop:=match x with
 | .str _=>T="str"
 | .int _=>T="int"
 | .ref p => (T = "list" /\ ∃ xs, SqL K H p xs) \/ (T = "tuple" /\ ∃ o, K.lookup p = some o /\ o.cls = .type "tuple" /\ o.dict = none) \/
     (T="dict"/\((∃ kvs,H p=some (.dK kvs))\/∃ kvs,H p=some (.dT kvs)))\/(T="set"/\∃ S n,H p=some (.set S n))
 | _=>False
theorem zts {pins:List (Addr × Obj)}{σ:St}{H:Hp}{s:Shared}{T:String}{x:V}{v:Value}(I:Inv X pins σ H s)(r:RelV x v)(ty:tyV X.K T x H) :
  s.TypeIs v T/\∀ a,v=.ref a->∃ ob,s.heap.get? a=some ob/\ob.dict=none:=by
 cases x with
 | str z =>
  obtain⟨t,rfl⟩:=r
  cases (show T="str" from ty)
  exact⟨typeIs_str s z t,λ _ e=>nomatch e⟩
 | int i =>
  obtain⟨t,rfl⟩:=r
  cases (show T="int" from ty)
  exact⟨typeIs_int s i t,λ _ e=>nomatch e⟩
 | ref p =>
  cases r
  rcases ty with ⟨rfl,xs,hq⟩ | ⟨rfl,o,hk,hc,hd⟩ | ⟨rfl,hk⟩ | ⟨rfl,S,n,hk⟩
  ·obtain⟨its,_,pl,_⟩:=I.list hq
   refine⟨pl.isList.typeIs,λ a e=>?_⟩
   cases e
   obtain⟨o,n,e,c,hd,_⟩:=pl
   exact⟨o,e,hd⟩
  ·refine⟨⟨o,I.kIn p o hk,hc⟩,λ a e=>?_⟩
   cases e
   exact⟨o,I.kIn _ o hk,hd⟩
  ·have z:∃ o,s.heap.get? p=some o/\o.ExactDict:=by
    rcases hk with ⟨kvs,hk⟩ | ⟨kvs,hk⟩
    ·obtain⟨_,_,_,_,o,_,_,e,ex,_⟩:=I.hok p _ hk
     exact⟨o,e,ex⟩
    ·obtain⟨_,_,_,_,o,_,_,e,ex,_⟩:=I.hok p _ hk
     exact⟨o,e,ex⟩
   obtain⟨o,e,ex⟩:=z
   refine⟨⟨o,e,ex.1⟩,λ a e2=>?_⟩
   cases e2
   exact⟨o,e,ex.2.1⟩
  ·obtain⟨o,_,_,_,e,ex,_⟩:=I.hok p _ hk
   refine⟨⟨o,e,ex.1⟩,λ a e2=>?_⟩
   cases e2
   exact⟨o,e,ex.2.1⟩
 | _=>exact False.elim ty
def tBM (K:uac)(T:String)(r:V->List V->Hp->VK->Prop)(to:TE)(t:TA):TE:=λ σ H Q=>to σ H λ x H1=>tyV K T x H1/\t σ H1 λ xs H2=>r x xs H2 Q
variable {o e:Expr}{es:List Expr}{to:TE}{t:TA}{name:Str}{apos cpos:Pos}{T id:String}{r:V->List V->Hp->VK->Prop}
theorem zfu (pa:PlainAttrs T)(slot:Slot T name id)(hty:typeOf (.builtin id)=pure (.type "method_descriptor"))(hm:MtR X id r)(ho:PE X o to)(ha:PA X (e::es) t)
  (hbase:attributeBase o name X.env (eval o X.env)=eval o X.env:=by rfl)
  (hfew:((backTo cpos (starEach (e::es) X.env)).all (λ x=>!x.1)&&(backToKw cpos (keywordEach [] X.env)).all (λ x=>x.1.isSome)
  &&decide ((e::es).length+([]:List Keyword).length+(if ([]:List Keyword).isEmpty then 0 else 1)<30))=true:=by rfl)
  (hline:(apos.endLine==cpos.line)=true:=by rfl) (hs:starEach (e::es) X.env=(false,eval e X.env)::starEach es X.env:=by rfl) (hplain:(backTo cpos (starEach es X.env)).any (·.1)=false:=by rfl) :
  PE X (.Call (.Attribute o name apos) (e::es) [] cpos) (tBM X.K T r to t):=by
 intro pins s σ H Q I h
 refine wpAny_Call_method_late hbase hfew hline rfl (thn (ho pins s σ H _ I h) λ v s1 ⟨x,H1,I1,r1,ty,q1⟩=>?_)
 obtain⟨h1,h2⟩:=zts I1 r1 ty
 refine⟨T,id,pa,slot,hty,h1,h2,?_⟩
 have hA:=ha cpos pins s1 σ H1 _ I1 q1
 rw[hs] at hA ⊢
 refine Calls.callWith_builtin (by show (false||(backTo cpos (starEach es X.env)).any (·.1))=false;rw[hplain] <;> rfl) (Calls.evalArgs_plain ?_)
 exact thn hA λ us s2 ⟨vs,H2,I2,r2,q2⟩=>hm pins s2 σ H2 x vs v us Q I2 r1 r2 q2
end
end L2
namespace L2
open PySem PySem.Spec PyProof.Rows
def MtM (X:Cx)(id:String)(r:V->List V->Hp->VK->Prop):Prop :=
 ∀ (pins:List (Addr × Obj))(s:Shared)(σ:St)(H:Hp)(x:V)(xs:List V)(v:Value)(us:List Value)(Q:VK),Inv X pins σ H s->RelV x v->Vals xs us->r x xs H Q ->
  wpAny (model X.prog X.w) X.A (call (.builtin id) (v::us)) (EP X pins σ Q) X.xe s
theorem Vals.one:∀ {x:V}{us:List Value},Vals [x] us->∃ u,us=[u]/\RelV x u
 | _,_,.cons r .nil=>⟨_,rfl,r⟩
theorem Vals.two:∀ {x y:V}{us:List Value},Vals [x,y] us->∃ u v,us=[u,v]/\RelV x u/\RelV y v
 | _,_,_,.cons r (.cons q .nil)=>⟨_,_,rfl,r,q⟩
theorem Vals.eraseIdx:∀ {xs:List V}{us:List Value}(i:Nat),Vals xs us->Vals (xs.eraseIdx i) (us.eraseIdx i)
 | _,_,_,.nil=>.nil
 | _,_,0,.cons _ t=>t
 | _,_,i+1,.cons r t=>.cons r (Vals.eraseIdx i t)
theorem Vals.reverse {xs:List V}{us:List Value}(h:Vals xs us):Vals xs.reverse us.reverse:=by
 induction h with
 | nil=>exact .nil
 | cons r t ih=>rw[ud9,ud9];exact Vals.append ih (.cons r .nil)
theorem Vals.rep {xs:List V}{us:List Value}(h:Vals xs us):∀ k:Nat,Vals (ua0 k xs).flatten (ua0 k us).flatten
 | 0=>.nil
 | k+1=>by
  rw[udi,udi,uea,uea]
  exact Vals.append h (Vals.rep h k)
theorem zi9 {α:Type}:∀ (l:List α)(i:Nat),(l.eraseIdx i).length<=l.length
 | [],_=>uai _
 | _::_,0=>uc5 _
 | _::r,i+1=>ugd (zi9 r i)
theorem zjd (its:List Value):∀ (k:Nat)(acc:List Value),
  List.foldl (λ x1 x2=>x1++x2) acc.toArray (ua0 k its.toArray)=(acc++(ua0 k its).flatten).toArray
 | 0,acc=>by simp
 | k+1,acc=>by
  have e:acc.toArray++its.toArray=(acc++its).toArray:=by simp
  have e2:(acc++its)++(ua0 k its).flatten=acc++(ua0 (k+1) its).flatten:=by
   rw[udi,uea,ueb]
  rw[← e2,← zjd its k (acc++its),← e,udi,List.foldl_cons]
section
variable {X:Cx}{pins:List (Addr × Obj)}{σ:St}{H:Hp}{s:Shared}{l b:Addr}{xs ys zs:List V}
theorem Inv.lset {its its':List Value}{n:Nat}{f:Array Value->Array Value}{t':Nat}(I:Inv X pins σ H s)(hH:H l=some (.lst xs))
  (e:s.heap.get? l=some { cls:=.type "list",data:=.seq its.toArray n }) (hf:f its.toArray=its'.toArray) (hv:Vals ys its') (hz:ys.length<=sizeLine) :
  Inv X pins σ (upd H l (.lst ys)) { s with heap:=s.heap.update l (Obj.mapSeq f),toks:=t' }:=by
 have q:=PySem.IsL.update e f
 rw[hf] at q
 refine I.write (x:=l) (e:=l) (by rw[hH];exact trivial) (.inl rfl) (λ b' u hb hu=>(Heap.get?_update_other s.heap (Obj.mapSeq f) (Ne.symm hb)).trans hu) ⟨_,q⟩ ?_
 exact⟨hz,its',_,hv,q⟩
theorem Inv.lnew {its:List Value}{t':Nat}(I:Inv X pins σ H s)(hv:Vals ys its)(hz:ys.length<=sizeLine) :
  Inv X pins σ (upd H s.heap.objs.size (.lst ys)) { s with heap:=s.heap.push { cls:=.type "list",data:=.seq its.toArray },toks:=t' } :=
 I.laid (λ _ _ q=>Heap.get?_push_of_some _ q) (uai _) ⟨hz,its,0,hv,Heap.get?_push_size _ rfl⟩
theorem Inv.fresh (I:Inv X pins σ H s):H s.heap.objs.size=none:=I.hok.fresh (uai _)
theorem Inv.lstM (I:Inv X pins σ H s)(hH:H l=some (.lst xs)):xs.length<=sizeLine/\∃ (its:List Value)(n:Nat),Vals xs its/\xs.length=its.length/\s.heap.get? l=some { cls:=.type "list",data:=.seq its.toArray n }:=by
 obtain⟨z,its,n,r,e⟩:=I.hok l _ hH
 exact⟨z,its,n,r,r.length,e⟩
theorem notLongL {n:Nat}(h:n<=sizeLine):Builtin.List.listTooLong n=false:=by
 unfold Builtin.List.listTooLong
 exact decide_eq_false (by left)
end
section
variable {X:Cx}
inductive rAppend_i  (x:V) (vs:List V) (H:Hp) (Q:VK):Prop
 | mk:∀ l xs y,(x=.ref l)->(vs=[y])->(H l=some (.lst xs))->(xs.length<sizeLine)->(Q .non (upd H l (.lst (xs++[y]))))->rAppend_i x vs H Q
def rAppend :V->List V->Hp->VK->Prop:=λ x vs H Q=>rAppend_i x vs H Q
theorem zdn:MtM X "list.append" rAppend:=by
 intro pins s σ H x vs v us Q I rx rv h
 obtain⟨l,xs,y,rfl,rfl,hH,hz,q⟩:=h
 cases rx
 obtain⟨u,rfl,ru⟩:=rv.one
 obtain⟨z,its,n,r,hl,e⟩:=I.lstM hH
 refine ufl F.slot_list_append ⟨_,e,rfl⟩ F.entry_list_append (F.args_list_append_2 _ _) (PySem.list_append l its.toArray n u (by rw[uap];left)) ⟨e,?_⟩
 refine⟨.non,_,I.lset (its':=its++[u]) hH e (by simp) (r.append (.cons ru .nil)) ?_,rfl,q⟩
 rw[uar,uax]
 left
inductive rExtend_i  (x:V) (vs:List V) (H:Hp) (Q:VK):Prop
 | mk:∀ l b xs zs,(x=.ref l)->(vs=[.ref b])->(H l=some (.lst xs))->(H b=some (.lst zs))->(xs.length+zs.length<=sizeLine)->(Q .non (upd H l (.lst (xs++zs))))->rExtend_i x vs H Q
def rExtend :V->List V->Hp->VK->Prop:=λ x vs H Q=>rExtend_i x vs H Q
theorem zok:MtM X "list.extend" rExtend:=by
 intro pins s σ H x vs v us Q I rx rv h
 obtain⟨l,b,xs,zs,rfl,rfl,hH,hB,hz,q⟩:=h
 cases rx
 obtain⟨u,rfl,ru⟩:=rv.one
 cases ru
 obtain⟨z,its,n,r,hl,e⟩:=I.lstM hH
 obtain⟨z2,its2,n2,r2,hl2,e2⟩:=I.lstM hB
 have hsz:its.toArray.size+its2.toArray.size<=sizeLine:=by rw[uap,uap];left
 have hlong:¬ (!its.toArray.isEmpty&&Builtin.List.listTooLong (its.toArray.size+its2.toArray.size))=true:=by
  rw[notLongL hsz,Bool.and_false]
  exact uau
 refine ufl F.slot_list_extend ⟨_,e,rfl⟩ F.entry_list_extend (F.args_list_extend_2 _ _)
  (AutoSeq1.list_extend_list_list_0 l its.toArray n b its2.toArray n2 hlong (by rw[uap];left) (by left)) ⟨e,e2,?_⟩
 refine⟨.non,_,I.lset (its':=its++its2) hH e (by simp) (r.append r2) ?_,rfl,q⟩
 rw[uar]
 left
inductive rPopAt_i  (x:V) (vs:List V) (H:Hp) (Q:VK):Prop
 | mk:∀ l xs i k y,(x=.ref l)->(vs=[.int i])->(H l=some (.lst xs))->(-(2^63)<=i)->(i<2^63)->(seqIndex? i xs.length=some k)->(xs[k]?=some y)->(Q y (upd H l (.lst (xs.eraseIdx k))))->rPopAt_i x vs H Q
def rPopAt :V->List V->Hp->VK->Prop:=λ x vs H Q=>rPopAt_i x vs H Q
theorem zq7:MtM X "list.pop" rPopAt:=by
 intro pins s σ H x vs v us Q I rx rv h
 obtain⟨l,xs,i,k,y,rfl,rfl,hH,h1,h2,hk,hy,q⟩:=h
 cases rx
 obtain⟨u,rfl,ru⟩:=rv.one
 obtain⟨t,rfl⟩:=ru
 obtain⟨z,its,n,r,hl,e⟩:=I.lstM hH
 obtain⟨w,hw,rw'⟩:=r.get hy
 refine ufl F.slot_list_pop ⟨_,e,rfl⟩ F.entry_list_pop (F.args_list_pop_2 _ _)
  (MeetsSeq.list_pop_at l its.toArray n i t k w (fitsIndex_both h1 h2) (by rw[uap,← hl];exact hk) (by rw[← ucs];exact hw) (by rw[uap];left)) ⟨e,?_⟩
 refine⟨y,_,I.lset (its':=its.eraseIdx k) hH e ?_ (r.eraseIdx k) ?_,rw',q⟩
 ·show its.toArray.eraseIdxIfInBounds k=(its.eraseIdx k).toArray
  rw[List.eraseIdxIfInBounds_toArray]
 ·have:=zi9 xs k
  left
inductive rRep_i  (x:V) (y:V) (H:Hp) (Q:VK):Prop
 | mk:∀ l k xs,(x=.ref l)->(y=.int k)->(H l=some (.lst xs))->(-(2^63)<=k)->(k<2^63)->(xs.length*k.toNat<=sizeLine)->(∀ p,H p=none->Q (.ref p) (upd H p (.lst (ua0 k.toNat xs).flatten)))->rRep_i x y H Q
def rRep :R2:=λ x y H Q=>rRep_i x y H Q
theorem ztd {α:Type}(xs:List α)(k:Nat):(ua0 k xs).flatten.length=k*xs.length:=by
 induction k with
 | zero=>simp
 | succ k ih=>rw[udi,uea,uar,ih,Nat.succ_mul,ufb]
theorem zt9:OpR X (binaryOp .Mult) rRep:=by
 intro pins s σ H x y v u Q I rx ry h
 obtain⟨l,k,xs,rfl,rfl,hH,h1,h2,hz,q⟩:=h
 cases rx
 obtain⟨t,rfl⟩:=ry
 obtain⟨z,its,n,r,hl,e⟩:=I.lstM hH
 have hlen:its.toArray.size*k.toNat<=sizeLine:=by rw[uap,← hl];exact hz
 have hcap:¬ its.toArray.size*k.toNat>(2^63-1) / 8:=by
  have:(sizeLine:Nat)<=(2^63-1) / 8:=by decide
  left
 have hfit:¬ (!Builtin.List.listFitsIndex k)=true:=by
  rw[fitsIndex_both h1 h2]
  exact uau
 have hlong:¬ Builtin.List.listTooLong (its.toArray.size*k.toNat)=true:=by
  rw[notLongL hlen]
  exact uau
 have hnew:List.foldl (λ x1 x2=>x1++x2) #[] (ua0 (if its.toArray.isEmpty=true then 0 else k.toNat) its.toArray)=(ua0 k.toNat its).flatten.toArray:=by
  have f0:∀ m:Nat,List.foldl (λ x1 x2=>x1++x2) #[] (ua0 m its.toArray)=(ua0 m its).flatten.toArray:=λ m=>by
   have:=zjd its m []
   rw[List.nil_append] at this
   exact this
  rw[f0]
  cases its with
  | nil=>simp
  | cons a r'=>rw[if_neg (by simp)]
 refine wpAny_binaryOp_repeat_ref (T:="list") (U:="int") (by decide) ⟨_,e,rfl⟩ (λ s'=>typeIs_int s' k t) noFill_list_mul F.fills_int_mul F.slot_int_rmul repeat_list F.slot_int_index.lookup
  (ufl F.slot_int_rmul (typeIs_int s k t) F.entry_int_rmul (F.args_int_rmul_2 _ _) (int___rmul___int_list k t l its.toArray n)
   ⟨e,rfl,⟨_,e,rfl⟩,ufl F.slot_list_mul ⟨_,e,rfl⟩ F.entry_list_mul (F.args_list_mul_2 _ _) (AutoListH.list___mul___list_int_3 l its.toArray n k t hfit hcap hlong) ⟨e,?_⟩⟩)
 rw[hnew]
 exact⟨.ref _,_,I.lnew (t':=s.toks) (r.rep k.toNat) (by rw[ztd,Nat.mul_comm];exact hz),rfl,q _ I.fresh⟩
end
section
variable {prog:Program}{w:World}{A:Around}{E:Value->Shared->Prop}{s:Shared}
end
section
variable {X:Cx}
end
end L2
namespace Att
open PySem PySem.W PySem.Calls PyProof.Rows
theorem zff {P:Params}{h:Heap}:∀ (ns:List Int)(vs:List Value),WellAll P h vs (ns.map WData.int)->IntsAre vs ns:=by
 intro ns
 induction ns with
 | nil =>
  intro vs w
  rw[List.map_nil] at w
  cases w
  exact .nil
 | cons n ns ih =>
  intro vs w
  rw[ubg] at w
  cases w with
  | cons a b =>
   cases a
   exact .cons _ _ (ih _ b)
theorem zns {l:OpenLaw}{n:Nat}(hn:l.most=some n){P:Params}{h:Heap}{args:List WData}{vals:List Value}
  (hpre:l.row.toRowW.claim.pre args=true) (hwl:WellAll P h vals args) :
  ∃ a vs ns,vals=[Value.ref a]/\args=[WData.list (ns.map WData.int)]/\h.get? a=some { cls:=.type "list",data:=.seq vs.toArray }/\IntsAre vs ns/\ns.length<=n:=by
 have hsh:WShape.hasAll [] args [.list .int]=true:=(pre_splitW hpre).1
 have hc:l.pre.holds [] { args:=args }=true:=(pre_splitW hpre).2
 obtain⟨d,r,rfl,h1,h2⟩:=hasAllW_cons hsh
 obtain rfl:=hasAllW_nil h2
 obtain⟨xs,rfl,h3⟩:=hasW_list h1
 obtain⟨ns,rfl⟩:=items_int h3
 have hlen:ns.length<=n:=by
  unfold OpenLaw.pre at hc
  have h4:(WTm.not (.lt (.lit (.int (n:Int))) (.len (.arg 0)))).holds [] { args:=[.list (ns.map .int)] }=true:=by
   have h4:=(holds_andW hc).1
   rw[hn] at h4
   exact h4
  have h5:=condW_of h4 (w_not (w_lt w_lit (w_len_list (w_arg rfl))))
  rw[uae] at h5
  refine Nat.le_of_not_lt λ q=>?_
  have q':(n:Int)<((ns.length:Nat):Int):=by left
  first
   | (rw[decide_eq_true q'] at h5;exact absurd h5 (by decide))
   | (simp at h5;left)
 cases hwl with
 | cons w1 w2 =>
  cases w2
  cases w1 with
  | list ho hall=>exact⟨_,_,ns,rfl,rfl,ho,zff ns _ hall,hlen⟩
theorem zn1 (l:OpenLaw)(args:List WData):l.row.toRowW.claim.post args (.bool true) args=true :=
 postW_of (r:=l.row.toRowW) (X:=(true==true))
  (show WShape.has [] (.bool true) .bool=true by first | rfl | decide | simp [WShape.has,WShape.arms,WShape.armsAll])
  (show (WTm.eq .res (.lit (.bool true))).value [] { args:=args,res:=some (.bool true),after:=args }=some (.bool (true==true)) from w_eq_bool (w_res rfl) w_lit) rfl
theorem attach_call {l:OpenLaw}{n:Nat}{q:Program}{loose:List Str}{XP:(Str->Option Value)->Heap->Prop}{YP:World->Heap->Prop}{d:DefRec}
  (hn:l.most=some n) (hdf:d.params.defaults=[])
  (call:∀ (w:World)(s₀ s₁:Shared)(mg mb:Str->Option Value)(fa:Addr)(o:Obj)(pm cd doc:Value)(a:Addr)(vs:List Value)(ns:List Int),
   Ground q loose [] XP w s₀ mg mb s₁.heap->YP w s₁.heap ->
   s₁.heap.get? fa=some o->o.data=.func (docDef d.name d.params d.body d.scope pm cd doc)->s₁.heap.CodeRec cd d.name->mg d.name=some (.ref fa) ->
   s₁.heap.get? a=some { cls:=.type "list",data:=.seq vs.toArray }->IntsAre vs ns->ns.length<=n->s₁.gens=#[] ->
   codeAny (model l.prog w) callerA (.call (.ref fa) ⟨[.ref a],[]⟩) (λ r s'=>r=.ok (.ret (.bool true))/\OldK s₁.heap s'.heap/\s'.os=s₁.os/\AllBare s'.gens) s₁) :
  WalkO q loose XP YP l.row.toRowW d [] (λ f vs=>PySem.call f vs):=by
 intro w s₀ s₁ mg mb G Y fa o pm cd doc dV kV ho hd hcd hD hmg hg args vals as hpre hlay hrd hwl hlo
 obtain rfl:dV=.none:=Dflts.none hD hdf
 obtain rfl:kV=.none:=Dflts.noKw hD
 obtain⟨a,vs,ns,rfl,rfl,hobj,hints,hlen⟩:=zns hn hpre hwl
 refine enter_call (ud7 (call w s₀ s₁ mg mb fa o pm cd doc a vs ns G Y ho (fd_plain hd) hcd hmg hobj hints hlen hg) λ r s' hq=>?_)
 obtain⟨rfl,h2,h3,h4⟩:=hq
 exact⟨.inl ⟨.bool true,.bool true,[],rfl,λ _=>rfl,.bool true,zn1 l _,λ _=>⟨ue3,λ _ hm=>(nomatch hm)⟩⟩,h2,h3,h4⟩
section
variable {prog:Program}{w:World}{A:Around}{E:Value->Shared->Prop}{s:Shared}{K:Frag}
end
end Att
namespace L2
open PySem PySem.Spec PyProof.Rows
theorem zin:∀ {vs:List Value}{ns:List Int},IntsAre vs ns->Vals (ns.map V.int) vs
 | _,_,.nil=>.nil
 | _,_,.cons n t h=>.cons ⟨t,rfl⟩ (zin h)
def Only (H:Hp):Prop:=∀ b,H b=none\/∃ o xs,H b=some (.frz o (.lst xs))
theorem zq9 {P:Program}{w:World}{K:uac}{mg mb:Str->Option Value}{CX:CXT}{k:Nat}{fa a:Addr}{fd:FuncData}{x:Str}{sp:Sp}{s₁:Shared}{vs:List Value}{ns:List Int}
  (KX:K.In s₁.heap) (hns:s₁.heap.Ns mainGlobals mg) (hb:s₁.heap.Ns builtinsNs mb) (hbb:∀ x:Str,x≠"__name__"->mb x=bootBuiltins x) (hlim:s₁.heap.NoLimit) (hg:s₁.gens=#[])
  (ha:s₁.heap.get? a=some { cls:=.type "list",data:=.seq vs.toArray }) (hi:IntsAre vs ns) (hl:ns.length<=sizeLine) (hr:Room k callerA)
  (F:∀ base:Heap,K.In base->base.Ns mainGlobals mg->FnOk P w K mg base CX k fa fd [x] sp) (hbind:∀ (s:Shared)(u:Value),BindsTo s fd ⟨[u],[]⟩ [(x,u)])
  (hsp:∀ H:Hp,Only H->SqL K H a (ns.map V.int)->sp [.ref a] H (λ v _=>v=.bl true) λ _ _ _=>False)
  (hCX:∀ H e s',CX [] H s₁ (λ _ _ _=>False) e s'->False) :
  codeAny (model P w) callerA (.call (.ref fa) ⟨[.ref a],[]⟩) (λ r s'=>r=.ok (.ret (.bool true))/\OldK s₁.heap s'.heap/\s'.os=s₁.os/\AllBare s'.gens) s₁:=by
 have rv:=zin hi
 have lenV:=hi.length
  -- from an abstract heap in which nothing but the script may be tracked
 have core : ∀ H : Hp, Only H → SqL K H a (ns.map V.int) → HOk P w H s₁.heap → (∀ b, H b ≠ none → b = a) → (H a ≠ none → K.lookup a = none) →
     codeAny (model P w) callerA (.call (.ref fa) ⟨[.ref a],[]⟩) (λ r s'=>r=.ok (.ret (.bool true))/\OldK s₁.heap s'.heap/\s'.os=s₁.os/\AllBare s'.gens) s₁:=by
  intro H hO hS hok hA hK
  have base_of:∀ {b:Addr}{o:Obj},s₁.heap.get? b=some o->H b=none->(hidT s₁.heap H).get? b=some o:=λ e n=>zrh e n
  have noA:∀ {b:Addr}{o:Obj}{es:Array DictEntry}{ep:Nat},s₁.heap.get? b=some o->o.data=.dict es ep->H b=none:=λ {b o es ep} e d=>by
   cases q:H b with
   | none=>rfl
   | some u =>
    have e':b=a:=hA b (by rw[q];simp)
    subst e'
    rw[ha] at e;cases e
    have d':Data.seq vs.toArray _=Data.dict es ep:=d
    cases d'
  have nsK:∀ {b:Addr}{m:Str->Option Value},s₁.heap.Ns b m->(hidT s₁.heap H).Ns b m:=λ {b m} ⟨o,es,ep,e,d,r⟩=>⟨o,es,ep,base_of e (noA e d),d,r⟩
  have hKb:K.In (hidT s₁.heap H):=λ b o e=>base_of (KX b o e) (by
   cases q:H b with
   | none=>rfl
   | some u =>
    have e':b=a:=hA b (by rw[q];simp)
    subst e'
    rw[hK (by rw[q];simp)] at e;cases e)
  have hM:Mod K mg (hidT s₁.heap H):=⟨hKb,nsK hns,⟨mb,nsK hb,hbb⟩,let ⟨mc,h1,h2⟩:=hlim;⟨mc,nsK h1,h2⟩⟩
  have e0:Env0 P w K mg (hidT s₁.heap H) callerA [] s₁ H:=⟨rfl,hM,λ b o e=>ztb e,ufa (zo5 _ _),trivial,λ b hb=>absurd (show b∈([]:List Addr) from hb) (by simp),hok,.of_eq hg⟩
  refine ud7 ((F _ hKb (nsK hns)).run callerA [] s₁ H ⟨[.ref a],[]⟩ [.ref a] [.ref a] _ _ hr e0 (hbind s₁ (.ref a)) (.cons rfl .nil) (hsp H hO hS)) λ r s' h=>?_
  cases r with
  | error e=>exact (hCX H e s' h).elim
  | ok fl =>
   cases fl with
   | next=>exact False.elim h
   | brk=>exact False.elim h
   | cont=>exact False.elim h
   | ret u =>
    obtain⟨v,H',os,bare,un,hok',r',q⟩:=h
    have q':v=.bl true:=q
    subst q'
    obtain rfl:u=Value.bool true:=r'
    refine⟨rfl,OldK.of_keep λ b o e=>?_,os,bare⟩
    cases q:H b with
    | none=>exact un.keep b o e q (by intro z;exact absurd (show b∈([]:List Addr) from z) (by simp)) (by simp)
    | some u =>
     rcases hO b with z | ⟨ob,xs,z⟩
     ·rw[q] at z;cases z
     ·have z2:=un.frzs b ob _ z
      obtain⟨e1,_⟩:=hok b _ z
      obtain⟨e2,_⟩:=hok' b _ z2
      rw[e] at e1;cases e1
      exact e2
 cases hk:K.lookup a with
 | some o =>
    -- the script is one of the module's own objects
  have e:=KX a o hk
  rw[ha] at e
  cases e
  refine core (λ _=>none) (λ _=>.inl rfl) (.inr ⟨_,vs.toArray,_,hk,rfl,rfl,rfl,by rw[uap,lenV];exact hl,by simpa using rv⟩) (λ b u z=>by have z':(none:Option HO)=some u:=z;cases z') (λ b z=>absurd rfl z) λ z=>absurd rfl z
 | none =>
  refine core (λ b=>if b=a then some (.frz { cls:=.type "list",data:=.seq vs.toArray } (.lst (ns.map V.int))) else none) (λ b=>?_) (.inl (.inr ⟨{ cls:=.type "list",data:=.seq vs.toArray },if_pos rfl⟩)) (λ b u z=>?_) (λ b z=>?_) λ _=>hk
  ·by_cases hb:b=a
   ·exact .inr ⟨_,_,if_pos hb⟩
   ·exact .inl (if_neg hb)
  ·by_cases hb:b=a
   ·have z':=(if_pos hb).symm.trans z
    cases z'
    subst hb
    exact⟨ha,by rw[uae];exact hl,vs,_,rv,ha⟩
   ·have z':=(if_neg hb).symm.trans z
    cases z'
  ·by_cases hb:b=a
   ·exact hb
   ·exact absurd (if_neg hb) z
end L2
namespace L2
open PySem PySem.Spec PyProof.Rows
theorem zsm {l:PySem.W.OpenLaw}{n k:Nat}{q:Program}{loose:List Str}{XP:(Str->Option Value)->Heap->Prop}{YP:World->Heap->Prop}{d:DefRec}{K:Params->uac}{CX:World->CXT}{sp:World->Sp}{x:Str}
  (hn:l.most=some n) (hn2:n<=sizeLine) (hdf:d.params.defaults=[]) (hr:Room k callerA)
  (hY:∀ (w:World)(h:Heap),YP w h->(K w.params).In h)
  (F:∀ (w:World)(mg:Str->Option Value)(fa:Addr)(h:Heap),(K w.params).In h->h.Ns mainGlobals mg->mg d.name=some (.ref fa) ->
   ∃ fd:FuncData,(∀ (s:Shared)(u:Value),BindsTo s fd ⟨[u],[]⟩ [(x,u)]) /\
    ∀ base:Heap,(K w.params).In base->base.Ns mainGlobals mg->FnOk l.prog w (K w.params) mg base (CX w) k fa fd [x] (sp w))
  (hsp:∀ (w:World)(H:Hp)(a:Addr)(ns:List Int),ns.length<=n->Only H->SqL (K w.params) H a (ns.map V.int)->sp w [.ref a] H (λ v _=>v=.bl true) λ _ _ _=>False)
  (hCX:∀ (w:World)(H:Hp)(s:Shared)(e:Value)(s':Shared),CX w [] H s (λ _ _ _=>False) e s'->False) :
  PySem.W.WalkO q loose XP YP l.row.toRowW d [] (λ f vs=>PySem.call f vs):=by
 refine Att.attach_call hn hdf λ w s₀ s₁ mg mb fa o pm cd doc a vs ns G Y ho hd hcd hmg hobj hints hlen hg=>?_
 have KX:=hY w _ Y
 obtain⟨fd,hb,hF⟩:=F w mg fa _ KX G.T.g hmg
 exact zq9 KX G.T.g G.T.b G.T.builtins G.T.nolimit hg hobj hints (ubt hlen hn2) hr hF hb (λ H hO hS=>hsp w H a ns hlen hO hS) λ H e s'=>hCX w H s₁ e s'
end L2
namespace L2
open PySem PySem.Spec PyProof.Rows
def defArgs (s:Stmt):Arguments:=match s with
 | .FunctionDef _ a _ _ _ _ _ _ _ _=>a
 | _=>{ posonlyargs:=[],args:=[],vararg:=none,kwonlyargs:=[],kw_defaults:=[],kwarg:=none,defaults:=[] }
def defBody (s:Stmt):List Stmt:=match s with
 | .FunctionDef _ _ b _ _ _ _ _ _ _=>b
 | _=>[]
def defScope (s:Stmt):Scope:=match s with
 | .FunctionDef _ _ _ _ _ _ sc _ _ _=>sc
 | _=>{ kind:=.function,names:=[],isGenerator:=false,isCoroutine:=false }
abbrev CX0:CXT:=λ _ _ _ _ _ _=>False
abbrev E0:XK:=λ _ _ _=>False
theorem pass0 {X:Cx}:Passes CX0 X E0:=λ _ _ _ _ _ _ _ h=>h.elim
structure Fun (K:uac)(x qual:Str)(st:Stmt)(f:Addr)(fd:FuncData):Prop where
 ex:∃ (oc:Value)(od:Option Addr)(kV doc pm:Value)(an:Option Addr)(cdv ct:Value)(osl:Array (Option Value)),
  fd=uc8 x qual (defArgs st) (defBody st) (defScope st) .none kV doc pm an cdv ct/\K.lookup f=some ⟨oc,od,.func fd,osl⟩/\uei K cdv qual=true
 kp:ud8 K (.ref f)=true
section
variable {P:Program}{w:World}{K:uac}{mg:Str->Option Value}{base:Heap}
theorem Fun.ok {x qual:Str}{st:Stmt}{f:Addr}{fd:FuncData}{N ps:List Str}{k:Nat}{sp:Sp}(F:Fun K x qual st f fd)(S:FnScope N ps (defScope st))(len:∀ vs H Q E,sp vs H Q E->vs.length=ps.length)
  (hbody:∀ (cdv:Value)(A:Around)(outer:List Env)(s:Shared)(H:Hp)(vs:List V)(Q:VK)(E:XK),Room k (A.deeper (envOfC qual (defScope st) s.heap.objs.size f cdv))->sp vs H Q E ->
   ∃ t,PSs (cxOf CX0 P w K mg base N qual (defScope st) f cdv A outer s H E).nox (defBody st) t/\t { nx:=λ _ H'=>Q .non H',rt:=Q } (start N vs) H):FnOk P w K mg base CX0 (k+1) f fd ps sp:=by
 obtain⟨oc,od,kV,doc,pm,an,cdv,ct,osl,rfl,lk,hcd⟩:=F.ex
 refine zu9 lk hcd S len λ A outer s H vs Q E hr hsp=>?_
 obtain⟨t,h,q⟩:=hbody cdv A outer s H vs Q E hr hsp
 exact⟨t,h.nox,q⟩
theorem Fun.binds {x qual:Str}{st:Stmt}{f:Addr}{fd:FuncData}{ps:List Str}(F:Fun K x qual st f fd)
  (h:∀ (kV doc pm:Value)(an:Option Addr)(cdv ct:Value)(us:List Value),us.length=ps.length->bindArgs (uc8 x qual (defArgs st) (defBody st) (defScope st) .none kV doc pm an cdv ct) ⟨us,[]⟩=pure (ps.zip us)):Binds K fd ps []:=by
 obtain⟨oc,od,kV,doc,pm,an,cdv,ct,osl,rfl,lk,hcd⟩:=F.ex
 exact .all (h kV doc pm an cdv ct)
theorem zsd {x qual:Str}{st:Stmt}{f:Addr}{oc:Value}{od an:Option Addr}{osl:Array (Option Value)}{kV doc pm cdv ct:Value}(l:K.lookup f=some ⟨oc,od,.func (uc8 x qual (defArgs st) (defBody st) (defScope st) .none kV doc pm an cdv ct),osl⟩)
  (c:uei K cdv qual=true) (k:ud8 K (.ref f)=true):Fun K x qual st f (uc8 x qual (defArgs st) (defBody st) (defScope st) .none kV doc pm an cdv ct):=⟨⟨oc,od,kV,doc,pm,an,cdv,ct,osl,rfl,l,c⟩,k⟩
end
section
variable {X:Cx}
theorem pv (i:Nat){x:Str}{pos:Pos}(hN:X.N[i]?=some x:=by rfl)(hv:Vis X.env.scope x:=by first | exact uaw rfl | exact ufj (uaw rfl) | exact ufj (ufj rfl))(hd:(x==("__debug__":Str))=false:=by decide)
  (hcd:(x==("__classdict__":Str))=false:=by decide):PE X (.Name x pos) (tVar i):=zt7 hN hv hd hcd
end
theorem iteF {A B:Prop}(h:B):if false=true then A else B:=by
 rw[if_neg uau]
 exact h
theorem iteT {A B:Prop}(h:A):if true=true then A else B:=by
 rw[if_pos rfl]
 exact h
theorem ite2 {c A B:Prop}[Decidable c](h1:c->A)(h2:¬ c->B):if c then A else B:=by
 by_cases h:c
 ·rw[if_pos h]
  exact h1 h
 ·rw[if_neg h]
  exact h2 h
theorem iteNS {c A B:Prop}[Decidable c](hc:c)(h:B):if (!decide c)=true then A else B:=by
 rw[decide_eq_true hc]
 exact iteF h
def Same (H H':Hp):Prop:=∀ b o,H b=some o->H' b=some o
theorem Same.refl (H:Hp):Same H H:=λ _ _ h=>h
theorem Same.trans {H H1 H2:Hp}(a:Same H H1)(b:Same H1 H2):Same H H2:=λ c o h=>b c o (a c o h)
theorem Same.free {H H':Hp}(e:Same H H'){l:Addr}(h:H' l=Option.none):H l=Option.none:=by
 cases q:H l with
 | none=>rfl
 | some o =>
  rw[e l o q] at h
  cases h
theorem Same.seq {K:uac}{H H':Hp}{a:Addr}{xs:List V}(e:Same H H')(h:SqL K H a xs):SqL K H' a xs:=by
 rcases h with (h | ⟨o,h⟩) | h
 ·exact .inl (.inl (e _ _ h))
 ·exact .inl (.inr ⟨o,e _ _ h⟩)
 ·exact .inr h
end L2
namespace L2
open PySem PySem.Spec PyProof.Rows
section
variable {κ:Type}[DecidableEq κ]
def valV (kvs:List (κ × V))(k:κ):Option V:=(kvs.find? λ kv=>decide (kv.1=k)).map (·.2)
def putK (kvs:List (κ × V))(k:κ)(v:V):List (κ × V) :=
 if (kvs.any λ kv=>decide (kv.1=k))=true then kvs.map (λ kv=>if kv.1=k then (kv.1,v) else kv) else kvs++[(k,v)]
def dropK (kvs:List (κ × V))(k:κ):List (κ × V):=kvs.filter λ kv=>decide (kv.1≠k)
theorem zdf {p:κ × V}{r:List (κ × V)}{k:κ}(e:p.1=k):valV (p::r) k=some p.2:=by simp [valV,ud3,e]
theorem zdg {p:κ × V}{r:List (κ × V)}{k:κ}(e:¬ p.1=k):valV (p::r) k=valV r k:=by simp [valV,ud3,e]
theorem zlh (k:κ):∀ kvs:List (κ × V),(kvs.any λ kv=>decide (kv.1=k))=(valV kvs k).isSome
 | []=>rfl
 | p::r=>by
  rw[ug4]
  by_cases e:p.1=k
  ·simp only [zdf e,decide_eq_true e,Bool.true_or,Option.isSome_some]
  ·rw[zdg e,decide_eq_false e,Bool.false_or];exact zlh k r
theorem RelO.isSome_eq {o:Option V}{u:Option Value}(r:RelO o u):o.isSome=u.isSome:=by
 cases o with
 | none=>cases u with
  | none=>rfl
  | some _=>exact (show False from r).elim
 | some _=>cases u with
  | none=>exact (show False from r).elim
  | some _=>rfl
theorem RelO.getD {o:Option V}{u:Option Value}{d:V}{d':Value}(r:RelO o u)(rd:RelV d d'):RelV (o.getD d) (u.getD d'):=by
 cases o with
 | none=>cases u with
  | none=>exact rd
  | some _=>exact (show False from r).elim
 | some _=>cases u with
  | none=>exact (show False from r).elim
  | some _=>exact r
theorem KV.val {kvs:List (κ × V)}{vs:List (κ × Value)}(r:KV kvs vs)(k:κ):RelO (valV kvs k) (valueAt vs k):=by
 unfold KV at r
 induction r with
 | nil=>exact True.intro
 | @cons p q ps qs h t ih =>
  obtain⟨h1,h2⟩:=h
  by_cases e:p.1=k
  ·have e':q.1=k:=h1.symm.trans e
   have b:valueAt (q::qs) k=some q.2:=by simp [valueAt,ud3,e']
   rw[zdf e,b];exact h2
  ·have e':¬ q.1=k:=λ z=>e (h1.trans z)
   have b:valueAt (q::qs) k=valueAt qs k:=by simp [valueAt,ud3,e']
   rw[zdg e,b];exact ih
theorem KV.keys {kvs:List (κ × V)}{vs:List (κ × Value)}(r:KV kvs vs):kvs.map (·.1)=vs.map (·.1):=by
 unfold KV at r
 induction r with
 | nil=>rfl
 | cons h t ih=>rw[ubg,ubg,ih,h.1]
theorem KV.length {kvs:List (κ × V)}{vs:List (κ × Value)}(r:KV kvs vs):kvs.length=vs.length:=Paired.length r
end
theorem zrc {P:Program}{w:World}{k:Key}{u:Value}(r:RelV (kV k) u):(mixKind P w).is k u=true:=by
 cases k with
 | inl i=>obtain⟨t,e⟩:=(show ∃ t,u=Value.int i t from r);subst e;exact zku P w i t
 | inr x=>obtain⟨t,e⟩:=(show ∃ t,u=Value.str x t from r);subst e;exact zkt P w x t
theorem zjc {P:Program}{w:World}:∀ {ks:List Key}{us:List Value},Vals (ks.map kV) us->ItemsAre (mixKind P w) ks us
 | [],_,r=>by rw[List.map_nil] at r;cases r;exact .nil
 | k::ks,_,r=>by
  rw[ubg] at r
  cases r with
  | cons h t=>exact .cons (zrc h) (zjc t)
abbrev KT (H:Hp):List (List Key × V)->List (List Key × Addr × Value)->Prop:=Paired λ p q=>p.1=q.1/\H q.2.1=some (.tup (p.1.map kV))/\RelV p.2 q.2.2
theorem KT.val {H:Hp}{kvs:List (List Key × V)}{xs:List (List Key × Addr × Value)}(r:KT H kvs xs)(k:List Key):RelO (valV kvs k) ((atKey xs k).map (·.2)):=by
 induction r with
 | nil=>exact True.intro
 | @cons p q ps qs h t ih =>
  obtain⟨h1,_,h2⟩:=h
  by_cases e:p.1=k
  ·have e':q.1=k:=h1.symm.trans e
   have b:atKey (q::qs) k=some q.2:=by simp [atKey,ud3,e']
   rw[zdf e,b];exact h2
  ·have e':¬ q.1=k:=λ z=>e (h1.trans z)
   have b:atKey (q::qs) k=atKey qs k:=by simp [atKey,ud3,e']
   rw[zdg e,b];exact ih
section
variable {P:Program}{w:World}{H:Hp}{h:Heap}{a:Addr}
theorem zt0 {u:HO}(ok:HOk P w H h)(e:Rd H a u):ObjOk P w H h a u:=e.ok ok
theorem zru {kvs:List (Key × V)}(ok:HOk P w H h)(e:Rd H a (.dK kvs)):kvs.length<=sizeLine/\(a==sysModules)=false/\∃ vs,KV kvs vs/\h.DictOf (mixKind P w) a vs :=
 show ObjOk P w H h a (.dK kvs) from zt0 ok e
theorem zl0 {ks:List Key}(ok:HOk P w H h)(e:H a=some (.tup (ks.map kV))):(tupleKind (mixKind P w)).is h ks a:=by
 obtain⟨_,its,r,o,h1,h2,⟨n,h3⟩,_⟩:=(show ObjOk P w H h a (.tup (ks.map kV)) from ok a _ e)
 exact⟨o,its.toArray,n,h1,h2,h3,by simpa using zjc r⟩
theorem zrs {kvs:List (List Key × V)}(ok:HOk P w H h)(e:Rd H a (.dT kvs)):kvs.length<=sizeLine/\(a==sysModules)=false /\
  ∃ xs,KT H kvs xs/\h.DictOfH (tupleKind (mixKind P w)) a xs:=by
 obtain⟨z,y,xs,r,o,es,ep,h1,h2,h3,h4,h5⟩:=(show ObjOk P w H h a (.dT kvs) from zt0 ok e)
 refine⟨z,y,xs,r,o,es,ep,h1,h2,h3,h4,λ x hx=>?_,h5⟩
 have all:∀ {l:List (List Key × V)}{m:List (List Key × Addr × Value)},KT H l m->∀ x∈m,(tupleKind (mixKind P w)).is h x.1 x.2.1:=by
  intro l m q
  induction q with
  | nil=>intro x hx;exact nomatch hx
  | @cons p q ps qs hq t ih =>
   intro x hx
   rcases uam.mp hx with e | hx
   ·subst e
    exact zl0 ok (by rw[← hq.1];exact hq.2.1)
   ·exact ih x hx
 exact all r x hx
end
def DGet (H:Hp)(a:Addr)(y:V)(r:Option V):Prop :=
 (∃ kvs k,Rd H a (.dK kvs)/\y=kV k/\r=valV kvs k)\/∃ kvs k b,Rd H a (.dT kvs)/\y=.ref b/\H b=some (.tup (k.map kV))/\r=valV kvs k
def DPut (H:Hp)(a:Addr)(y v:V)(H':Hp):Prop :=
 (∃ kvs k,H a=some (.dK kvs)/\y=kV k/\kvs.length<sizeLine/\H'=upd H a (.dK (putK kvs k v))) \/
 ∃ kvs k b,H a=some (.dT kvs)/\y=.ref b/\H b=some (.tup (k.map kV))/\kvs.length<sizeLine/\H'=upd H a (.dT (putK kvs k v))
theorem DGet.k {H:Hp}{a:Addr}{kvs:List (Key × V)}{k:Key}(e:H a=some (.dK kvs)):DGet H a (kV k) (valV kvs k):=.inl ⟨kvs,k,.inl e,rfl,rfl⟩
section
variable {X:Cx}{pins:List (Addr × Obj)}{σ:St}{H:Hp}{s:Shared}{a:Addr}{y v:V}{u r:Value}{o:Option V}{A:Around}{E:Value->Shared->Prop}
theorem Inv.big (I:Inv X pins σ H s):sysModules<s.heap.objs.size:=by
 have h:mainGlobals<s.heap.objs.size:=(I.mod.glob.keeps I.bk).lt
 exact ue8 (by decide) h
theorem zpg {Q:Value->Shared->Prop}(hu:A.units+1<cLine)(I:Inv X pins σ H s)(g:DGet H a y (some v))(ry:RelV y u)(h:∀ w' s',Inv X pins σ H s'->RelV v w'->Q w' s') :
  wpAny (model X.prog X.w) A (getItem (.ref a) u) Q E s:=by
 rcases g with ⟨kvs,k,e,ey,l⟩ | ⟨kvs,k,b,e,ey,eb,l⟩
 ·subst ey
  obtain⟨z,hd,vs,rel,dd⟩:=zru I.hok e
  obtain⟨w',hw,rw'⟩:=RelO.some_of (v:=v) (o:=valueAt vs k) (by rw[l];exact rel.val k)
  exact wpAny_getItem_of (zrc ry) dd.mapOf hw (h w' _ (I.tok _) rw')
 ·subst ey
  cases (show u=Value.ref b from ry)
  obtain⟨z,hd,xs,rel,dd⟩:=zrs I.hok e
  obtain⟨w',hw,rw'⟩:=RelO.some_of (v:=v) (o:=(atKey xs k).map (·.2)) (by rw[l];exact rel.val k)
  obtain⟨p,hp,hp2⟩:=uba.mp hw
  refine wpAny_getItem_heap (uga hu) (zl0 I.hok eb) dd hp ?_
  rw[hp2]
  exact h w' _ (I.tok _) rw'
theorem zvd {Q:Value->Shared->Prop}(hu:A.units+1<cLine)(I:Inv X pins σ H s)(g:DGet H a y o)(ry:RelV y u)(h:∀ s',Inv X pins σ H s'->Q (.bool o.isSome) s') :
  wpAny (model X.prog X.w) A (compareOp .In u (.ref a)) Q E s:=by
 rcases g with ⟨kvs,k,e,ey,l⟩ | ⟨kvs,k,b,e,ey,eb,l⟩
 ·subst ey
  obtain⟨z,hd,vs,rel,dd⟩:=zru I.hok e
  refine wpAny_in_of (zrc ry) hd dd.mapOf ?_
  rw[← (rel.val k).isSome_eq,← l]
  exact h _ (I.tok _)
 ·subst ey
  cases (show u=Value.ref b from ry)
  obtain⟨z,hd,xs,rel,dd⟩:=zrs I.hok e
  refine wpAny_in_heap (uga hu) (zl0 I.hok eb) hd dd ?_
  have q:=(rel.val k).isSome_eq
  rw[Option.isSome_map] at q
  rw[← q,← l]
  exact h _ (I.tok _)
theorem ztm {Q:Value->Shared->Prop}(hu:A.units+1<cLine)(I:Inv X pins σ H s)(g:DGet H a y o)(ry:RelV y u)(h:∀ s',Inv X pins σ H s'->Q (.bool (!o.isSome)) s') :
  wpAny (model X.prog X.w) A (compareOp .NotIn u (.ref a)) Q E s:=by
 rcases g with ⟨kvs,k,e,ey,l⟩ | ⟨kvs,k,b,e,ey,eb,l⟩
 ·subst ey
  obtain⟨z,hd,vs,rel,dd⟩:=zru I.hok e
  refine wpAny_notIn_of (zrc ry) hd dd.mapOf ?_
  rw[← (rel.val k).isSome_eq,← l]
  exact h _ (I.tok _)
 ·subst ey
  cases (show u=Value.ref b from ry)
  obtain⟨z,hd,xs,rel,dd⟩:=zrs I.hok e
  refine wpAny_notIn_heap (uga hu) (zl0 I.hok eb) hd dd ?_
  have q:=(rel.val k).isSome_eq
  rw[Option.isSome_map] at q
  rw[← q,← l]
  exact h _ (I.tok _)
end
section
variable {X:Cx}{pins:List (Addr × Obj)}{σ:St}{H:Hp}{s:Shared}{a:Addr}{kvs:List (Key × V)}{k:Key}{u:Value}{A:Around}{E:Value->Shared->Prop}
end
def NoSl (i:Expr):Prop:=∀ ov iv,subscripted i false ov iv=operate [ov,iv] (getItem ov iv)
theorem zsw {prog:Program}{w:World}{A:Around}{E:Value->Shared->Prop}{s:Shared}{env:Env}{value slice:Expr}{pos:Pos}{T id:String}{Q:Value->Shared->Prop}
  (hl:typeLookup (.type T) "__getitem__"=pure (some (.builtin id))) (hs:NoSl slice)
  (h:wpAny (model prog w) A (eval value env) (λ o s₁=>wpAny (model prog w) A (eval slice env) (λ i s₂=>s₂.TypeIs o T/\wpAny (model prog w) A (getItem o i) Q E s₂) E s₁) E s) :
  wpAny (model prog w) A (eval (.Subscript value slice pos) env) Q E s:=by
 refine Subscript_ (ucw h (λ o s₁ h₁=>ucw h₁ (λ i s₂ h₂=>?_) λ _ _ x=>x) λ _ _ x=>x)
 obtain⟨hT,h₂⟩:=h₂
 unfold subscriptTail
 refine uab ?_
 rw[getitemInPython_of_ne hT.not_modules]
 refine uab (wpAny_specialOf hT hl ?_)
 have fin:wpAny (model prog w) A (subscripted slice false o i) (λ r s₃=>wpAny (model prog w) A (letTemporaryGo value o r >>= λ _=>pure r) Q E s₃) E s₂:=by
  rw[hs o i]
  exact wpAny_operating (ucw h₂ (λ r s₃ h₃=>uab (wpAny_letTemporaryGo (uah h₃))) λ _ _ x=>x)
 first
  | exact uah (uab fin)
  | exact uab (uah (uab fin))
  | exact uab fin
theorem zk0 {X:Cx}{pins:List (Addr × Obj)}{σ:St}{H:Hp}{s:Shared}{a:Addr}{y:V}{o:Option V}(I:Inv X pins σ H s)(g:DGet H a y o):s.TypeIs (.ref a) "dict":=by
 rcases g with ⟨kvs,k,e,_,_⟩ | ⟨kvs,k,b,e,_,_,_⟩
 ·obtain⟨_,_,vs,_,dd⟩:=zru I.hok e
  exact dd.typeIs
 ·obtain⟨_,_,xs,_,dd⟩:=zrs I.hok e
  exact dd.typeIs
def tDGet (td ty:TE):TE:=λ σ H Q=>td σ H λ x H1=>ty σ H1 λ y H2=>∃ a v,x=.ref a/\DGet H2 a y (some v)/\Q v H2
def tDIn (ty td:TE):TE:=λ σ H Q=>ty σ H λ y H1=>td σ H1 λ x H2=>∃ a o,x=.ref a/\DGet H2 a y o/\Q (.bl o.isSome) H2
def tDNotIn (ty td:TE):TE:=λ σ H Q=>ty σ H λ y H1=>td σ H1 λ x H2=>∃ a o,x=.ref a/\DGet H2 a y o/\Q (.bl (!o.isSome)) H2
section
variable {X:Cx}{o i e value:Expr}{pos pos' tpos:Pos}{td ty tv:TE}
theorem zg7 (hu:X.A.units+1<cLine)(ho:PE X o td)(hi:PE X i ty)(hs:NoSl i):PE X (.Subscript o i pos) (tDGet td ty):=by
 intro pins s σ H Q I h
 refine zsw PySem.F.slot_dict_getitem.lookup hs (thn (ho pins s σ H _ I h) λ u s1 ⟨x,H1,I1,rx,q1⟩=>thn (hi pins s1 σ H1 _ I1 q1) λ iv s2 ⟨y,H2,I2,ry,a,v,ex,g,q2⟩=>?_)
 subst ex
 obtain rfl:u=Value.ref a:=rx
 exact⟨zk0 I2 g,zpg hu I2 g ry λ w' s3 I3 rw'=>⟨v,H2,I3,rw',q2⟩⟩
theorem zr9 (hu:X.A.units+1<cLine)(hi:PE X i ty)(ho:PE X o td):PC X .In i o (tDIn ty td):=by
 intro pins s σ H Q I h
 refine thn (hi pins s σ H _ I h) λ iv s1 ⟨y,H1,I1,ry,q1⟩=>thn (ho pins s1 σ H1 _ I1 q1) λ u s2 ⟨x,H2,I2,rx,a,ov,ex,g,q2⟩=>?_
 subst ex
 obtain rfl:u=Value.ref a:=rx
 exact zvd hu I2 g ry λ s3 I3=>⟨.bl ov.isSome,H2,I3,rfl,q2⟩
theorem zn6 (hu:X.A.units+1<cLine)(hi:PE X i ty)(ho:PE X o td):PC X .NotIn i o (tDNotIn ty td):=by
 intro pins s σ H Q I h
 refine thn (hi pins s σ H _ I h) λ iv s1 ⟨y,H1,I1,ry,q1⟩=>thn (ho pins s1 σ H1 _ I1 q1) λ u s2 ⟨x,H2,I2,rx,a,ov,ex,g,q2⟩=>?_
 subst ex
 obtain rfl:u=Value.ref a:=rx
 exact ztm hu I2 g ry λ s3 I3=>⟨.bl (!ov.isSome),H2,I3,rfl,q2⟩
end
section
variable {X:Cx}{pos:Pos}
end
end L2
set_option maxHeartbeats 4000000
namespace Srt
open PySem PySem.W PyProof.Rows
section
variable {N:Nat}{r:Nat->Int}{cmp:Nat->Nat->(Bool->Shared->Prop)->Shared->Prop}{s:Shared}
def ky (r:Nat->Int)(p:Array Nat)(m:Nat):Int:=r (p.getD m 0)
def Up (r:Nat->Int)(p:Array Nat)(n:Nat):Prop:=∀ i j,i<=j->j<n->ky r p i<=ky r p j
def Dn (r:Nat->Int)(p:Array Nat)(n:Nat):Prop:=∀ i j,i<=j->j<n->ky r p j<=ky r p i
def Ask (N:Nat)(r:Nat->Int)(cmp:Nat->Nat->(Bool->Shared->Prop)->Shared->Prop)(s:Shared):Prop :=
 ∀ i j C,i<N->j<N->C (decide (r i<r j)) s->cmp i j C s
def Gd (N:Nat)(p:Array Nat):Prop:=p.Perm (uf0 (uaf N))
theorem Gd.sz {p:Array Nat}(g:Gd N p):p.size=N:=by
 have:=g.size_eq
 simpa using this
theorem Gd.lt {p:Array Nat}(g:Gd N p)(h:0<N)(m:Nat):p.getD m 0<N:=by
 by_cases hm:m<p.size
 ·have e:p.getD m 0=p[m]:=by simp [ugv,hm]
  rw[e]
  have h1:p[m]∈p:=Array.getElem_mem hm
  have h2:p[m]∈uf0 (uaf N):=g.mem_iff.mp h1
  simpa using h2
 ·have e:p.getD m 0=0:=by simp [ugv,hm]
  left
theorem zot {p q:Array Nat}{i j:Nat}(h:p[i]?=q[j]?):ky r p i=ky r q j:=by
 have e:∀ (a:Array Nat)(k:Nat),a.getD k 0=(a[k]?).getD 0:=λ a k=>by
  by_cases hk:k<a.size <;> simp [ugv,hk]
 unfold ky
 rw[e,e,h]
theorem zos {p:Array Nat}{i j:Nat}(hj:j<=p.size)(k:Nat):ky r (kas_rev p i j) k=if i<=k/\k<j then ky r p (i+j-1-k) else ky r p k:=by
 have e:=getElem?_mirror_all (i:=i) hj k
 by_cases h:i<=k/\k<j
 ·rw[if_pos h] at e ⊢
  exact zot e
 ·rw[if_neg h] at e ⊢
  exact zot e
theorem zui {p:Array Nat}{k d:Nat}(hs:k<p.size)(hd:d<=k)(m:Nat) :
  ky r (bubble p k d) m=if m=k-d then ky r p k else if k-d<m/\m<=k then ky r p (m-1) else ky r p m:=by
 have e:=getElem?_bubble hs d hd m
 by_cases h1:m=k-d
 ·rw[if_pos h1] at e ⊢
  exact zot e
 ·rw[if_neg h1] at e ⊢
  by_cases h2:k-d<m/\m<=k
  ·rw[if_pos h2] at e ⊢
   exact zot e
  ·rw[if_neg h2] at e ⊢
   exact zot e
theorem Gd.rev {p:Array Nat}(g:Gd N p)(i j:Nat):Gd N (kas_rev p i j):=(mirror_perm p i j _).trans g
theorem Gd.bub {p:Array Nat}(g:Gd N p)(i j:Nat):Gd N (bubble p i j):=(bubble_perm p i j).trans g
theorem zp6 (h:Ask N r cmp s)(hN:0<N){p:Array Nat}(g:Gd N p){Q:Nat->Shared->Prop}:∀ f n,1<=n->Up r p n ->
  (∀ m,n<=m->m<=n+f->Up r p m->(m<n+f->ky r p m<ky r p (m-1))->Q m s)->(kas_asc p f n).kasWp cmp Q s
 | 0,n,_,hu,q=>q n (uai _) (uai _) hu (λ z=>absurd z (ubs _))
 | f+1,n,h1,hu,q=>by
  refine h _ _ _ (g.lt hN _) (g.lt hN _) ?_
  by_cases c:r (p.getD n 0)<r (p.getD (n-1) 0)
  ·rw[decide_eq_true c]
   exact q n (uai _) (by left) hu (λ _=>c)
  ·rw[decide_eq_false c]
   refine zp6 h hN g f (n+1) (by left) (λ i j hij hj=>?_) (λ m a b u d=>q m (by left) (by left) u (λ z=>d (by left)))
   have c':ky r p (n-1)<=ky r p n:=by unfold ky;left
   by_cases e:j=n
   ·subst e
    by_cases e2:i=j
    ·subst e2;exact ubf _
    ·exact ufc (hu i (j-1) (by left) (by left)) c'
   ·exact hu i j hij (by left)
theorem zfc {p:Array Nat}{i j:Nat}(hj:j<=p.size)(v:Int)(he:∀ k,i<=k->k<j->ky r p k=v)(k:Nat):ky r (kas_rev p i j) k=ky r p k:=by
 rw[zos hj]
 split
 ·rename_i c
  rw[he _ (by left) (by left),he k c.1 c.2]
 ·rfl
theorem zh0 (h:Ask N r cmp s)(hN:0<N){Q:Array Nat × Nat × Nat->Shared->Prop}:∀ f p n q,Gd N p->1<=n->n+f<=N->Dn r p n->q+1<=n->(∀ i,n-(q+1)<=i->i<n->ky r p i=ky r p (n-1)) ->
  (∀ p' n' q',Gd N p'->n<=n'->n'<=n+f->Dn r p' n'->q'+1<=n'->(∀ i,n'-(q'+1)<=i->i<n'->ky r p' i=ky r p' (n'-1))->Q (p',n',q') s)->(kas_desc f p n q).kasWp cmp Q s
 | 0,p,n,q,g,_,_,hd,hq,he,z=>z p n q g (uai _) (uai _) hd hq he
 | f+1,p,n,q,g,h1,hf,hd,hq,he,z=>by
  refine h _ _ _ (g.lt hN _) (g.lt hN _) ?_
  by_cases c:r (p.getD n 0)<r (p.getD (n-1) 0)
  ·rw[decide_eq_true c]
   have c':ky r p n<ky r p (n-1):=c
   have dn:∀ {p':Array Nat},(∀ k,ky r p' k=ky r p k)->Dn r p' (n+1):=λ e i j hij hj=>by
    rw[e,e]
    by_cases ej:j=n
    ·subst ej
     by_cases ei:i=j
     ·subst ei;exact ubf _
     ·exact ufc (udj c') (hd i (j-1) (by left) (by left))
    ·exact hd i j hij (by left)
   show KasT.kasWp cmp (if q>0 then kas_desc f (kas_rev p (n-(q+1)) n) (n+1) 0 else kas_desc f p (n+1) 0) Q s
   by_cases hq0:q>0
   ·rw[if_pos hq0]
    have e:=zfc (r:=r) (p:=p) (i:=n-(q+1)) (j:=n) (by rw[g.sz];left) (ky r p (n-1)) he
    exact zh0 h hN f _ (n+1) 0 (g.rev _ _) (by left) (by left) (dn e) (by left) (λ i a b=>by congr 1;left)
     (λ p' n' q' g' a b d e1 e2=>z p' n' q' g' (by left) (by left) d e1 e2)
   ·rw[if_neg hq0]
    exact zh0 h hN f _ (n+1) 0 g (by left) (by left) (dn λ _=>rfl) (by left) (λ i a b=>by congr 1;left)
     (λ p' n' q' g' a b d e1 e2=>z p' n' q' g' (by left) (by left) d e1 e2)
  ·rw[decide_eq_false c]
   refine h _ _ _ (g.lt hN _) (g.lt hN _) ?_
   by_cases d:r (p.getD (n-1) 0)<r (p.getD n 0)
   ·rw[decide_eq_true d]
    exact z p n q g (uai _) (by left) hd hq he
   ·rw[decide_eq_false d]
    have e:ky r p n=ky r p (n-1):=by unfold ky;left
    refine zh0 h hN f p (n+1) (q+1) g (by left) (by left) (λ i j hij hj=>?_) (by left) (λ i a b=>?_)
     (λ p' n' q' g' a b d e1 e2=>z p' n' q' g' (by left) (by left) d e1 e2)
    ·by_cases ej:j=n
     ·subst ej
      by_cases ei:i=j
      ·subst ei;exact ubf _
      ·rw[e];exact hd i (j-1) (by left) (by left)
     ·exact hd i j hij (by left)
    ·rw[show n+1-1=n by left]
     by_cases ei:i=n
     ·rw[ei]
     ·rw[e];exact he i (by left) (by left)
theorem zlj (h:Ask N r cmp s)(hN:0<N){Q:Nat × Array Nat->Shared->Prop}{p:Array Nat}{n:Nat}(g:Gd N p)(h1:1<=n)(hn:n<=N)(hd:Dn r p n)
  (z:∀ m p',Gd N p'->1<=m->m<=N->Up r p' m->Q (m,p') s):(kas_tail3 n N p).kasWp cmp Q s:=by
 unfold kas_tail3
 rw[KasT.kasWp_bind]
 refine zp6 h hN (g.rev 0 n) _ n h1 (λ i j hij hj=>?_) (λ m a b u _=>z m _ (g.rev 0 n) (by left) (by left) u)
 rw[zos (by rw[g.sz];left),zos (by rw[g.sz];left),if_pos (by left),if_pos (by left)]
 exact hd _ _ (by left) (by left)
theorem zfh (h:Ask N r cmp s)(hN:0<N){Q:Nat × Array Nat->Shared->Prop}{p:Array Nat}{n:Nat}(g:Gd N p)(h1:1<=n)(hn:n+1<=N)(hd:Dn r p (n+1))
  (z:∀ m p',Gd N p'->1<=m->m<=N->Up r p' m->Q (m,p') s):(kas_descPart n N p).kasWp cmp Q s:=by
 unfold kas_descPart
 rw[KasT.kasWp_bind]
 refine zh0 h hN _ p (n+1) 0 g (by left) (by left) hd (by left) (λ i a b=>by congr 1;left) (λ p' n' q' g' a b d e1 e2=>?_)
 show KasT.kasWp cmp (if q'>0 then kas_tail3 n' N (kas_rev p' (n'-(q'+1)) n') else kas_tail3 n' N p') Q s
 by_cases hq:q'>0
 ·rw[if_pos hq]
  have e:=zfc (r:=r) (p:=p') (i:=n'-(q'+1)) (j:=n') (by rw[g'.sz];left) (ky r p' (n'-1)) e2
  exact zlj h hN (g'.rev _ _) (by left) (by left) (λ i j hij hj=>by rw[e,e];exact d i j hij hj) z
 ·rw[if_neg hq]
  exact zlj h hN g' (by left) (by left) d z
theorem zry (h:Ask N r cmp s)(hN:0<N){Q:Nat × Array Nat->Shared->Prop}{p:Array Nat}(g:Gd N p)
  (z:∀ m p',Gd N p'->1<=m->m<=N->Up r p' m->Q (m,p') s):(kas_count N p).kasWp cmp Q s:=by
 unfold kas_count
 rw[KasT.kasWp_bind]
 refine zp6 h hN g _ 1 (uai _) (λ i j hij hj=>?_) (λ m a b u d=>?_)
 ·have:i=j:=by left
  subst this;exact ubf _
 show KasT.kasWp cmp (if (m==N)=true then .ret (m,p) else if m>1 then .ask (p.getD 0 0) (p.getD (m-1) 0) λ c=>if c=true then .ret (m,p) else kas_descPart m N (kas_rev p 0 m) else kas_descPart m N p) Q s
 by_cases hm:m=N
 ·rw[if_pos (by simpa using hm)]
  exact z m p g a (by left) u
 ·rw[if_neg (by simpa using hm)]
  have d':=d (by left)
  by_cases h1:m>1
  ·rw[if_pos h1]
   refine h _ _ _ (g.lt hN _) (g.lt hN _) ?_
   by_cases c:r (p.getD 0 0)<r (p.getD (m-1) 0)
   ·rw[decide_eq_true c]
    exact z m p g a (by left) u
   ·rw[decide_eq_false c]
    have c':ky r p (m-1)<=ky r p 0:=by unfold ky;left
    have eq:∀ k,0<=k->k<m->ky r p k=ky r p 0:=λ k _ hk=>by
     have a1:=u 0 k (by left) hk
     have a2:=u k (m-1) (by left) (by left)
     left
    have e:=zfc (r:=r) (p:=p) (i:=0) (j:=m) (by rw[g.sz];left) (ky r p 0) eq
    refine zfh h hN (g.rev 0 m) (by left) (by left) (λ i j hij hj=>?_) z
    rw[e,e]
    by_cases ej:j=m
    ·subst ej
     by_cases ei:i=j
     ·subst ei;exact ubf _
     ·rw[eq i (by left) (by left)]
      have:=eq (j-1) (by left) (by left)
      left
    ·rw[eq i (by left) (by left),eq j (by left) (by left)]
     exact ubf _
  ·rw[if_neg h1]
   have e1:m=1:=by left
   subst e1
   refine zfh h hN g (by left) (by left) (λ i j hij hj=>?_) z
   by_cases ej:j=1
   ·subst ej
    by_cases ei:i=1
    ·subst ei;exact ubf _
    ·have:i=0:=by left
     subst this
     exact udj d'
   ·have:i=j:=by left
    subst this;exact ubf _
theorem zg5 (h:Ask N r cmp s)(hN:0<N){Q:Nat->Shared->Prop}{p:Array Nat}{k:Nat}(g:Gd N p)(hu:Up r p k):∀ f l rr,l<=rr->rr<=k->rr-l<=f->(∀ i,i<l->ky r p i<=ky r p k)->(∀ i,rr<=i->i<k->ky r p k<ky r p i) ->
  (∀ l',l'<=k->(∀ i,i<l'->ky r p i<=ky r p k)->(∀ i,l'<=i->i<k->ky r p k<ky r p i)->Q l' s)->(kas_place p k f l rr).kasWp cmp Q s
 | 0,l,rr,h1,h2,h3,a,b,z=>z l (by left) a (λ i x y=>b i (by left) y)
 | f+1,l,rr,h1,h2,h3,a,b,z=>by
  unfold kas_place
  by_cases hl:l ≥ rr
  ·rw[if_pos hl]
   exact z l (by left) a (λ i x y=>b i (by left) y)
  ·rw[if_neg hl]
   refine h _ _ _ (g.lt hN _) (g.lt hN _) ?_
   by_cases c:r (p.getD k 0)<r (p.getD ((l+rr) / 2) 0)
   ·rw[decide_eq_true c]
    have c':ky r p k<ky r p ((l+rr) / 2):=c
    exact zg5 h hN g hu f l ((l+rr) / 2) (by left) (by left) (by left) a (λ i x y=>Int.lt_of_lt_of_le c' (hu _ _ x y)) z
   ·rw[decide_eq_false c]
    have c':ky r p ((l+rr) / 2)<=ky r p k:=by unfold ky;left
    exact zg5 h hN g hu f ((l+rr) / 2+1) rr (by left) (by left) (by left) (λ i x=>ufc (hu i ((l+rr) / 2) (by left) (by left)) c') b z
theorem zsj (h:Ask N r cmp s)(hN:0<N){Q:Array Nat->Shared->Prop}:∀ f p k,Gd N p->k+f<=N->Up r p k->(∀ p',Gd N p'->Up r p' (k+f)->Q p' s)->(kas_bin f p k).kasWp cmp Q s
 | 0,p,k,g,_,hu,z=>z p g hu
 | f+1,p,k,g,hk,hu,z=>by
  unfold kas_bin
  rw[KasT.kasWp_bind]
  refine zg5 h hN g hu k 0 k (by left) (uai _) (by left) (λ i x=>absurd x (uej _)) (λ i x y=>absurd (ubr x y) (ubs _)) (λ l hl a b=>?_)
  have e:=λ m=>zui (r:=r) (p:=p) (k:=k) (d:=k-l) (by rw[g.sz];left) (by left) m
  refine zsj h hN f _ (k+1) (g.bub _ _) (by left) (λ i j hij hj=>?_) (λ p' g' u'=>z p' g' (by rw[show k+(f+1)=k+1+f by left];exact u'))
  rw[e,e]
  have ekl:k-(k-l)=l:=by left
  rw[ekl]
  by_cases i1:i=l
  ·rw[if_pos i1]
   by_cases j1:j=l
   ·rw[if_pos j1];exact ubf _
   ·rw[if_neg j1,if_pos (by left)]
    exact udj (b _ (by left) (by left))
  ·rw[if_neg i1]
   by_cases i2:l<i/\i<=k
   ·rw[if_pos i2,if_neg (by left),if_pos (by left)]
    exact hu _ _ (by left) (by left)
   ·rw[if_neg i2]
    by_cases j1:j=l
    ·rw[if_pos j1];exact a _ (by left)
    ·rw[if_neg j1]
     by_cases j2:l<j/\j<=k
     ·rw[if_pos j2];exact hu _ _ (by left) (by left)
     ·rw[if_neg j2];exact hu _ _ hij (by left)
theorem zsy (h:Ask N r cmp s)(hN:0<N){Q:Array Nat->Shared->Prop}(z:∀ p,Gd N p->Up r p N->Q p s):(kas_sort N).kasWp cmp Q s:=by
 unfold kas_sort
 rw[KasT.kasWp_bind]
 refine zry h hN (Array.Perm.refl _) (λ m p g h1 hm u=>?_)
 show KasT.kasWp cmp (if m<N then kas_bin (N-max m 1) p (max m 1) else .ret p) Q s
 by_cases c:m<N
 ·rw[if_pos c,Nat.max_eq_left h1]
  exact zsj h hN _ p m g (by left) u (λ p' g' u'=>z p' g' (by rw[show m+(N-m)=N by left] at u';exact u'))
 ·rw[if_neg c]
  have:m=N:=by left
  subst this
  exact z p g u
end
end Srt
namespace Srt
open PySem PySem.W PyProof.Rows
section
variable {n:Nat}{lt:Nat->Nat->Bool}
def rank (n:Nat)(lt:Nat->Nat->Bool)(i:Nat):Int:=(((uaf n).countP λ k=>lt k i:Nat):Int)
theorem zco {α:Type}{p q:α->Bool}:∀ {l:List α}{x:α},(∀ y∈l,p y=true->q y=true)->x∈l->p x=false->q x=true->l.countP p<l.countP q
 | [],_,_,hx,_,_=>by cases hx
 | a::r,x,h,hx,hp,hq=>by
  have hr:∀ y∈r,p y=true->q y=true:=λ y hy=>h y (uan _ hy)
  have mono:r.countP p<=r.countP q:=ue6 hr
  rw[ue0,ue0]
  rcases uam.mp hx with e | hx
  ·subst e
   simp only [hp,hq,ub5,if_false,if_true]
   left
  ·have ih:=zco hr hx hp hq
   cases hpa:p a with
   | false=>simp only [ub5,if_false];split <;> left
   | true =>
    have:=h a ual hpa
    simp only [this,if_true]
    left
theorem znx (hi:∀ i,lt i i=false)(ht:∀ i j k,i<n->j<n->k<n->lt i j=true->lt j k=true->lt i k=true)(hn:∀ i j k,i<n->j<n->k<n->lt i k=true->lt i j=true\/lt j k=true)
  {i j:Nat} (h1:i<n) (h2:j<n):decide (rank n lt i<rank n lt j)=lt i j:=by
 unfold rank
 cases e:lt i j with
 | true =>
  refine decide_eq_true ?_
  have:=zco (p:=λ k=>lt k i) (q:=λ k=>lt k j) (l:=uaf n) (x:=i) (λ k hk q=>ht k i j (uaq.mp hk) h1 h2 q e) (uaq.mpr h1) (hi i) e
  left
 | false =>
  refine decide_eq_false ?_
  have:(uaf n).countP (λ k=>lt k j)<=(uaf n).countP (λ k=>lt k i):=ue6 λ k hk q=>by
   rcases hn k i j (uaq.mp hk) h1 h2 q with z | z
   ·exact z
   ·rw[e] at z;cases z
  left
end
section
variable {prog:Program}{w:World}{A:Around}{E:Value->Shared->Prop}{s:Shared}
abbrev Stay (a:Addr)(h h':Heap):Prop:=∀ b o,b≠a->h.get? b=some o->h'.get? b=some o
def outOf (vs:List Value)(p:Array Nat):List Value:=p.toList.map λ i=>vs.getD i Value.none
theorem zn8 (vs:List Value):outOf vs (uf0 (uaf vs.length))=vs:=by
 unfold outOf
 refine uez (by simp) λ i h1 h2=>?_
 simp
 rw[uad h2]
 rfl
theorem zun {vs:List Value}{p:Array Nat}(g:Gd vs.length p):(outOf vs p).length=vs.length:=by
 unfold outOf
 rw[uae,ub0,g.sz]
theorem lsort {a:Addr}{vs:List Value}{n:Nat}{P:PySem.Fin->Shared->Prop}{r:Nat->Int}{κ:SortKind}(ho:s.heap.get? a=some (seqObj "list" vs.toArray n))(h64:vs.length<64)
  (hk:2<=vs.length->∀ (s':Shared)(Q:SortKind->Shared->Prop),Stay a s.heap s'.heap->Q κ s'->wpAny (model prog w) A (keyKind' vs.toArray) Q (λ _ _=>False) s')
  (hc:∀ (s':Shared)(i j:Nat)(C:Bool->Shared->Prop),Stay a s.heap s'.heap->i<vs.length->j<vs.length->C (decide (r i<r j)) s'->kas_ask prog w A κ vs i j C s')
  (h:∀ (p:Array Nat)(h':Heap)(c:Nat),Gd vs.length p->Up r p vs.length->Stay a s.heap h'->h'.get? a=some (seqObj "list" (outOf vs p).toArray c)->P (.done (.ret .none)) { s with heap:=h' }) :
  wpAny (model prog w) A (Builtin.«list.sort» ⟨[.ref a],[]⟩) P E s:=by
 rw[list_sort_plain]
 have ha:a<s.heap.objs.size:=Heap.lt_size ho
 have line:(64:Nat)<=sizeLine:=by rw[uc9];decide
 refine uab (listItems_at ho rfl (uab (listUpdate_at ho rfl ?_ (by rw[uap];left) (ube _))))
 have e1:=get?_update_seq ho λ _=>(#[]:Array Value)
 generalize (if ((λ _=>(#[]:Array Value)) vs.toArray).size==vs.toArray.size then n else n+1)=n1 at e1
 have k1:Stay a s.heap (s.heap.update a (Obj.mapSeq λ _=>(#[]:Array Value))):=λ b o hb q=>(Heap.get?_update_other s.heap _ (Ne.symm hb)).trans q
 refine uab (seqEpoch_at e1 rfl (uab (wpAny_newTuple ?_ (by show vs.length<=_;left))))
 refine uab (uel ?_ (ube _))
 refine ubd ?_
 show wpAny (model prog w) A _ P E { s with heap:=(((s.heap.update a (Obj.mapSeq λ _=>(#[]:Array Value))).push (seqObj "tuple" vs.toArray 0)).push (seqObj "list" #[] 0):Heap) }
 generalize hg:((s.heap.update a (Obj.mapSeq λ _=>(#[]:Array Value))).push (seqObj "tuple" vs.toArray 0)).push (seqObj "list" #[] 0)=g
 have e2:g.get? a=some (seqObj "list" #[] n1):=by rw[← hg];exact Heap.get?_push_of_some _ (Heap.get?_push_of_some _ e1)
 have k2:Stay a s.heap g:=λ b o hb q=>by rw[← hg];exact Heap.get?_push_of_some _ (Heap.get?_push_of_some _ (k1 b o hb q))
 have fin:∀ (p:Array Nat),Gd vs.length p->Up r p vs.length->P (.done (.ret .none)) { s with heap:=g.update a (Obj.mapSeq λ _=>(outOf vs p).toArray) }:=λ p g1 u1 =>
  h p _ _ g1 u1 (λ b o hb q=>(Heap.get?_update_other g _ (Ne.symm hb)).trans (k2 b o hb q)) (get?_update_seq e2 λ _=>(outOf vs p).toArray)
 by_cases h2:vs.length<2
 ·have h2':vs.toArray.size<2:=by rw[uap];exact h2
  simp only [if_pos h2']
  refine uab (uah ?_)
  rw[StateT.run_pure]
  refine uab (uah ?_)
  have eo:((arrOf (SortSt.mk' general' (vs.toArray.zip vs.toArray) #[] 7 none)).map (·.2))=vs.toArray:=by
   apply Array.toList_inj.mp
   show ((vs.toArray.zip vs.toArray).map (·.2)).toList=_
   rw[Array.toList_map]
   simp only [Array.toList_zip,List.toList_toArray]
   exact List.map_snd_zip (uai _)
  dsimp only
  refine uab (seqEpoch_at e2 rfl ?_)
  rw[eo]
  refine uab (listUpdate_at e2 rfl ?_ (ube _) (by rw[uap];left))
  simp only [bne_self_eq_false,ub5,if_false]
  have f:=fin (uf0 (uaf vs.length)) (Array.Perm.refl _) (λ i j hij hj=>by
   have:i=j:=by left
   subst this;exact ubf _)
  rw[zn8] at f
  exact uah f
 ·have h2':¬ vs.toArray.size<2:=by rw[uap];exact h2
  simp only [if_neg h2']
  refine uab (ucw (hk (by left) { s with heap:=g } (λ κ' s'=>κ'=κ/\s'={ s with heap:=g }) k2 ⟨rfl,rfl⟩) (λ κ' s' hq=>?_) λ _ _ x=>x.elim)
  obtain⟨rfl,rfl⟩:=hq
  refine uab (ucw (kat_run (ks:=vs) (Q:=λ st' s'=>∃ p:Array Nat,arrOf st'=p.map (kas_item (vs.toArray.zip vs.toArray))/\failedOf st'=none/\s'={ s with heap:=g }/\Gd vs.length p/\Up r p vs.length)
   (G:=λ p s'=>s'={ s with heap:=g }/\Gd vs.length p/\Up r p vs.length) rfl (by left) h64 (λ p st' s' _ b2 b3 b4=>⟨p,b2,b3,b4.1,b4.2.1,b4.2.2⟩)
   (zsy (r:=r) (λ i j C hi hj q=>hc _ i j C k2 hi hj q) (by left) λ p g1 u1=>⟨rfl,g1,u1⟩)) ?_ λ _ _ e=>e)
  rintro ⟨⟨⟩,st'⟩ s' ⟨p,har,hf,rfl,g1,u1⟩
  have hout:=kat_snds (ks:=vs) (vs:=vs) rfl har
  have ol:(outOf vs p).length=vs.length:=zun g1
  dsimp only
  rw[hout]
  refine uab (seqEpoch_at e2 rfl ?_)
  refine uab (listUpdate_at e2 rfl ?_ (ube _) (by show (outOf vs p).toArray.size<=_;rw[uap];left))
  rw[hf]
  simp only [bne_self_eq_false,ub5,if_false]
  exact uah (fin p g1 u1)
theorem zis {l:Addr}{vs:List Value}{Q:Value->Shared->Prop}{r:Nat->Int}{κ:SortKind}(hl:s.heap.IsList l vs.toArray)(h64:vs.length<64)
  (hk:2<=vs.length->∀ (A':Around)(s':Shared)(Q:SortKind->Shared->Prop),(∀ b o,s.heap.get? b=some o->s'.heap.get? b=some o)->Q κ s'->wpAny (model prog w) A' (keyKind' vs.toArray) Q (λ _ _=>False) s')
  (hc:∀ (A':Around)(s':Shared)(i j:Nat)(C:Bool->Shared->Prop),(∀ b o,s.heap.get? b=some o->s'.heap.get? b=some o)->i<vs.length->j<vs.length->C (decide (r i<r j)) s'->kas_ask prog w A' κ vs i j C s')
  (h:∀ (p:Array Nat)(h':Heap)(c:Nat),Gd vs.length p->Up r p vs.length->(∀ b o,s.heap.get? b=some o->h'.get? b=some o)->h'.get? (s.heap.objs.size+1)=some (seqObj "list" (outOf vs p).toArray c)->Q (.ref (s.heap.objs.size+1)) { s with heap:=h' }) :
  wpAny (model prog w) A (call (.builtin "sorted") [.ref l]) Q E s:=by
 have line:(64:Nat)<=sizeLine:=by rw[uc9];decide
 refine Calls.call_function_entry kind_sorted plain_sorted entry_sorted (args_sorted1 _) ?_
 unfold Builtin.«sorted»
 refine uab (m:=checkCount "sorted" 1 1 _) (uah (uab (collect_list hl (uab (uel ?_ (by left))) (by left))))
 generalize hg:(s.heap.push (seqObj "list" #[] 0)).update s.heap.objs.size (Obj.mapSeq (·++vs.toArray))=g
 have sz:g.objs.size=s.heap.objs.size+1:=by rw[← hg,Heap.size_update,size_push']
 have k1:∀ b o,s.heap.get? b=some o->g.get? b=some o:=λ b o q=>by
  rw[← hg]
  exact (Heap.get?_update_other _ _ (Ne.symm (uas (Heap.lt_size q)))).trans (Heap.get?_push_of_some _ q)
 have hoL:(g.push { cls:=.type "list",data:=.seq vs.toArray }).get? (s.heap.objs.size+1)=some (seqObj "list" vs.toArray 0):=by rw[← sz];exact Heap.get?_push_size _ rfl
 have k2:∀ b o,s.heap.get? b=some o->(g.push { cls:=.type "list",data:=.seq vs.toArray }).get? b=some o:=λ b o q=>Heap.get?_push_of_some _ (k1 b o q)
 have ne:∀ b o,s.heap.get? b=some o->b≠s.heap.objs.size+1:=λ b o q=>uas (ubz (Heap.lt_size q))
 show wpAny _ _ _ _ _ { s with heap:=g.push { cls:=.type "list",data:=.seq vs.toArray } }
 rw[sz]
 refine uab (ubd (ubm slot_list_sort ⟨_,hoL,rfl⟩ entry_list_sort ?_ (args_list_sort _)))
 refine lsort (s:={ s with heap:=g.push { cls:=.type "list",data:=.seq vs.toArray } }) (r:=r) (κ:=κ) hoL h64 (λ h2 s' Q' st q=>hk h2 _ s' Q' (λ b o e=>st b o (ne b o e) (k2 b o e)) q)
  (λ s' i j C st hi hj q=>hc _ s' i j C (λ b o e=>st b o (ne b o e) (k2 b o e)) hi hj q) λ p h' c g1 u1 st e=>⟨_,rfl,?_⟩
 exact uah ⟨_,rfl,h p h' c g1 u1 (λ b o e=>st b o (ne b o e) (k2 b o e)) e⟩
def lexI:List Int->List Int->Bool
 | [],[]=>false
 | [],_::_=>true
 | _::_,[]=>false
 | x::xs,y::ys=>if x=y then lexI xs ys else decide (x<y)
theorem zhr:∀ xs,lexI xs xs=false
 | []=>rfl
 | x::xs=>by show (if x=x then lexI xs xs else _)=false;rw[if_pos rfl];exact zhr xs
theorem zd1:∀ xs ys zs,lexI xs ys=true->lexI ys zs=true->lexI xs zs=true
 | [],[],_,h,_=>by cases h
 | [],_::_,[],_,h=>by cases h
 | [],_::_,_::_,_,_=>rfl
 | _::_,[],_,h,_=>by cases h
 | _::_,_::_,[],_,h=>by cases h
 | x::xs,y::ys,z::zs,h1,h2=>by
  simp only [lexI] at h1 h2 ⊢
  by_cases e1:x=y
  ·subst e1
   rw[if_pos rfl] at h1
   by_cases e2:x=z
   ·rw[if_pos e2] at h2 ⊢;exact zd1 xs ys zs h1 h2
   ·rw[if_neg e2] at h2 ⊢;exact h2
  ·rw[if_neg e1] at h1
   have l1:x<y:=of_decide_eq_true h1
   by_cases e2:y=z
   ·subst e2
    rw[if_neg e1];exact h1
   ·rw[if_neg e2] at h2
    have l2:y<z:=of_decide_eq_true h2
    rw[if_neg (by left)]
    exact decide_eq_true (by left)
theorem zhq:∀ xs ys zs,lexI xs zs=true->lexI xs ys=true\/lexI ys zs=true
 | [],[],_,h=>.inr h
 | [],_::_,_,_=>.inl rfl
 | _::_,_,[],h=>by cases h
 | _::_,[],_::_,_=>.inr rfl
 | x::xs,y::ys,z::zs,h=>by
  simp only [lexI] at h ⊢
  by_cases e:x=z
  ·subst e
   rw[if_pos rfl] at h
   by_cases e1:x=y
   ·subst e1
    rw[if_pos rfl,if_pos rfl];exact zhq xs ys zs h
   ·rw[if_neg e1,if_neg (Ne.symm e1)]
    by_cases l:x<y
    ·exact .inl (decide_eq_true l)
    ·exact .inr (decide_eq_true (by left))
  ·rw[if_neg e] at h
   have l:x<z:=of_decide_eq_true h
   by_cases e1:x=y
   ·subst e1
    rw[if_neg e];exact .inr h
   ·by_cases e2:y=z
    ·subst e2
     rw[if_neg e1];exact .inl h
    ·rw[if_neg e1,if_neg e2]
     by_cases l1:x<y
     ·exact .inl (decide_eq_true l1)
     ·exact .inr (decide_eq_true (by left))
def TupI (h:Heap)(v:Value)(k:List Int):Prop:=∃ a o its n,v=.ref a/\h.get? a=some o/\o.cls=.type "tuple"/\o.data=.seq its n/\IntsAre its.toList k
theorem TupI.to {h h':Heap}{v:Value}{k:List Int}(t:TupI h v k)(e:∀ b o,h.get? b=some o->h'.get? b=some o):TupI h' v k :=
 let ⟨a,o,its,n,q1,q2,q3⟩:=t
 ⟨a,o,its,n,q1,e _ _ q2,q3⟩
theorem katI {C:Bool->Shared->Prop}:∀ {xs ys:List Value}{k k':List Int}(i:Nat),IntsAre xs k->IntsAre ys k'->C (lexI k k') s->KatLex prog w A true (decide (k.length<k'.length)) C (xs.zip ys) i s
 | _,_,_,_,i,.nil,.nil,h=>h
 | _,_,_,_,i,.nil,.cons c u h',h=>by
  rw[List.zip_nil_left]
  refine kat_nil ?_
  rw[decide_eq_true (by simp)]
  exact h
 | _,_,_,_,i,.cons a t h',.nil,h=>by
  rw[List.zip_nil_right]
  refine kat_nil ?_
  rw[decide_eq_false (by simp)]
  exact h
 | _,_,_,_,i,.cons a t (vs:=xs) (ns:=k) h1,.cons c u (vs:=ys) (ns:=k') h2,h=>by
  rw[uem]
  refine kat_cons (wpAny_eqBool_int ?_)
  have ef:decide ((a::k).length<(c::k').length)=decide (k.length<k'.length):=by simp
  have hh:C (if a=c then lexI k k' else decide (a<c)) s:=h
  rw[ef]
  by_cases e:a=c
  ·rw[if_pos e] at hh
   rw[show (a==c)=true by simpa using e]
   exact kat_yes (katI (i+1) h1 h2 hh)
  ·rw[if_neg e] at hh
   rw[show (a==c)=false by simpa using e]
   refine kat_no ?_
   cases hi:(true&&i==0) with
   | true=>exact oneLt_int hh
   | false=>exact kat_one _ _ (lt_int hh)
theorem zsp {vs:List Value}{ks:List (List Int)}(hk:Paired (TupI s.heap) vs ks){i j:Nat}{C:Bool->Shared->Prop}(hi:i<vs.length)(hj:j<vs.length)(h:C (lexI (ks.getD i []) (ks.getD j [])) s):kas_ask prog w A (tuples' true) vs i j C s:=by
 have at_:∀ {vs:List Value}{ks:List (List Int)}(i:Nat),Paired (TupI s.heap) vs ks->i<vs.length->TupI s.heap (vs.getD i Value.none) (ks.getD i []):=by
  intro vs ks i p
  induction p generalizing i with
  | nil=>intro h;exact absurd h (by simp)
  | cons r t ih =>
   intro h
   cases i with
   | zero=>exact r
   | succ i=>exact ih i (by simpa using h)
 obtain⟨a,o,its,n,e1,q1,q2,q3,q4⟩:=at_ i hk hi
 obtain⟨a',o',its',n',e1',q1',q2',q3',q4'⟩:=at_ j hk hj
 unfold kas_ask
 rw[e1,e1']
 refine kat_lt q1 q3 q1' q3' ?_
 have l1:its.size=(ks.getD i []).length:=by have:=q4.length;simpa using this
 have l2:its'.size=(ks.getD j []).length:=by have:=q4'.length;simpa using this
 rw[l1,l2]
 exact katI 0 q4 q4' h
theorem zqg {vs:List Value}{ks:List (List Int)}(hk:Paired (TupI s.heap) vs ks)(hne:∀ k∈ks,k≠[])(h2:2<=vs.length){Q:SortKind->Shared->Prop}(h:Q (tuples' true) s):wpAny (model prog w) A (keyKind' vs.toArray) Q E s:=by
 have mk:∀ {vs:List Value}{ks:List (List Int)},Paired (TupI s.heap) vs ks->(∀ k∈ks,k≠[])->∃ fs:List Value,KatTups s.heap vs fs/\fs.length=vs.length/\∀ f∈fs,∃ n t,f=.int n t:=by
  intro vs ks p
  induction p with
  | nil=>exact λ _=>⟨[],.nil,rfl,λ f hf=>nomatch hf⟩
  | cons r t ih =>
   intro hn
   obtain⟨fs,g1,g2,g3⟩:=ih λ k hk=>hn k (uan _ hk)
   obtain⟨a,o,its,n,e1,q1,q2,q3,q4⟩:=r
   have hne:=hn _ ual
   subst e1
   cases hz:its.toList with
   | nil=>rw[hz] at q4;cases q4;exact absurd rfl hne
   | cons v r =>
    rw[hz] at q4
    obtain⟨m,tk,ev⟩:=q4.all v ual
    refine⟨v::fs,.cons q1 q2 q3 ?_ g1,by simp [g2],λ f hf=>?_⟩
    ·rw[← ucs,hz];rfl
    ·rcases uam.mp hf with e | hf
     ·exact⟨m,tk,e.trans ev⟩
     ·exact g3 f hf
 obtain⟨fs,g1,g2,g3⟩:=mk hk hne
 refine kat_kind (T:=.type "int") g1 (by left) (λ v hv=>?_) (by symm) h
 obtain⟨m,tk,rfl⟩:=g3 v hv
 exact Looks.of_pure rfl
theorem zo4 {vs:List Value}{ns:List Int}(hk:IntsAre vs ns){i j:Nat}{C:Bool->Shared->Prop}(hi:i<vs.length)(hj:j<vs.length)(h:C (decide (ns.getD i 0<ns.getD j 0)) s):kas_ask prog w A oneType' vs i j C s:=by
 have at_:∀ {vs:List Value}{ns:List Int}(i:Nat),IntsAre vs ns->i<vs.length->∃ t,vs.getD i Value.none=.int (ns.getD i 0) t:=by
  intro vs ns i p
  induction p generalizing i with
  | nil=>intro h;exact absurd h (by simp)
  | cons n t r ih =>
   intro h
   cases i with
   | zero=>exact⟨t,rfl⟩
   | succ i=>exact ih i (by simpa using h)
 obtain⟨t,e1⟩:=at_ i hk hi
 obtain⟨u,e2⟩:=at_ j hk hj
 unfold kas_ask
 rw[e1,e2]
 exact kat_lt_int h
theorem zl3 {vs:List Value}{ns:List Int}(hk:IntsAre vs ns)(h2:2<=vs.length){Q:SortKind->Shared->Prop}(h:Q oneType' s):wpAny (model prog w) A (keyKind' vs.toArray) Q E s:=by
 refine kas_kind (T:=.type "int") h2 (λ v hv=>?_) (by symm) (by symm) h
 obtain⟨m,tk,rfl⟩:=hk.all v hv
 exact Looks.of_pure rfl
end
end Srt
namespace Z3
open PySem
section
variable {prog:Program}{w:World}{A:Around}{E:Value->Shared->Prop}{s:Shared}
def SqAt (t:Bool)(h:Heap)(l:Addr)(xs:Array Value):Prop:=if t=true then h.IsTuple l xs else h.IsList l xs
def ItAt (t:Bool)(h:Heap)(it l:Addr)(i:Nat):Prop:=if t=true then h.IsTupleIter it l i else h.IsListIter it l i
def itObj (t:Bool)(l:Addr):Obj:=if t=true then { cls:=.type "tuple_iterator",data:=.fields #[.ref l,.int 0 0] } else { cls:=.type "list_iterator",data:=.fields #[.ref l,.int 0 0] }
theorem SqAt.to {t:Bool}{h h':Heap}{l:Addr}{xs:Array Value}(x:SqAt t h l xs)(e:∀ o,h.get? l=some o->h'.get? l=some o):SqAt t h' l xs:=by
 cases t with
 | true=>exact Heap.IsTuple.at (show h.IsTuple l xs from x) e
 | false=>exact Heap.IsList.at (show h.IsList l xs from x) e
theorem ItAt.to {t:Bool}{h h':Heap}{it l:Addr}{i:Nat}(x:ItAt t h it l i)(e:∀ o,h.get? it=some o->h'.get? it=some o):ItAt t h' it l i:=by
 cases t with
 | true=>exact Heap.IsTupleIter.at (show h.IsTupleIter it l i from x) e
 | false=>exact Heap.IsListIter.at (show h.IsListIter it l i from x) e
theorem ItAt.obj {t:Bool}{h:Heap}{it l:Addr}{i:Nat}(x:ItAt t h it l i):∃ o n,h.get? it=some o/\o.cls=.type n/\o.data=.fields #[.ref l,.int i 0]:=by
 cases t with
 | true=>obtain⟨o,a,b,c⟩:=(show h.IsTupleIter it l i from x);exact⟨o,_,a,b,c⟩
 | false=>obtain⟨o,a,b,c⟩:=(show h.IsListIter it l i from x);exact⟨o,_,a,b,c⟩
theorem ItAt.new {t:Bool}{h:Heap}{l:Addr}:ItAt t (h.push (itObj t l)) h.objs.size l 0:=by
 cases t with
 | true=>exact⟨_,Heap.get?_push_size _ rfl,rfl,rfl⟩
 | false=>exact⟨_,Heap.get?_push_size _ rfl,rfl,rfl⟩
theorem zfe {t:Bool}{l:Addr}{xs:Array Value}{Q:Value->Shared->Prop}(hl:SqAt t s.heap l xs)(h:Q (.ref s.heap.objs.size) { s with heap:=s.heap.push (itObj t l) }):wpAny (model prog w) A (pyIter (.ref l)) Q E s:=by
 cases t with
 | true=>exact uev hl h
 | false=>exact uct hl h
theorem zrt {it l:Addr}{i:Nat}{xs:Array Value}{x:Value}{Q:Value->Shared->Prop}(hi:s.heap.IsTupleIter it l i)(hl:s.heap.IsTuple l xs)(hx:xs[i]?=some x)
  (h:∀ h',h'.IsTupleIter it l (i+1)->Heap.SameBut it s.heap h'->Q x { s with heap:=h' }):wpAny (model prog w) A (Builtin.SmallTypes.nextOf (.ref it)) Q E s:=by
 obtain⟨o1,q1,q2,q3⟩:=id hi
 obtain⟨o2,q4,_,n2,q5⟩:=hl
 unfold Builtin.SmallTypes.nextOf
 refine uab (ubh (name:=Str.ofString "__next__") hi.typeIs F.slot_tuple_iterator_next (ubm F.slot_tuple_iterator_next hi.typeIs F.entry_tuple_iterator_next ?_ (F.args_tuple_iterator_next_1 _)))
 show wpAny _ _ (field (.ref it) 0 >>= _) _ _ s
 refine uab (ub1 q1 q3 (x:=.ref l) rfl ?_)
 show wpAny _ _ (if (Value.ref l==Value.none)=true then _ else _) _ _ s
 rw[if_neg (show ¬ ((Value.ref l==Value.none)=true) from uau)]
 show wpAny _ _ (field (.ref it) 1 >>= _) _ _ s
 refine uab (ub1 q1 q3 (x:=.int i 0) rfl ?_)
 show wpAny _ _ (seqItems? (.ref l) >>= _) _ _ s
 refine uab (ubv q4 q5 ?_)
 simp only [uao,hx]
 refine uab (udq q1 q3 (by simp) (uah ⟨x,rfl,uah (h _ ?_ (Heap.SameBut.update ..))⟩))
 exact⟨_,Heap.get?_update_self _ q1 (Obj.isFreed_of_fields (Obj.data_mapFields q3 _)),(Obj.cls_mapFields ..).trans q2,by rw[Obj.data_mapFields q3];simp [rawInt]⟩
theorem zqq {it l:Addr}{i:Nat}{xs:Array Value}{Q:Value->Shared->Prop}(hh:A.handled=none)(hi:s.heap.IsTupleIter it l i)(hl:s.heap.IsTuple l xs)(hx:xs[i]?=none)
  (h:∀ h' e,Heap.ExtBut it s.heap h'->(∃ o,h'.get? e=some o/\o.cls=.type "StopIteration")->E (.ref e) { s with heap:=h' }):wpAny (model prog w) A (Builtin.SmallTypes.nextOf (.ref it)) Q E s:=by
 obtain⟨o1,q1,q2,q3⟩:=id hi
 obtain⟨o2,q4,_,n2,q5⟩:=hl
 unfold Builtin.SmallTypes.nextOf
 refine uab (ubh (name:=Str.ofString "__next__") hi.typeIs F.slot_tuple_iterator_next (ubm F.slot_tuple_iterator_next hi.typeIs F.entry_tuple_iterator_next ?_ (F.args_tuple_iterator_next_1 _)))
 show wpAny _ _ (field (.ref it) 0 >>= _) _ _ s
 refine uab (ub1 q1 q3 (x:=.ref l) rfl ?_)
 show wpAny _ _ (if (Value.ref l==Value.none)=true then _ else _) _ _ s
 rw[if_neg (show ¬ ((Value.ref l==Value.none)=true) from uau)]
 show wpAny _ _ (field (.ref it) 1 >>= _) _ _ s
 refine uab (ub1 q1 q3 (x:=.int i 0) rfl ?_)
 show wpAny _ _ (seqItems? (.ref l) >>= _) _ _ s
 refine uab (ubv q4 q5 ?_)
 simp only [uao,hx]
 refine uab (udl (uab (udq q1 q3 (by simp) ?_)))
 show wpAny _ _ (newExc (.type "StopIteration") [] >>= _) _ _ { s with heap:=_ }
 refine uab (by
  simp only [newExc,newTuple]
  refine uab (ubu ?_ (by size_fits))
  refine uab (m:=firstArgMember _ _) (ufw (a:=Value.none) (by first | rfl | (simp only [firstArgMember];rfl)) ?_)
  refine ubu ?_ (by size_fits)
  simp only [raiseNew]
  refine uab (wpAny_handled ?_)
  first | rw[show A.in1.handled=none from hh] | rw[hh]
  exact uab (uah (wpAny_throw (h _ _ (((Heap.SameBut.update ..).extBut.push _).push _) ⟨_,Heap.get?_push_size _ rfl,rfl⟩))))
theorem zhx {t:Bool}{it l:Addr}{i:Nat}{xs:Array Value}{x:Value}{Q:Value->Shared->Prop}(hi:ItAt t s.heap it l i)(hl:SqAt t s.heap l xs)(hx:xs[i]?=some x)
  (h:∀ h',ItAt t h' it l (i+1)->Heap.SameBut it s.heap h'->Q x { s with heap:=h' }):wpAny (model prog w) A (Builtin.SmallTypes.nextOf (.ref it)) Q E s:=by
 cases t with
 | true=>exact zrt hi hl hx h
 | false=>exact wpAny_nextOf_list_item hi hl hx h
theorem zkd {t:Bool}{it l:Addr}{i:Nat}{xs:Array Value}{Q:Value->Shared->Prop}(hh:A.handled=none)(hi:ItAt t s.heap it l i)(hl:SqAt t s.heap l xs)(hx:xs[i]?=none)
  (h:∀ h' e,Heap.ExtBut it s.heap h'->(∃ o,h'.get? e=some o/\o.cls=.type "StopIteration")->E (.ref e) { s with heap:=h' }):wpAny (model prog w) A (Builtin.SmallTypes.nextOf (.ref it)) Q E s:=by
 cases t with
 | true=>exact zqq hh hi hl hx h
 | false=>exact wpAny_nextOf_list_end hh hi hl hx h
structure Zd (t1 t2:Bool)(h:Heap)(z TI TO i1 i2 l1 l2:Addr)(f0:Value)(k:Nat):Prop where
 z:IsZip h z TI TO f0
 ti:IsPair h TI (.ref i1) (.ref i2)
 to:∃ a b,IsPair h TO a b
 a1:ItAt t1 h i1 l1 k
 a2:ItAt t2 h i2 l2 k
structure Ap (z TI TO i1 i2:Addr):Prop where
 n1:TI≠z
 n2:TO≠z
 n3:i1≠z
 n4:i2≠z
 n5:TI≠TO
 n6:TI≠i1
 n7:TI≠i2
 n8:TO≠i1
 n9:TO≠i2
 n10:i1≠i2
def Out (z TI TO i1 i2 l:Addr):Prop:=l≠z/\l≠TI/\l≠TO/\l≠i1/\l≠i2
theorem zqa {t1 t2:Bool}{z TI TO i1 i2 l1 l2:Addr}{k:Nat}{xs ys:Array Value}{x y:Value}{Q:Value->Shared->Prop}(D:Ap z TI TO i1 i2)(o1:Out z TI TO i1 i2 l1)(o2:Out z TI TO i1 i2 l2)
  (Z:Zd t1 t2 s.heap z TI TO i1 i2 l1 l2 .none k) (hl1:SqAt t1 s.heap l1 xs) (hl2:SqAt t2 s.heap l2 ys) (hx:xs[k]?=some x) (hy:ys[k]?=some y)
  (hQ:∀ h',Zd t1 t2 h' z TI TO i1 i2 l1 l2 (rawInt s.heap.objs.size) (k+1)->IsPair h' s.heap.objs.size x y->h'.objs.size=s.heap.objs.size+1 ->
   (∀ c o,c≠z->c≠TO->c≠i1->c≠i2->s.heap.get? c=some o->h'.get? c=some o)->Q (.ref s.heap.objs.size) { s with heap:=h' }) :
  wpAny (model prog w) A (Builtin.«zip.__next__» ⟨[.ref z],[]⟩) (λ fin s'=>∃ v,fin=.done (.ret v)/\Q v s') E s:=by
 obtain⟨hz,hti,⟨a,b,hto⟩,h1,h2⟩:=Z
 show wpAny _ _ (field (.ref z) 2 >>= _) _ _ s
 refine uab (ub1 hz rfl (x:=.bool false) rfl ?_)
 show wpAny _ _ (field (.ref z) 3 >>= _) _ _ s
 refine uab (ub1 hz rfl (x:=.ref TI) rfl ?_)
 refine uab (ubv hti rfl ?_)
 show wpAny _ _ (Builtin.SmallTypes.ownedTupleIsFree (.ref z) >>= _) _ _ s
 refine uab ?_
 unfold Builtin.SmallTypes.ownedTupleIsFree
 refine uab (ub1 hz rfl (x:=.none) rfl (uah ?_))
 simp only [if_true]
 refine uab (udl ?_)
 refine uab (ub1 hz rfl (x:=.ref TO) rfl ?_)
 refine uab (ub8 hz (by simp) λ g1 z1 e1=>?_)
 replace z1:IsZip g1 z TI TO .ellipsis:=z1
 refine uab ?_
 simp only [List.zipIdx_cons,List.zipIdx_nil,ugf,List.forIn_nil]
 refine uab (uab (uf8 ?_))
 show wpAny _ _ (Builtin.SmallTypes.nextOf (.ref i1) >>= _) _ _ { s with heap:=g1 }
 refine uab (zhx (h1.to λ o e=>e1.extBut _ _ D.n3 e) (hl1.to λ o e=>e1.extBut _ _ o1.1 e) hx λ g2 a2 e2=>uah ?_)
 have b2:IsPair g2 TO a b:=e2.extBut _ _ D.n8 (e1.extBut _ _ D.n2 hto)
 refine uab (ubv b2 rfl ?_)
 refine uab (ufo b2 λ g3 b3 e3=>?_)
 replace b3:IsPair g3 TO x b:=b3
 refine uab (udf (uah ?_))
 refine uab (uab (uf8 ?_))
 show wpAny _ _ (Builtin.SmallTypes.nextOf (.ref i2) >>= _) _ _ { s with heap:=g3 }
 refine uab (zhx (h2.to λ o e=>e3.extBut _ _ D.n9.symm (e2.extBut _ _ D.n10.symm (e1.extBut _ _ D.n4 e))) (hl2.to λ o e=>e3.extBut _ _ o2.2.2.1 (e2.extBut _ _ o2.2.2.2.1 (e1.extBut _ _ o2.1 e))) hy λ g4 a4 e4=>uah ?_)
 have b4:IsPair g4 TO x b:=e4.extBut _ _ D.n9 b3
 refine uab (ubv b4 rfl ?_)
 refine uab (ufo b4 λ g5 b5 e5=>?_)
 replace b5:IsPair g5 TO x y:=b5
 refine uab (udf (uah (uah ?_)))
 refine uab (ubv b5 rfl ?_)
 refine uab (wpAny_newTuple ?_)
 have sz:g5.objs.size=s.heap.objs.size:=by rw[e5.1,e4.1,e3.1,e2.1,e1.1]
 have z5:IsZip g5 z TI TO .ellipsis:=e5.extBut _ _ D.n2.symm (e4.extBut _ _ D.n4.symm (e3.extBut _ _ D.n2.symm (e2.extBut _ _ D.n3.symm z1)))
 have k5:∀ c o,c≠z->c≠TO->c≠i1->c≠i2->s.heap.get? c=some o->g5.get? c=some o:=λ c o c1 c2 c3 c4 e =>
  e5.extBut _ _ c2 (e4.extBut _ _ c4 (e3.extBut _ _ c2 (e2.extBut _ _ c3 (e1.extBut _ _ c1 e))))
 have a15:ItAt t1 g5 i1 l1 (k+1):=a2.to λ o e=>e5.extBut _ _ D.n8.symm (e4.extBut _ _ D.n10 (e3.extBut _ _ D.n8.symm e))
 have a25:ItAt t2 g5 i2 l2 (k+1):=a4.to λ o e=>e5.extBut _ _ D.n9.symm e
 have zlt:z<g5.objs.size:=Heap.lt_size z5
 show wpAny _ _ (Builtin.SmallTypes.ownedTupleHandOut (.ref z) (.ref g5.objs.size) >>= _) _ _ { s with heap:=_ }
 refine uab ?_
 unfold Builtin.SmallTypes.ownedTupleHandOut
 have z6:IsZip (g5.push { cls:=.type "tuple",data:=.seq #[x,y] }) z TI TO .ellipsis:=Heap.get?_push_of_some _ z5
 refine uab (ub8 z6 (by simp) λ g7 z7 e7=>?_)
 replace z7:IsZip g7 z TI TO (rawInt g5.objs.size):=z7
 refine ub8 z7 (by simp) λ g8 z8 e8=>?_
 replace z8:IsZip g8 z TI TO (rawInt g5.objs.size):=z8
 have up:∀ c o,c≠z->g5.get? c=some o->g8.get? c=some o:=λ c o c1 e=>e8.extBut _ _ c1 (e7.extBut _ _ c1 (Heap.get?_push_of_some _ e))
 have t8:IsPair g8 g5.objs.size x y:=e8.extBut _ _ (ucq zlt) (e7.extBut _ _ (ucq zlt) (Heap.get?_push_size _ rfl))
 have sz8:g8.objs.size=g5.objs.size+1:=by rw[e8.1,e7.1,Heap.size_push]
 rw[sz] at z8 t8 sz8
 refine uah ⟨_,rfl,?_⟩
 show Q (.ref g5.objs.size) { s with heap:=g8 }
 rw[sz]
 exact hQ g8 ⟨z8,up _ _ D.n1 (k5 _ _ D.n1 D.n5 D.n6 D.n7 hti),⟨x,y,up _ _ D.n2 b5⟩,a15.to λ o e=>up _ o D.n3 e,a25.to λ o e=>up _ o D.n4 e⟩ t8 sz8 λ c o c1 c2 c3 c4 e=>up c o c1 (k5 c o c1 c2 c3 c4 e)
theorem zp9 {t1 t2:Bool}{z TI TO i1 i2 l1 l2:Addr}{k:Nat}{xs ys:Array Value}{Q:Fin->Shared->Prop}(hh:A.handled=none)(D:Ap z TI TO i1 i2)(o1:Out z TI TO i1 i2 l1)(o2:Out z TI TO i1 i2 l2)
  (Z:Zd t1 t2 s.heap z TI TO i1 i2 l1 l2 .none k) (hl1:SqAt t1 s.heap l1 xs) (hl2:SqAt t2 s.heap l2 ys) (hend:xs[k]?=none\/ys[k]?=none)
  (hE:∀ h' e,(∀ c o,c≠z->c≠TO->c≠i1->c≠i2->s.heap.get? c=some o->h'.get? c=some o)->(∃ o,h'.get? e=some o/\o.cls=.type "StopIteration")->E (.ref e) { s with heap:=h' }) :
  wpAny (model prog w) A (Builtin.«zip.__next__» ⟨[.ref z],[]⟩) Q E s:=by
 obtain⟨hz,hti,⟨a,b,hto⟩,h1,h2⟩:=Z
 show wpAny _ _ (field (.ref z) 2 >>= _) _ _ s
 refine uab (ub1 hz rfl (x:=.bool false) rfl ?_)
 show wpAny _ _ (field (.ref z) 3 >>= _) _ _ s
 refine uab (ub1 hz rfl (x:=.ref TI) rfl ?_)
 refine uab (ubv hti rfl ?_)
 show wpAny _ _ (Builtin.SmallTypes.ownedTupleIsFree (.ref z) >>= _) _ _ s
 refine uab ?_
 unfold Builtin.SmallTypes.ownedTupleIsFree
 refine uab (ub1 hz rfl (x:=.none) rfl (uah ?_))
 simp only [if_true]
 refine uab (udl ?_)
 refine uab (ub1 hz rfl (x:=.ref TO) rfl ?_)
 refine uab (ub8 hz (by simp) λ g1 z1 e1=>?_)
 replace z1:IsZip g1 z TI TO .ellipsis:=z1
 refine uab ?_
 simp only [List.zipIdx_cons,List.zipIdx_nil,ugf,List.forIn_nil]
 refine uab (uab (uf8 ?_))
 show wpAny _ _ (Builtin.SmallTypes.nextOf (.ref i1) >>= _) _ _ { s with heap:=g1 }
 cases hx:xs[k]? with
 | none =>
  refine uab (zkd hh (h1.to λ o e=>e1.extBut _ _ D.n3 e) (hl1.to λ o e=>e1.extBut _ _ o1.1 e) hx λ g2 e e2 he=>?_)
  obtain⟨oe,p1,p2⟩:=he
  have z2:IsZip g2 z TI TO .ellipsis:=e2 _ _ D.n3.symm z1
  have ez:e≠z:=λ q=>by subst q;rw[z2] at p1;cases p1;simp at p2
  exact ub8 z2 (by simp) λ g3 _ e3=>hE g3 e (λ c o c1 _ c3 _ q=>e3.extBut _ _ c1 (e2 _ _ c3 (e1.extBut _ _ c1 q))) ⟨oe,e3.extBut _ _ ez p1,p2⟩
 | some x =>
  have hy:ys[k]?=none:=by
   rcases hend with q | q
   ·rw[hx] at q;cases q
   ·exact q
  refine uab (zhx (h1.to λ o e=>e1.extBut _ _ D.n3 e) (hl1.to λ o e=>e1.extBut _ _ o1.1 e) hx λ g2 a2 e2=>uah ?_)
  have b2:IsPair g2 TO a b:=e2.extBut _ _ D.n8 (e1.extBut _ _ D.n2 hto)
  refine uab (ubv b2 rfl ?_)
  refine uab (ufo b2 λ g3 b3 e3=>?_)
  refine uab (udf (uah ?_))
  refine uab (uab (uf8 ?_))
  show wpAny _ _ (Builtin.SmallTypes.nextOf (.ref i2) >>= _) _ _ { s with heap:=g3 }
  refine uab (zkd hh (h2.to λ o e=>e3.extBut _ _ D.n9.symm (e2.extBut _ _ D.n10.symm (e1.extBut _ _ D.n4 e))) (hl2.to λ o e=>e3.extBut _ _ o2.2.2.1 (e2.extBut _ _ o2.2.2.2.1 (e1.extBut _ _ o2.1 e))) hy λ g4 e e4 he=>?_)
  obtain⟨oe,p1,p2⟩:=he
  have z4:IsZip g4 z TI TO .ellipsis:=e4 _ _ D.n4.symm (e3.extBut _ _ D.n2.symm (e2.extBut _ _ D.n3.symm z1))
  have ez:e≠z:=λ q=>by subst q;rw[z4] at p1;cases p1;simp at p2
  exact ub8 z4 (by simp) λ g5 _ e5=>hE g5 e (λ c o c1 c2 c3 c4 q=>e5.extBut _ _ c1 (e4 _ _ c4 (e3.extBut _ _ c2 (e2.extBut _ _ c3 (e1.extBut _ _ c1 q))))) ⟨oe,e5.extBut _ _ ez p1,p2⟩
theorem zoj {t1 t2:Bool}{z TI TO i1 i2 l1 l2:Addr}{k:Nat}{xs ys:Array Value}{x y:Value}{Q:Option Value->Shared->Prop}(D:Ap z TI TO i1 i2)(o1:Out z TI TO i1 i2 l1)(o2:Out z TI TO i1 i2 l2)
  (Z:Zd t1 t2 s.heap z TI TO i1 i2 l1 l2 .none k) (hl1:SqAt t1 s.heap l1 xs) (hl2:SqAt t2 s.heap l2 ys) (hx:xs[k]?=some x) (hy:ys[k]?=some y)
  (hQ:∀ h',Zd t1 t2 h' z TI TO i1 i2 l1 l2 (rawInt s.heap.objs.size) (k+1)->IsPair h' s.heap.objs.size x y->h'.objs.size=s.heap.objs.size+1 ->
   (∀ c o,c≠z->c≠TO->c≠i1->c≠i2->s.heap.get? c=some o->h'.get? c=some o)->Q (some (.ref s.heap.objs.size)) { s with heap:=h' }) :
  wpAny (model prog w) A (pyNext (.ref z)) Q E s:=by
 have hT:s.TypeIs (.ref z) "zip":=⟨_,Z.z,rfl⟩
 unfold pyNext
 exact uab (udw (ubh (name := Str.ofString "__next__") hT F.slot_zip_next (ubm F.slot_zip_next hT F.entry_zip_next
     (zqa D o1 o2 Z hl1 hl2 hx hy λ h' b1 b2 b3 b4=>uah (hQ h' b1 b2 b3 b4)) (F.args_zip_next_1 _))))
theorem zoi {t1 t2:Bool}{z TI TO i1 i2 l1 l2:Addr}{k:Nat}{xs ys:Array Value}{Q:Option Value->Shared->Prop}(hh:A.handled=none)(D:Ap z TI TO i1 i2)(o1:Out z TI TO i1 i2 l1)(o2:Out z TI TO i1 i2 l2)
  (Z:Zd t1 t2 s.heap z TI TO i1 i2 l1 l2 .none k) (hl1:SqAt t1 s.heap l1 xs) (hl2:SqAt t2 s.heap l2 ys) (hend:xs[k]?=none\/ys[k]?=none)
  (hQ:∀ h',(∀ c o,c≠z->c≠TO->c≠i1->c≠i2->s.heap.get? c=some o->h'.get? c=some o)->Q none { s with heap:=h' }):wpAny (model prog w) A (pyNext (.ref z)) Q E s:=by
 have hT:s.TypeIs (.ref z) "zip":=⟨_,Z.z,rfl⟩
 unfold pyNext
 refine uab (udw (ubh (name := Str.ofString "__next__") hT F.slot_zip_next (ubm F.slot_zip_next hT F.entry_zip_next
     (zp9 hh D o1 o2 Z hl1 hl2 hend λ h' e hk he=>?_) (F.args_zip_next_1 _))))
 obtain⟨o,p1,p2⟩:=he
 exact uab (ueh (T:="StopIteration") (b:=true) ⟨o,p1,p2⟩ ufv (uah (hQ _ hk)))
abbrev zh1 (h:Heap)(t1:Bool)(l1:Addr):Heap:=h.push (itObj t1 l1)
abbrev zh2 (h:Heap)(t1 t2:Bool)(l1 l2:Addr):Heap:=(zh1 h t1 l1).push (itObj t2 l2)
abbrev zh3 (h:Heap)(t1 t2:Bool)(l1 l2:Addr):Heap:=(zh2 h t1 t2 l1 l2).push { cls:=.type "tuple",data:=.seq #[.ref h.objs.size,.ref (zh1 h t1 l1).objs.size] }
abbrev zh4 (h:Heap)(t1 t2:Bool)(l1 l2:Addr):Heap:=(zh3 h t1 t2 l1 l2).push { cls:=.type "tuple",data:=.seq #[.none,.none] }
abbrev zh5 (h:Heap)(t1 t2:Bool)(l1 l2:Addr):Heap:=(zh4 h t1 t2 l1 l2).push { cls:=.type "zip",data:=.fields #[.none,.bool false,.bool false,.ref (zh2 h t1 t2 l1 l2).objs.size,.ref (zh3 h t1 t2 l1 l2).objs.size] }
theorem zsl (t1 t2:Bool)(l1 l2:Addr)(xs ys:Array Value) :
  Meets (Builtin.«zip.__new__» ⟨[.type "zip",.ref l1,.ref l2],[]⟩) (λ _ R s=>SqAt t1 s.heap l1 xs/\SqAt t2 s.heap l2 ys/\R (.ok (.ret (.ref (zh4 s.heap t1 t2 l1 l2).objs.size))) { s with heap:=zh5 s.heap t1 t2 l1 l2 }) :=
 .of_wp λ prog w A R s h=>by
  obtain⟨hp,g,d,tk,os⟩:=s;obtain⟨hl1,hl2,h⟩:=h
  have hsub:=sub_zip
  have b1:SqAt t1 (Shared.heap ⟨hp,g,d,tk,os⟩) l1 xs:=hl1
  have b2:SqAt t2 (Shared.heap ⟨hp.push (itObj t1 l1),g,d,tk,os⟩) l2 ys:=SqAt.to hl2 λ o e=>Heap.get?_push_of_some _ e
  wp_walk using zfe b1,zfe b2
  exact⟨_,rfl,h⟩
theorem zrz {t1 t2:Bool}{l1 l2:Addr}{xs ys:Array Value}{Q:Value->Shared->Prop}(hl1:SqAt t1 s.heap l1 xs)(hl2:SqAt t2 s.heap l2 ys)
  (h:∀ h',Zd t1 t2 h' (s.heap.objs.size+4) (s.heap.objs.size+2) (s.heap.objs.size+3) s.heap.objs.size (s.heap.objs.size+1) l1 l2 .none 0->h'.objs.size=s.heap.objs.size+5 ->
   (∀ c o,s.heap.get? c=some o->h'.get? c=some o)->Q (.ref (s.heap.objs.size+4)) { s with heap:=h' }) :
  wpAny (model prog w) A (call (.type "zip") [.ref l1,.ref l2]) Q E s:=by
 refine callType_new F.called_zip (by decide) (F.typeCall_zip_2 _ _) (F.newCall_zip_2 _ _) (λ obj=>F.args_object_init_3 obj _ _) F.entry_zip_new (zsl t1 t2 l1 l2 xs ys) ⟨hl1,hl2,?_⟩
 have z1:(zh1 s.heap t1 l1).objs.size=s.heap.objs.size+1:=Heap.size_push ..
 have z2:(zh2 s.heap t1 t2 l1 l2).objs.size=s.heap.objs.size+2:=by rw[Heap.size_push,z1]
 have z3:(zh3 s.heap t1 t2 l1 l2).objs.size=s.heap.objs.size+3:=by rw[Heap.size_push,z2]
 have z4:(zh4 s.heap t1 t2 l1 l2).objs.size=s.heap.objs.size+4:=by rw[Heap.size_push,z3]
 have z5:(zh5 s.heap t1 t2 l1 l2).objs.size=s.heap.objs.size+5:=by rw[Heap.size_push,z4]
 have g5:(zh5 s.heap t1 t2 l1 l2).get? (zh4 s.heap t1 t2 l1 l2).objs.size=some _:=Heap.get?_push_size _ rfl
 have g4:(zh5 s.heap t1 t2 l1 l2).get? (zh3 s.heap t1 t2 l1 l2).objs.size=some _:=Heap.get?_push_of_some _ (Heap.get?_push_size _ rfl)
 have g3:(zh5 s.heap t1 t2 l1 l2).get? (zh2 s.heap t1 t2 l1 l2).objs.size=some _:=Heap.get?_push_of_some _ (Heap.get?_push_of_some _ (Heap.get?_push_size _ rfl))
 have g2:ItAt t2 (zh5 s.heap t1 t2 l1 l2) (zh1 s.heap t1 l1).objs.size l2 0:=(ItAt.new (t:=t2) (h:=zh1 s.heap t1 l1) (l:=l2)).to λ o e=>Heap.get?_push_of_some _ (Heap.get?_push_of_some _ (Heap.get?_push_of_some _ e))
 have g1:ItAt t1 (zh5 s.heap t1 t2 l1 l2) s.heap.objs.size l1 0:=(ItAt.new (t:=t1) (h:=s.heap) (l:=l1)).to λ o e=>Heap.get?_push_of_some _ (Heap.get?_push_of_some _ (Heap.get?_push_of_some _ (Heap.get?_push_of_some _ e)))
 show _/\_
 rw[z2,z3,z4] at g5
 rw[z1,z2] at g3
 rw[z3] at g4
 rw[z1] at g2
 rw[z4]
 exact⟨⟨_,g5,rfl⟩,h _ ⟨g5,g3,⟨_,_,g4⟩,g1,g2⟩ z5 λ c o q=>Heap.get?_push_of_some _ (Heap.get?_push_of_some _ (Heap.get?_push_of_some _ (Heap.get?_push_of_some _ (Heap.get?_push_of_some _ q))))⟩
theorem zu0 (n:Nat):Ap (n+4) (n+2) (n+3) n (n+1):=by
 constructor <;> (show (_:Nat)≠(_:Nat)) <;> left
theorem zn9 {n l:Nat}(h:l<n):Out (n+4) (n+2) (n+3) n (n+1) l:=by
 refine⟨?_,?_,?_,?_,?_⟩ <;> (show (_:Nat)≠(_:Nat)) <;> left
end
end Z3
namespace U3
open PySem PyProof.Rows
section
variable {prog:Program}{w:World}{A:Around}{E:Value->Shared->Prop}{s:Shared}
theorem zl7 {it l:Addr}{xs:Array Value}(hne:l≠it):∀ (n i:Nat)(s:Shared)(Q:List Value->Shared->Prop),s.heap.IsListIter it l i->s.heap.IsList l xs->i+n<=xs.size ->
  (∀ h',h'.IsListIter it l (i+n)->Heap.SameBut it s.heap h'->Q ((xs.toList.drop i).take n) { s with heap:=h' })->wpAny (model prog w) A (draw (.ref it) n) Q E s
 | 0,i,s,Q,hi,_,_,h=>by
  show wpAny _ _ (pure []) Q E s
  exact uah (by simpa using h s.heap hi (Heap.SameBut.refl ..))
 | n+1,i,s,Q,hi,hl,hle,h=>by
  have lt:i<xs.size:=by left
  show wpAny _ _ (pyNext (.ref it) >>= _) Q E s
  refine uab (wpAny_pyNext_list_item hi hl (x:=xs[i]) (by simp [lt]) λ g1 i1 e1=>?_)
  refine uab (ubd (zl7 hne n (i+1) _ _ i1 (hl.extBut e1.extBut hne) (by left) λ g2 i2 e2=>uah ?_))
  have hd:xs.toList.drop i=xs[i]::xs.toList.drop (i+1):=by simp [uep,lt]
  have q:=h g2 (by rw[show i+(n+1)=i+1+n by left];exact i2) (e1.trans e2)
  rw[hd,List.take_succ_cons] at q
  exact q
theorem zmi {l:Addr}{xs:Array Value}{targets:List (Bool × (Value->Sem Unit))}{Q:Unit->Shared->Prop}(hh:A.handled=none)(hl:s.heap.IsList l xs)
  (hn:targets.length=xs.size) (hs:targets.findIdx? (·.1)=none)
  (h:∀ h',Heap.ExtBut s.heap.objs.size s.heap h'->wpAny (model prog w) A (assignInOrder (targets.map (·.2)) xs.toList) Q E { s with heap:=h' }) :
  wpAny (model prog w) A (unpack (.ref l) targets) Q E s:=by
 have ne:l≠s.heap.objs.size:=by obtain⟨o,ho,_⟩:=hl;exact uas (Heap.lt_size ho)
 unfold unpack
 rw[hn,hs]
 refine uab (ubd ?_)
 unfold unpackItems
 refine uab ?_
 unfold notIterableAtAll
 refine uab (wpAny_specialOf hl.typeIs slot_list_iter.lookup ?_)
 refine uah ?_
 simp only [ub5,if_false]
 refine uab (ubd (uct hl ?_))
 refine uab (ubd (zl7 ne xs.size 0 _ _ ⟨_,Heap.get?_push_size _ rfl,rfl,rfl⟩ (hl.push _) (by left) λ g1 i1 e1=>?_))
 have all:List.take xs.size (List.drop 0 xs.toList)=xs.toList:=by
  rw[List.drop_zero];exact uc6 (by simp)
 rw[all,if_neg (by simp)]
 have l1:g1.IsList l xs:=(hl.push _).extBut e1.extBut ne
 refine uab (ubd (wpAny_pyNext_list_end hh i1 l1 (by simp) λ g2 e2=>?_))
 simp only [Option.isSome_none,ub5,if_false]
 exact uah (h g2 λ b o hb e=>e2 b o hb (e1.extBut b o hb (Heap.get?_push_of_some _ e)))
theorem assign_tuple_lst {env:Env}{elts:List Expr} {x1} {pos:Pos} {l:Addr} {xs:Array Value} {Q:Unit->Shared->Prop} (hh:A.handled=none) (hl:s.heap.IsList l xs)
  (hn:(assignEach elts env).length=xs.size) (hs:(assignEach elts env).findIdx? (·.1)=none)
  (h:∀ h',Heap.ExtBut s.heap.objs.size s.heap h'->wpAny (model prog w) A (assignInOrder ((assignEach elts env).map (·.2)) xs.toList) Q E { s with heap:=h' }) :
  wpAny (model prog w) A (assign (.Tuple elts x1 pos) env (.ref l)) Q E s:=by
 rw[assign_Tuple]
 exact uab (uek (zmi hh hl hn hs h))
end
end U3
namespace L3
open PySem PySem.Spec PyProof.Rows L2
abbrev Fls:Value->Shared->Prop:=λ _ _=>False
abbrev testsOf (ifs:List Expr)(env:Env):Sem Bool :=
 forIn ifs true λ c r=>if r=true then do let ok ← isTrue c env (eval c env);pure (ForInStep.yield ok) else pure (ForInStep.yield r)
section
variable {prog:Program}{w:World}{A:Around}{R:Result->Shared->Prop}{s:Shared}
theorem zmu {elt tg iter:Expr}{ifs:List Expr}{scope:Scope}{pos:Pos}{it acc:Value}{env:Env}(W:Nat->Shared->Prop)
  (step:∀ n s,W n s->wpAny (model prog w) A (pyNext it) (λ r s1=>(r=none/\R (.ok .next) s1)\/∃ v,r=some v /\
   wpAny (model prog w) A (letOwnedTupleGo tg it v) (λ _ s2=>wpAny (model prog w) A (assign tg env v) (λ _ s3 =>
    wpAny (model prog w) A (testsOf ifs env) (λ ok s4=>if ok=true then wpAny (model prog w) A (eval elt env) (λ x s5 =>
     wpAny (model prog w) A (call (.builtin "list.append") [acc,x]) (λ _ s6=>∃ m,m<n/\W m s6) Fls s5) Fls s4 else ∃ m,m<n/\W m s4) Fls s3) Fls s2) Fls s1) Fls s)
  (n:Nat) (h:W n s):codeAny (model prog w) A (.compLoop (.ListComp elt [⟨tg,iter,ifs,0⟩] scope pos) 0 it acc env) R s:=by
 refine codeAny_loop rfl W (λ k s1 hk=>?_) n h
 show wpAny _ A ((compTurn (.ListComp elt [⟨tg,iter,ifs,0⟩] scope pos) 0 it acc env).onRaise (λ x=>do noteFrame x env;theTreesLotGoes x)) _ _ s1
 refine wpAny_noted ?_
 rw[compTurn_list]
 refine uab (uek (uab (ucw (step k s1 hk) (λ r s2 h2=>?_) λ _ _ z=>z.elim)))
 rcases h2 with ⟨rfl,h2⟩ | ⟨v,rfl,h2⟩
 ·exact uah h2
 ·refine uab (ucw h2 (λ _ s3 h3=>?_) λ _ _ z=>z.elim)
  refine uab (ucw h3 (λ _ s4 h4=>?_) λ _ _ z=>z.elim)
  refine uab (ucw h4 (λ ok s5 h5=>?_) λ _ _ z=>z.elim)
  cases ok with
  | false=>exact uah ⟨rfl,h5⟩
  | true =>
   refine uab (uab (ucw h5 (λ x s6 h6=>?_) λ _ _ z=>z.elim))
   refine uab (ucw h6 (λ _ s7 h7=>?_) λ _ _ z=>z.elim)
   exact uah (uah ⟨rfl,h7⟩)
end
def clOf (cells:List (Str × Addr)):List (Str × NameKind)->List (Str × Addr)->List (Str × Addr)
 | [],cs=>cs
 | (n,k)::r,cs=>clOf cells r (if k=.free then (n,(cells.lookup n).getD 0)::cs else cs)
theorem zma {cells:List (Str × Addr)}:∀ {names:List (Str × NameKind)}{cs:List (Str × Addr)}{p:Str × Addr},p∈clOf cells names cs->p∈cs\/((p.1,NameKind.free)∈names/\p.2=(cells.lookup p.1).getD 0)
 | [],_,_,h=>.inl h
 | (n,k)::r,cs,p,h=>by
  rcases zma (names:=r) h with q | ⟨q1,q2⟩
  ·by_cases hk:k=.free
   ·rw[if_pos hk] at q
    rcases uam.mp q with e | q
    ·subst e;subst hk;exact .inr ⟨ual,rfl⟩
    ·exact .inl q
   ·rw[if_neg hk] at q;exact .inl q
  ·exact .inr ⟨uan _ q1,q2⟩
theorem zmb {cells:List (Str × Addr)}:∀ {names:List (Str × NameKind)}{cs:List (Str × Addr)}{x:Str},((x,NameKind.free)∈names\/∃ c,(x,c)∈cs)->∃ c,(x,c)∈clOf cells names cs
 | [],_,_,h=>h.elim (λ z=>nomatch z) id
 | (n,k)::r,cs,x,h=>by
  refine zmb (names:=r) ?_
  rcases h with h | ⟨c,h⟩
  ·rcases uam.mp h with e | h
   ·cases e
    exact .inr ⟨_,by rw[if_pos rfl];exact ual⟩
   ·exact .inl h
  ·refine .inr ⟨c,?_⟩
   split
   ·exact uan _ h
   ·exact h
theorem zd7 {env:Env}:∀ (names:List (Str × NameKind))(cs:List (Str × Addr)),(∀ y∈names,y.2=.free->∃ c,env.cells.lookup y.1=some c) ->
  (forIn names cs λ x r=>(match x with | (n,k)=>if (k==NameKind.free)=true then do let c ← cellOf env n;pure (ForInStep.yield ((n,c)::r)) else pure (ForInStep.yield r):Sem (ForInStep (List (Str × Addr)))))=pure (clOf env.cells names cs)
 | [],cs,_=>rfl
 | (n,k)::r,cs,h=>by
  rw[ugf]
  by_cases hk:k=.free
  ·subst hk
   obtain⟨c,hc⟩:=h (n,.free) ual rfl
   have e1:cellOf env n=pure c:=by unfold cellOf;rw[hc]
   have e2:clOf env.cells ((n,NameKind.free)::r) cs=clOf env.cells r ((n,c)::cs):=by
    show clOf env.cells r (if NameKind.free=NameKind.free then (n,(env.cells.lookup n).getD 0)::cs else cs)=_
    rw[if_pos rfl,hc]
    rfl
   rw[e2,← zd7 r ((n,c)::cs) λ y hy=>h y (uan _ hy)]
   simp only [beq_self_eq_true,if_true,e1,pure_bind]
  ·have e2:clOf env.cells ((n,k)::r) cs=clOf env.cells r cs:=by
    show clOf env.cells r (if k=NameKind.free then _ else cs)=_
    rw[if_neg hk]
   have hb:(k==NameKind.free)=false:=by simpa using hk
   rw[e2,← zd7 r cs λ y hy=>h y (uan _ hy)]
   simp only [hb,ub5,if_false,pure_bind]
theorem zm0 {scope:Scope}{env:Env}(h:∀ y∈scope.names,y.2=.free->∃ c,env.cells.lookup y.1=some c):closureFor scope env=pure (clOf env.cells scope.names []):=by
 have q:=zd7 (env:=env) scope.names [] h
 unfold closureFor
 refine Eq.trans ?_ q
 first | rfl | simp
theorem zcf {env:Env}:∀ {names:List (Str × NameKind)}{x:Str},names.lookup x=some .free ->
  (names.map λ (n,k)=>if (k==NameKind.free&&env.scope.kind==.function&&env.kindOf n==some .cell) then (n,NameKind.cell) else (n,k)).lookup x=some .cell \/
  (names.map λ (n,k)=>if (k==NameKind.free&&env.scope.kind==.function&&env.kindOf n==some .cell) then (n,NameKind.cell) else (n,k)).lookup x=some .free
 | [],_,h=>by simp at h
 | (n,k)::r,x,h=>by
  have ih:=@zcf env r x
  rw[ubg]
  by_cases hx:(x==n)=true
  ·rw[uco,hx] at h
   have h':k=.free:=by simpa using h
   subst h'
   dsimp only
   split
   ·apply uaw;rw[uco,hx]
   ·apply ufj;rw[uco,hx]
  ·have hx':(x==n)=false:=by simpa using hx
   rw[uco,hx'] at h
   dsimp only
   split
   ·rw[uco,hx'];exact ih h
   ·rw[uco,hx'];exact ih h
theorem zgs {env:Env}:∀ {names:List (Str × NameKind)}{x:Str},(∀ y∈names,y.2≠.cell) ->
  ((names.map λ (n,k)=>if (k==NameKind.free&&env.scope.kind==.function&&env.kindOf n==some .cell) then (n,NameKind.cell) else (n,k)).lookup x=some .cell \/
  (names.map λ (n,k)=>if (k==NameKind.free&&env.scope.kind==.function&&env.kindOf n==some .cell) then (n,NameKind.cell) else (n,k)).lookup x=some .free)->(x,NameKind.free)∈names
 | [],_,_,h=>by simp at h
 | (n,k)::r,x,hc,h=>by
  rw[ubg] at h
  by_cases hx:(x==n)=true
  ·have e:x=n:=by simpa using hx
   subst e
   dsimp only at h
   by_cases hk:(k==NameKind.free&&env.scope.kind==.function&&env.kindOf x==some .cell)=true
   ·rw[if_pos hk] at h
    have:k=.free:=by
     simp only [ucb] at hk
     simpa using hk.1.1
    subst this
    exact ual
   ·rw[if_neg hk,uco,hx] at h
    rcases h with h | h
    ·exact absurd (by simpa using h) (hc (x,k) ual)
    ·have:k=.free:=by simpa using h
     subst this
     exact ual
  ·have hx':(x==n)=false:=by simpa using hx
   refine uan _ (zgs (env:=env) (λ y hy=>hc y (uan _ hy)) ?_)
   dsimp only at h
   split at h
   ·rw[uco,hx'] at h;exact h
   ·rw[uco,hx'] at h;exact h
def compOk (N:List Str)(sc0 scope:Scope)(fr:List Str)(js:List Nat):Bool :=
 decide (scope.kind=.function)&&(scope.names.all λ y=>decide (y.2≠.cell)&&(decide (y.2≠.free)||decide (sc0.names.lookup y.1=some .cell)||decide (sc0.names.lookup y.1=some .free)) &&
  (decide (y.2≠.local)||decide (scope.names.lookup y.1=some .local)))&&decide (fr.length=js.length) &&
 ((fr.zip js).all λ p=>decide (N[p.2]?=some p.1)&&decide (scope.names.lookup p.1=some .free)&&(decide (sc0.names.lookup p.1=some .cell)||decide (sc0.names.lookup p.1=some .free)))
def cxComp (X:Cx)(own fr:List Str)(scope:Scope)(fp:List Addr)(pins:List (Addr × Obj))(s3:Shared)(H3:Hp):Cx :=
 { X with N:=own++fr,s₀:=s3,H₀:=H3,env:=compEnvC scope (clOf X.env.cells scope.names []) s3.heap.objs.size X.env,outer:=X.stack,stack:=X.stack,ex:=fp,fn:=λ _=>false,pn:=X.pn++pins,xe:=Fls }
def PTs (X:Cx)(ifs:List Expr)(t:TT):Prop :=
 ∀ (pins:List (Addr × Obj))(s:Shared)(σ:L2.St)(H:Hp)(Q:Bool->Hp->Prop),Inv X pins σ H s->t σ H Q->wpAny (model X.prog X.w) X.A (testsOf ifs X.env) (TP X pins σ Q) X.xe s
def tTrue:TT:=λ _ H Q=>Q true H
theorem zbe {X:Cx}:PTs X [] tTrue:=λ _ _ _ H _ I h=>wpAny_tests_nil ⟨H,I,h⟩
theorem zci {X:Cx}{c:Expr}{t:TT}(h:PT X c t):PTs X [c] t:=λ pins s σ H Q I q=>wpAny_tests_one (h pins s σ H Q I q)
def start3 (own:List Str)(js:List Nat)(σ:L2.St):L2.St:=ua0 own.length none++js.map λ j=>(σ[j]?).join
def CompGo (own:List Str)(js:List Nat)(g:TG)(tt:TT)(te:TE)(σ:L2.St)(Q:VK)(J:It)(H1:Hp):Prop:=∀ D,H1 D=none->∃ W:Nat->Nat->List V->L2.St->Hp->Prop,
 (∃ m,W 0 m [] (start3 own js σ) (upd H1 D (.lst [])))/\∀ i m ys σ' H',W i m ys σ' H'->H' D=some (.lst ys) ->
  (J.stop i H'/\Q (.ref D) H')\/(J.go i H'/\∀ x H2,J.yld i H' x H2->g x σ' H2 λ σ3 H3=>tt σ3 H3 λ b H4 =>
   if b=true then te σ3 H4 λ v H5=>H5 D=some (.lst ys)/\ys.length<sizeLine/\∃ m',m'<m/\W (i+1) m' (ys++[v]) σ3 (upd H5 D (.lst (ys++[v])))
   else H4 D=some (.lst ys)/\∃ m',m'<m/\W (i+1) m' ys σ3 H4)
def tComp (own:List Str)(js:List Nat)(wi:TI)(g:TG)(tt:TT)(te:TE):TE:=λ σ H Q=>wi σ H λ J H1=>CompGo own js g tt te σ Q J H1
section
variable {X:Cx}{elt tg iter:Expr}{ifs:List Expr}{scope sc0:Scope}{pos:Pos}{own fr N:List Str}{js:List Nat}{wi:TI}{g:TG}{tt:TT}{te:TE}
theorem zoy {σ:L2.St}{js:List Nat}{k:Nat}{v:V}(e:(js.map λ j=>(σ[j]?).join)[k]?=some (some v)):∃ j,js[k]?=some j/\σ[j]?=some (some v):=by
 rw[uaj] at e
 cases hj:js[k]? with
 | none=>rw[hj] at e;cases e
 | some j =>
  rw[hj] at e
  refine⟨j,rfl,?_⟩
  have e':(σ[j]?).join=some v:=by simpa using e
  cases hs:σ[j]? with
  | none=>rw[hs] at e';cases e'
  | some o=>rw[hs] at e';exact congrArg some e'
theorem zrf {pins:List (Addr × Obj)}{σ:L2.St}{H3:Hp}{s3:Shared}{fp:List Addr}{h4:Heap}{t4:Nat}{m4:Str->Option Value}
  (hN:X.N=N) (hsc:X.env.scope=sc0) (hok:compOk N sc0 scope fr js=true) (I:Inv X pins σ H3 s3) (hf:∀ b∈fp,FpOk X pins H3 b) (hlt:∀ b∈fp,b<s3.heap.objs.size)
  (k:∀ b o,s3.heap.get? b=some o->h4.get? b=some o) (hns:h4.Ns s3.heap.objs.size m4):Inv (cxComp X own fr scope fp pins s3 H3) [] (start3 own js σ) H3 { s3 with heap:=h4,toks:=t4 }:=by
 subst hN hsc
 unfold compOk at hok
 simp only [ucb,decide_eq_true_eq,uci] at hok
 obtain⟨⟨⟨hk,hall⟩,hlen⟩,hfr⟩:=hok
 have hfree:∀ y∈scope.names,y.2=.free->∃ c,X.env.cells.lookup y.1=some c:=λ y hy e=>by
  have q:=(hall y hy).1.2
  simp only [ue7,decide_eq_true_eq] at q
  rcases q with (q | q) | q
  ·exact absurd e q
  ·exact I.ok.has y.1 (.inl q)
  ·exact I.ok.has y.1 (.inr q)
 have hcl:∀ x c,(clOf X.env.cells scope.names []).lookup x=some c->X.env.cells.lookup x=some c:=λ x c e=>by
  rcases zma (uc0 e) with z | ⟨z1,z2⟩
  ·exact absurd z (by simp)
  ·obtain⟨c',hc'⟩:=hfree _ z1 rfl
   have hc'':X.env.cells.lookup x=some c':=hc'
   have z2':c=(X.env.cells.lookup x).getD 0:=z2
   rw[hc''] at z2' ⊢
   simp at z2'
   rw[z2']
 have hasC:∀ x,(x,NameKind.free)∈scope.names->∃ c,(clOf X.env.cells scope.names []).lookup x=some c:=λ x hx=>by
  obtain⟨c,hc⟩:=zmb (cells:=X.env.cells) (cs:=[]) (.inl hx)
  cases q:(clOf X.env.cells scope.names []).lookup x with
  | some c'=>exact⟨c',rfl⟩
  | none =>
   have:∀ (l:List (Str × Addr)),(x,c)∈l->l.lookup x≠none:=λ l=>by
    induction l with
    | nil=>intro z;cases z
    | cons p r ih =>
     intro z
     obtain⟨p1,p2⟩:=p
     rw[uco]
     rcases uam.mp z with z | z
     ·cases z
      simp
     ·split
      ·simp
      ·exact ih z
   exact absurd q (this _ hc)
 have hcell:∀ y∈scope.names,y.2≠.cell:=λ y hy=>(hall y hy).1.1
 have sz:X.base.objs.size<=s3.heap.objs.size:=ubt I.ok.bsz I.sz
 refine⟨⟨I.ok.mod,hk,I.ok.glob,I.ok.blt,uai _,λ x y c e1 e2=>I.ok.inj x y c (hcl x c e1) (hcl y c e2),λ x hx=>hasC x (zgs hcell hx),λ x c z=>absurd z (by simp [cxComp]),
  I.ok.hd,I.ok.frames,.inl rfl,λ b hb=>⟨uas (hlt b hb),λ x c e=>(hf b hb).2.2.2.2.1 x c (hcl x c e)⟩,I.bs,sz,λ b o e hb=>?_,λ b hb z=>?_,I.stack,I.stkFree⟩,
  rfl,I.bare,Un.kept k,⟨m4,hns,λ i x v e1 e2 e3=>?_⟩,λ x c e=>?_,I.hok.fresh (uai _),λ x c e=>I.freeC x c (hcl x c e),λ p hp=>?_,I.hok.kept k,?_⟩
 ·obtain⟨_,_,_,f3,_⟩:=hf b hb
  rcases f3 with f3 | f3
  ·exact I.ok.noex b o e f3
  ·exact absurd (ua4 (Heap.lt_size e) (ubt I.ok.bsz f3)) (ubs _)
 ·obtain⟨_,f1,f2,_⟩:=hf b hb
  rcases uam.mp (I.stkSub b z) with z | z
  ·exact f1 z
  ·exact f2 z
 ·have e2':(ua0 own.length (none:Option V)++js.map λ j=>(σ[j]?).join)[i]?=some (some v):=e2
  have e1':(own++fr)[i]?=some x:=e1
  by_cases hi:i<own.length
  ·rw[uch (by simpa using hi),ud2,if_pos hi] at e2'
   cases e2'
  ·rw[ubb (by simpa using hi),ubq] at e2'
   rw[ubb (by left)] at e1'
   obtain⟨j,hj,hv⟩:=zoy e2'
   have hz:(fr.zip js)[i-own.length]?=some (x,j):=by
    rw[List.getElem?_zip_eq_some]
    exact⟨e1',hj⟩
   have q:=hfr _ (ua2 hz)
   obtain⟨⟨q1,q2⟩,q3⟩:=q
   have q3'':X.env.scope.names.lookup x=some .cell\/X.env.scope.names.lookup x=some .free:=by simpa using q3
   have q3':X.env.kindOf x=some .cell\/X.env.kindOf x=some .free:=q3''
   obtain⟨m,hn,hl⟩:=I.loc
   obtain⟨u,r,l⟩:=hl j x v q1 hv (q3'.elim (λ z=>.inr (.inl z)) λ z=>.inr (.inr z))
   refine⟨u,r,.inr ⟨zcf q2,?_⟩⟩
   rcases l with ⟨z,_⟩ | ⟨_,c,hc,hcellv⟩
   ·rcases q3' with w | w <;> (rw[z] at w;cases w)
   ·obtain⟨c',hc'⟩:=hasC x (uc0 q2)
    have e:=hcl x c' hc'
    rw[hc] at e
    cases e
    obtain⟨o,ho,hd⟩:=hcellv
    exact⟨c,hc',o,k c o ho,hd⟩
 ·obtain⟨v,o,ho,hd⟩:=I.cell x c (hcl x c e)
  exact⟨v,o,k c o ho,hd⟩
 ·have hp':p∈X.pn++pins:=by
   have:p∈(X.pn++pins)++([]:List (Addr × Obj)):=hp
   simpa using this
  obtain⟨a,b,c,d,f⟩:=I.pin p hp'
  refine⟨k _ _ a,b,uas (Heap.lt_size a),λ z=>?_,f⟩
  rcases uam.mp (I.stkSub p.1 z) with z | z
  ·exact c z
  ·exact d z
 ·show (ua0 own.length (none:Option V)++js.map λ j=>(σ[j]?).join).length=(own++fr).length
  simp [hlen]
theorem zji {pins:List (Addr × Obj)}{s:Shared}{σ:L2.St}{H:Hp}{Q:VK}{use:Option (Value->Sem Unit)}{Qo:Value->Shared->Prop}{cpos:Pos}
  (hc:X.calm=true) (hi:PI X tg iter wi) (hg:∀ fp pins s3 H3,PG (cxComp X own fr scope fp pins s3 H3) tg g) (ht:∀ fp pins s3 H3,PTs (cxComp X own fr scope fp pins s3 H3) ifs tt)
  (he:∀ fp pins s3 H3,PE (cxComp X own fr scope fp pins s3 H3) elt te) (hok:compOk N sc0 scope fr js=true) (hN:X.N=N) (hsc:X.env.scope=sc0)
  (hs:∀ x,foldedSetIterable iter X.env x=pure x) (I:Inv X pins σ H s) (h:tComp own js wi g tt te σ H Q)
  (fin:∀ (C D:Addr)(s6:Shared)(H6:Hp)(m6:Str->Option Value),Inv X pins σ H6 s6->FpOk X pins H6 C->s6.heap.Ns C m6->Q (.ref D) H6->compPost (model X.prog X.w) X.A X.xe use Qo (.ref D) C (.ok .next) s6) :
  wpAny (model X.prog X.w) X.A (comprehension (.ListComp elt [⟨tg,iter,ifs,0⟩] scope pos) scope X.env cpos (newList []) false (eval iter X.env) use) Qo X.xe s:=by
 have hok':=hok
 unfold compOk at hok'
 simp only [ucb,decide_eq_true_eq,uci] at hok'
 obtain⟨⟨⟨hk,hall⟩,hlen⟩,hfr⟩:=hok'
 have hcell:∀ y∈scope.names,y.2≠.cell:=λ y hy=>(hall y hy).1.1
 have hloc:∀ y∈scope.names,y.2=.local->scope.names.lookup y.1=some .local:=λ y hy e=>by
  have q:=(hall y hy).2
  simp only [ue7,decide_eq_true_eq] at q
  rcases q with q | q
  ·exact absurd e q
  ·exact q
 have hfree:∀ y∈scope.names,y.2=.free->∃ c,X.env.cells.lookup y.1=some c:=λ y hy e=>by
  have q:=(hall y hy).1.2
  simp only [ue7,decide_eq_true_eq] at q
  rw[← hsc] at q
  rcases q with (q | q) | q
  ·exact absurd e q
  ·exact I.ok.has y.1 (.inl q)
  ·exact I.ok.has y.1 (.inr q)
 refine wpAny_comprehension_free (use:=use) rfl hs (zm0 hfree) hk hloc (thn (hi pins s σ H _ I h) λ v s1 h1=>thn h1 λ itv s2 h2=>?_)
 obtain⟨it,fp,tn,J,H2,e,I2,T,st2,f2,rd⟩:=h2
 subst e
 have hD2:H2 s2.heap.objs.size=none:=I2.fresh
 obtain⟨W,⟨m0,w0⟩,turn⟩:=rd s2.heap.objs.size hD2
  -- the new list
 refine uel ?_ (ube _)
 have I3:Inv X pins σ (upd H2 s2.heap.objs.size (.lst [])) { s2 with heap:=s2.heap.push { cls:=.type "list",data:=.seq ([]:List Value).toArray } }:=I2.lnew (t':=s2.toks) .nil (ube _)
 generalize hs3:({ s2 with heap:=s2.heap.push { cls:=.type "list",data:=.seq ([]:List Value).toArray } }:Shared)=s3 at I3
 generalize hD:s2.heap.objs.size=D at *
 have fpl:∀ b∈fp,b<D:=λ b hb=>by
  obtain⟨o,ho,_⟩:=T.obj _ _ st2 b hb
  rw[← hD];exact Heap.lt_size ho
 have k23:∀ b o,s2.heap.get? b=some o->s3.heap.get? b=some o:=λ b o e=>by rw[← hs3];exact Heap.get?_push_of_some _ e
 have hD3:s3.heap.objs.size=D+1:=by rw[← hs3,← hD];exact Heap.size_push ..
 have f3:∀ b∈fp,FpOk X pins (upd H2 D (.lst [])) b:=λ b hb=>by
  obtain⟨f0,f⟩:=f2 b hb
  exact⟨by rw[zan (uas (fpl b hb))];exact f0,f⟩
 refine wpAny_newFunctionEnv hcell (by intro y hy;simp at hy) (λ h4 hns4 hsb4=>?_) hk
 have k34:∀ b o,s3.heap.get? b=some o->h4.get? b=some o:=λ b o e=>hsb4.extBut b o (uas (Heap.lt_size e)) (Heap.get?_push_of_some _ e)
 have I4:=zrf (own:=own) (t4:=s3.toks+([]:List (Str × Value)).length) hN hsc hok I3 f3 (λ b hb=>ua4 (fpl b hb) (by rw[hD3];exact uc5 _)) k34 hns4
 have tn4:tn 0 h4:=T.keep 0 s2.heap h4 st2 λ b hb o e=>k34 b o (k23 b o e)
 have I4o:=I4.ok
 have fpS:∀ {H'':Hp},(∀ b∈fp,H'' b=none)->∀ b∈fp,FpOk (cxComp X own fr scope fp pins s3 (upd H2 D (.lst []))) [] H'' b:=λ hn b hb =>
  ⟨hn b hb,(I4o.exf b hb).1,I4o.exfs b hb,.inl hb,(I4o.exf b hb).2,λ p hp=>(f2 b hb).2.2.2.2.2 p (by
   have:p∈(X.pn++pins)++([]:List (Addr × Obj)):=hp
   simpa using this)⟩
 have loop : codeAny (model X.prog X.w) X.A (.compLoop (.ListComp elt [⟨tg, iter, ifs, 0⟩] scope pos) 0 (.ref it) (.ref D) (compEnvC scope (clOf X.env.cells scope.names []) s3.heap.objs.size X.env))
     (compPost (model X.prog X.w) X.A X.xe use Qo (.ref D) s3.heap.objs.size) { s3 with heap:=h4,toks:=s3.toks+([]:List (Str × Value)).length }:=by
  refine zmu (λ n s'=>∃ i ys σ' H',Inv (cxComp X own fr scope fp pins s3 (upd H2 D (.lst []))) [] σ' H' s'/\tn i s'.heap/\(∀ b∈fp,H' b=none)/\H' D=some (.lst ys)/\W i n ys σ' H')
   ?step m0 ⟨0,[],_,_,I4,tn4,λ b hb=>(f3 b hb).1,zai,w0⟩
  rintro n s5 ⟨i,ys,σ5,H5,I5,tn5,fr5,d5,w5⟩
  rcases turn i n ys σ5 H5 w5 d5 with ⟨stop,q⟩ | ⟨go,stp⟩
  ·refine thn (T.done (cxComp X own fr scope fp pins s3 (upd H2 D (.lst []))) rfl rfl rfl hc i [] s5 σ5 H5 Fls I5 (fpS fr5) tn5 stop) λ r s6 ⟨hr,I6⟩=>.inl ⟨hr,?_⟩
   obtain⟨m6,hn6,_⟩:=id I6.loc
   have u1:Un (frs X.stack) fp H2 H5 s2.heap s6.heap:=(Un.laid k23 (ufa hD) hD2).trans I6.base
   have fC:H5 s3.heap.objs.size=none:=I6.free
   have IX:Inv X pins σ H5 s6:=I2.call' (s':=s6) (ch:=fp) (by
    have:=I6.os
    rw[← hs3] at this
    exact this) u1 I6.hok I6.bare λ b hb=>by
     obtain⟨_,g1,_,g3,g4,g5⟩:=f2 b hb
     exact⟨g3,g1,g4,g5⟩
   exact fin s3.heap.objs.size D s6 H5 m6 IX (I2.fpOk (by rw[hD3,hD];exact uc5 _) fC) hn6 q
  ·refine thn (T.item (cxComp X own fr scope fp pins s3 (upd H2 D (.lst []))) rfl rfl rfl hc i [] s5 σ5 H5 Fls I5 (fpS fr5) tn5 go) λ r s6 ⟨u,hr,h6⟩=>.inr ⟨u,hr,thn h6 λ _ s7 ⟨x,H7,I7,r7,y7,tn7,fr7⟩=>?_⟩
   have I7':=I7.pinned (fpS fr7) (T.obj _ _ tn7)
   refine thn (hg fp pins s3 (upd H2 D (.lst [])) _ s7 σ5 H7 x u _ I7' r7 (stp x H7 y7)) λ _ s8 ⟨σ8,H8,I8,q8⟩=>?_
   refine thn (ht fp pins s3 (upd H2 D (.lst [])) _ s8 σ8 H8 _ I8 q8) λ ok s9 ⟨H9,I9,q9⟩=>?_
   have back:∀ {σ':L2.St}{H':Hp}{s':Shared},Inv (cxComp X own fr scope fp pins s3 (upd H2 D (.lst []))) ([]++pinsAt fp s7.heap) σ' H' s'->tn (i+1) s'.heap/\∀ b∈fp,H' b=none:=λ {σ' H' s'} J=>by
    refine⟨T.keep _ _ _ tn7 λ b hb o e=>(J.pin (b,o) (ua8 _ (ua8 _ (zcu hb e)))).1,λ b hb=>?_⟩
    obtain⟨o,e,_⟩:=T.obj _ _ tn7 b hb
    exact (J.pin (b,o) (ua8 _ (ua8 _ (zcu hb e)))).2.1
   cases ok with
   | false =>
    rw[if_neg uau] at q9
    obtain⟨d9,m',hm,w9⟩:=q9
    rw[if_neg uau]
    exact⟨m',hm,i+1,ys,σ8,H9,I9.unpinned,(back I9).1,(back I9).2,d9,w9⟩
   | true =>
    rw[if_pos rfl] at q9 ⊢
    refine thn (he fp pins s3 (upd H2 D (.lst [])) _ s9 σ8 H9 _ I9 q9) λ xv s10 ⟨v,H10,I10,r10,d10,len,m',hm,w10⟩=>?_
    refine thn (zdn (X:=cxComp X own fr scope fp pins s3 (upd H2 D (.lst []))) _ s10 σ8 H10 (.ref D) [v] (.ref D) [xv] (λ _ H'=>H'=upd H10 D (.lst (ys++[v]))) I10 rfl (.cons r10 .nil) ⟨D,ys,v,rfl,rfl,d10,len,rfl⟩) λ _ s11 ⟨_,H11,I11,_,e11⟩=>?_
    subst e11
    exact⟨m',hm,i+1,ys++[v],σ8,_,I11.unpinned,(back I11).1,(back I11).2,zai,w10⟩
 exact codeAny_compStart_list loop (T.self X.A 0 _ _ _ tn4 loop)
theorem za4 (hc:X.calm=true)(hi:PI X tg iter wi)(hg:∀ fp pins s3 H3,PG (cxComp X own fr scope fp pins s3 H3) tg g)(ht:∀ fp pins s3 H3,PTs (cxComp X own fr scope fp pins s3 H3) ifs tt)
  (he:∀ fp pins s3 H3,PE (cxComp X own fr scope fp pins s3 H3) elt te) (hok:compOk N sc0 scope fr js=true:=by symm) (hN:X.N=N:=by rfl) (hsc:X.env.scope=sc0:=by rfl)
  (hs:∀ x,foldedSetIterable iter X.env x=pure x:=by intro _;rfl):PE X (.ListComp elt [⟨tg,iter,ifs,0⟩] scope pos) (tComp own js wi g tt te):=by
 intro pins s σ H Q I h
 rw[eval_ListComp]
 refine zji hc hi hg ht he hok hN hsc hs I h λ C D s6 H6 m6 I6 f6 n6 q6=>⟨m6,n6,λ h7 sb=>⟨.ref D,H6,?_,rfl,q6⟩⟩
 obtain⟨f0,f1,_,f3,f4,f5⟩:=f6
 exact I6.turned (it:=C) (t':=s6.toks) (λ b o hb e=>sb.extBut b o hb e) f0 f1 f3 f4 f5
theorem zgo {i:Nat}{y:Str}{py spos:Pos}(hc:X.calm=true)(hi:PI X tg iter wi)(hg:∀ fp pins s3 H3,PG (cxComp X own fr scope fp pins s3 H3) tg g)(ht:∀ fp pins s3 H3,PTs (cxComp X own fr scope fp pins s3 H3) ifs tt)
  (he:∀ fp pins s3 H3,PE (cxComp X own fr scope fp pins s3 H3) elt te) (hNd:X.N.Nodup) (hy:X.N[i]?=some y) (hx:Loc X.env.scope y) (hok:compOk N sc0 scope fr js=true:=by symm) (hN:X.N=N:=by rfl) (hsc:X.env.scope=sc0:=by rfl)
  (hsw:swapsWith (.ListComp elt [⟨tg,iter,ifs,0⟩] scope pos) (some (.Name y py)) spos.line X.env=pure true:=by rfl) (hf:X.fn y=true\/X.env.scope.names.lookup y=some .local:=by first | exact .inl rfl | exact .inr rfl | assumption)
  (hs:∀ x,foldedSetIterable iter X.env x=pure x:=by intro _;rfl):PS X (.Assign [.Name y py] (.ListComp elt [⟨tg,iter,ifs,0⟩] scope pos) spos) (tAsg (tComp own js wi g tt te) (gName i)):=by
 intro pins s σ H D I h
 rw[exec_Assign_Name_used _ _ _ _ hsw]
 refine uab (uek (uab ?_))
 show wpAny _ _ (do let _ ← comprehension (.ListComp elt [⟨tg,iter,ifs,0⟩] scope pos) scope X.env _ (newList []) false (eval iter X.env) (some (assign (.Name y py) X.env))) _ _ s
 refine uab (ucw (zji (use:=some (assign (.Name y py) X.env)) (Qo:=λ _ s'=>SP X pins D .next s') hc hi hg ht he hok hN hsc hs I h λ C L s6 H6 m6 I6 f6 n6 q6=>?_) (λ _ s' q=>uah (uah q)) λ _ _ z=>z)
 obtain⟨f0,f1,f2,f3,f4,f5⟩:=f6
 show wpAny _ _ (assign (.Name y py) X.env (.ref L)) _ _ s6
 refine wpAny_assign_Name (zir I6 hNd hy hx (v:=.ref L) rfl (λ s7 I7 ⟨a,sb,ha⟩=>?_) hf)
 have ne:C≠a:=by
  rcases ha with e | e
  ·rw[e];exact f1
  ·exact λ z=>f4 y a e z.symm
 refine⟨m6,n6.sameBut sb ne,λ h8 sb8=>⟨σ.set i (some (.ref L)),H6,?_,q6⟩⟩
 exact I7.turned (it:=C) (t':=s7.toks) (λ b o hb e=>sb8.extBut b o hb e) f0 f1 f3 f4 f5
end
section
variable {X:Cx}{pins:List (Addr × Obj)}{σ:L2.St}{H H':Hp}{s:Shared}{h':Heap}{ch:List Addr}{t':Nat}
theorem turnsTo (I:Inv X pins σ H s)(hf:∀ b∈ch,FpOk X pins H b)(k:∀ b o,b∉ch->s.heap.get? b=some o->h'.get? b=some o)(hH:∀ b u,H b=some u->H' b=some u)
  (hfree:∀ b o,s.heap.get? b=some o->H b=none->H' b=none) (hok:HOk X.prog X.w H' h'):Inv X pins σ H' { s with heap:=h',toks:=t' }:=by
 refine I.step (g':=s.gens) (d':=s.drawn) (ch:=ch) (λ b hb=>?_) (λ b o _ _ hc e _=>k b o hc e) (λ b o _ _ hc e _=>⟨o.slots,k b o hc e⟩) (λ b o _ e n=>hfree b o e n) (λ b o hc e=>⟨o,k b o hc e⟩)
  (λ b xs e=>hH _ _ e) (λ b o u e=>hH _ _ e) (λ b ps e=>⟨#[],by rw[hH _ _ e];simp⟩) (λ m hm=>?_) hok I.bare
 ·obtain⟨_,f1,_,f3,f4,f5⟩:=hf b hb
  exact⟨f3,f1,f4,f5⟩
 ·obtain⟨o,es,ep,ho,r⟩:=hm
  exact⟨o,es,ep,k _ o (λ z=>(hf _ z).2.1 rfl) ho,r⟩
theorem turns (I:Inv X pins σ H s)(hf:∀ b∈ch,FpOk X pins H b)(k:∀ b o,b∉ch->s.heap.get? b=some o->h'.get? b=some o):Inv X pins σ H { s with heap:=h',toks:=t' }:=by
 refine turnsTo I hf k (λ _ _ e=>e) (λ _ _ _ n=>n) λ b u e=>?_
 refine (I.hok b u e).stay (λ c v hc q=>k c v (λ z=>?_) q) (λ _ q=>q) λ _ _ q=>q
 have n:=(hf c z).1
 rcases hc with rfl | hc
 ·rw[n] at e;cases e
 ·rw[n] at hc;cases hc
theorem turnsTup {xs:List V}{its:List Value}{T:Addr}(I:Inv X pins σ H s)(hf:∀ b∈ch,FpOk X pins H b)(k:∀ b o,b∉ch->s.heap.get? b=some o->h'.get? b=some o)(hT:s.heap.objs.size<=T)
  (hz:xs.length<=sizeLine) (hv:Vals xs its) (ht:TupN h' T its.toArray):Inv X pins σ (upd H T (.tup xs)) { s with heap:=h',toks:=t' }:=by
 have fr:H T=none:=I.hok.fresh hT
 have ne:∀ b u,H b=some u->b≠T:=λ b u e=>zak e fr
 refine turnsTo I hf k (λ b u e=>by rw[zan (ne b u e)];exact e) (λ b o e n=>by rw[zan (uas (ua4 (Heap.lt_size e) hT))];exact n) λ b u e=>?_
 by_cases hb:b=T
 ·subst hb
  rw[zai] at e
  cases e
  exact⟨hz,its,hv,ht⟩
 ·rw[zan hb] at e
  refine (I.hok b u e).stay (λ c v hc q=>k c v (λ z=>?_) q) (λ c q=>by rw[zan (ne c _ q)];exact q) λ c ys q=>by rw[zan (ne c _ q)];exact q
  have n:=(hf c z).1
  rcases hc with rfl | hc
  ·rw[n] at e;cases e
  ·rw[n] at hc;cases hc
end
def SqX (t:Bool)(K:uac)(H:Hp)(a:Addr)(xs:List V):Prop:=if t=true then SqT K H a xs else SqL K H a xs
section
variable {X:Cx}{pins:List (Addr × Obj)}{σ:L2.St}{H:Hp}{s:Shared}{a:Addr}{xs ys:List V}{t:Bool}
theorem seqX (I:Inv X pins σ H s)(h:SqX t X.K H a xs):∃ its:List Value,Vals xs its/\Z3.SqAt t s.heap a its.toArray/\xs.length<=sizeLine:=by
 cases t with
 | true=>obtain⟨its,r,p,z⟩:=I.tuple (show SqT X.K H a xs from h);exact⟨its,r,p,z⟩
 | false=>obtain⟨its,r,p,z⟩:=I.list (show SqL X.K H a xs from h);exact⟨its,r,p.isList,z⟩
theorem zg4 (I:Inv X pins σ H s)(h:SqX t X.K H a xs)(h':SqX t X.K H a ys):xs=ys:=by
 cases t with
 | true=>exact I.tuple_inj h h'
 | false=>exact I.list_inj h h'
end
def Itz (t1 t2:Bool)(K:uac)(l1 l2:Addr):It :=
 ⟨λ i H=>∃ xs ys x y,SqX t1 K H l1 xs/\SqX t2 K H l2 ys/\xs[i]?=some x/\ys[i]?=some y,
  λ i H v H'=>∃ T x y,H T=none/\v=.ref T/\H'=upd H T (.tup [x,y])/\(∀ xs,SqX t1 K H l1 xs->xs[i]?=some x)/\(∀ ys,SqX t2 K H l2 ys->ys[i]?=some y),
  λ i H=>∃ xs ys,SqX t1 K H l1 xs/\SqX t2 K H l2 ys/\(xs.length<=i\/ys.length<=i)⟩
theorem zqe {P:Program}{w:World}{K:uac}{elts:List Expr}{kk:Nat}{pos:Pos}{t1 t2:Bool}{z TI TO i1 i2 l1 l2:Addr}(D:Z3.Ap z TI TO i1 i2)(o1:Z3.Out z TI TO i1 i2 l1)(o2:Z3.Out z TI TO i1 i2 l2) :
  Turn P w K (.Tuple elts kk pos) (Itz t1 t2 K l1 l2) [z,TI,TO,i1,i2] z (λ i h=>Z3.Zd t1 t2 h z TI TO i1 i2 l1 l2 .none i) where
 mem:=by simp
 obj:=λ i h st b hb=>by
  obtain⟨q1,q2,⟨_,_,q3⟩,q4,q5⟩:=st
  obtain⟨o4,n4,e4,_,d4⟩:=q4.obj
  obtain⟨o5,n5,e5,_,d5⟩:=q5.obj
  simp only [uam,ua1,or_false] at hb
  rcases hb with rfl | rfl | rfl | rfl | rfl
  ·exact⟨_,q1,λ v q=>by cases q⟩
  ·exact⟨_,q2,λ v q=>by cases q⟩
  ·exact⟨_,q3,λ v q=>by cases q⟩
  ·exact⟨_,e4,λ v q=>by rw[d4] at q;cases q⟩
  ·exact⟨_,e5,λ v q=>by rw[d5] at q;cases q⟩
 keep:=λ i h h' st k=>by
  obtain⟨q1,q2,⟨a,b,q3⟩,q4,q5⟩:=st
  exact⟨k z (by simp) _ q1,k TI (by simp) _ q2,⟨a,b,k TO (by simp) _ q3⟩,q4.to λ o e=>k i1 (by simp) o e,q5.to λ o e=>k i2 (by simp) o e⟩
 item:=by
  intro X hP hw hK hc i pins s σ H E I hf st hg
  subst hP hw hK
  obtain⟨xs,ys,x,y,q1,q2,hx,hy⟩:=hg
  obtain⟨its1,r1,p1,z1⟩:=seqX I q1
  obtain⟨its2,r2,p2,z2⟩:=seqX I q2
  obtain⟨u1,hu1,ru1⟩:=r1.get hx
  obtain⟨u2,hu2,ru2⟩:=r2.get hy
  have hf4:∀ b∈[z,TO,i1,i2],FpOk X pins H b:=λ b hb=>hf b (by
   simp only [uam,ua1,or_false] at hb ⊢
   rcases hb with rfl | rfl | rfl | rfl <;> simp)
  refine Z3.zoj D o1 o2 st p1 p2 (x:=u1) (y:=u2) (by simpa using hu1) (by simpa using hu2) λ h' zd tp sz kp=>?_
  have I1 : Inv X pins σ (upd H s.heap.objs.size (.tup [x, y])) { s with heap := h', toks := s.toks } := turnsTup (ch := [z, TO, i1, i2]) (its := [u1, u2]) I hf4 (λ b o hb e => by
      simp only [uam,ua1,or_false,not_or] at hb
      exact kp b o hb.1 hb.2.1 hb.2.2.1 hb.2.2.2 e) (uai _) (by show 2<=sizeLine;rw[uc9];decide) (.cons ru1 (.cons ru2 .nil)) ⟨_,tp,rfl,⟨_,rfl⟩,rfl⟩
  have fr:H s.heap.objs.size=none:=I.fresh
  have zne:∀ b∈[z,TI,TO,i1,i2],b≠s.heap.objs.size:=λ b hb e=>by
   have key:∃ o,s.heap.get? b=some o:=by
    obtain⟨q1,q2,⟨_,_,q3⟩,q4,q5⟩:=st
    obtain⟨o4,n4,e4,_,d4⟩:=q4.obj
    obtain⟨o5,n5,e5,_,d5⟩:=q5.obj
    simp only [uam,ua1,or_false] at hb
    rcases hb with rfl | rfl | rfl | rfl | rfl
    ·exact⟨_,q1⟩
    ·exact⟨_,q2⟩
    ·exact⟨_,q3⟩
    ·exact⟨_,e4⟩
    ·exact⟨_,e5⟩
   obtain⟨o,ho⟩:=key
   exact absurd (Heap.lt_size ho) (by rw[e];exact ubs _)
  refine⟨_,rfl,wpAny_letOwnedTupleGo_zip zd.z λ h2 zd2 sb=>?_⟩
  obtain⟨f0,f1,f2,f3,f4,f5⟩:=hf z (by simp)
  have I2:Inv X pins σ (upd H s.heap.objs.size (.tup [x,y])) { s with heap:=h2,toks:=s.toks }:=Inv.turned (s:={ s with heap:=h',toks:=s.toks }) (it:=z) (t':=s.toks) I1 (λ b o hb e=>sb.extBut b o hb e) (by rw[zan (zne z (by simp))];exact f0) f1 f3 f4 f5
  refine⟨.ref s.heap.objs.size,_,I2,rfl,⟨_,x,y,fr,rfl,rfl,λ zs hz=>by rw[zg4 I hz q1];exact hx,λ zs hz=>by rw[zg4 I hz q2];exact hy⟩,?_,λ b hb=>by rw[zan (zne b hb)];exact (hf b hb).1⟩
  obtain⟨_,w2,⟨a3,b3,w3⟩,w4,w5⟩:=zd
  exact⟨zd2,sb.extBut _ _ D.n1 w2,⟨a3,b3,sb.extBut _ _ D.n2 w3⟩,w4.to λ o e=>sb.extBut _ _ D.n3 e,w5.to λ o e=>sb.extBut _ _ D.n4 e⟩
 done:=by
  intro X hP hw hK hc i pins s σ H E I hf st hg
  subst hP hw hK
  obtain⟨xs,ys,q1,q2,hx⟩:=hg
  obtain⟨its1,r1,p1,z1⟩:=seqX I q1
  obtain⟨its2,r2,p2,z2⟩:=seqX I q2
  have l1:=r1.length
  have l2:=r2.length
  have hf4:∀ b∈[z,TO,i1,i2],FpOk X pins H b:=λ b hb=>hf b (by
   simp only [uam,ua1,or_false] at hb ⊢
   rcases hb with rfl | rfl | rfl | rfl <;> simp)
  refine Z3.zoi (I.ok.hd hc) D o1 o2 st p1 p2 (hx.elim (λ q=>.inl (by simp;left)) λ q=>.inr (by simp;left)) λ h' kp=>⟨rfl,?_⟩
  exact turns (ch:=[z,TO,i1,i2]) (t':=s.toks) I hf4 λ b o hb e=>by
   simp only [uam,ua1,or_false,not_or] at hb
   exact kp b o hb.1 hb.2.1 hb.2.2.1 hb.2.2.2 e
 self:=λ _ _ _ _ _ st h=>wpAny_pyIter_zip st.z h
def iZip (t1 t2:Bool)(K:uac)(ta:TA):TI:=λ σ H R=>ta σ H λ vs H1=>∃ l1 l2,vs=[.ref l1,.ref l2]/\(∃ xs,SqX t1 K H1 l1 xs)/\(∃ ys,SqX t2 K H1 l2 ys)/\R (Itz t1 t2 K l1 l2) H1
theorem ziw {X:Cx}{elts:List Expr}{kk:Nat}{pos':Pos}(t1 t2:Bool){a b:Expr}{ta:TA}{p pos:Pos}(hg:Gl X "zip")(hm:X.mg "zip"=none)(ha:PA X [a,b] ta)
  (hs:starEach [a,b] X.env=[(false,eval a X.env),(false,eval b X.env)]:=by rfl) (hs2:starEach [b] X.env=[(false,eval b X.env)]:=by rfl) :
  PI X (.Tuple elts kk pos') (.Call (.Name "zip" p) [a,b] [] pos) (iZip t1 t2 X.K ta):=by
 intro pins s σ H R I h
 refine Call_ (zfb I hg hm boot_zip (udh (thn (ha pos pins s σ H _ I h) λ us s1 ⟨vs,H1,I1,r1,q1⟩=>?_) (by rw[hs,hs2]) (by rw[hs2];rfl)))
 obtain⟨l1,l2,e,⟨xs,qx⟩,⟨ys,qy⟩,q⟩:=q1
 subst e
 cases r1 with
 | cons r rr =>
  cases rr with
  | cons r' rr =>
   cases rr
   cases r
   cases r'
   obtain⟨its1,r1,p1,z1⟩:=seqX I1 qx
   obtain⟨its2,r2,p2,z2⟩:=seqX I1 qy
   have lt:∀ {t:Bool}{l:Addr}{xs:Array Value},Z3.SqAt t s1.heap l xs->l<s1.heap.objs.size:=λ {t l xs} q=>by
    cases t with
    | true=>obtain⟨o,e,_⟩:=(show s1.heap.IsTuple l xs from q);exact Heap.lt_size e
    | false=>obtain⟨o,e,_⟩:=(show s1.heap.IsList l xs from q);exact Heap.lt_size e
   refine Z3.zrz p1 p2 λ h' zd sz kp=>wpAny_pyIter_zip zd.z ?_
   have I2:Inv X pins σ H1 { s1 with heap:=h',toks:=s1.toks }:=I1.kept (t':=s1.toks) kp
   refine⟨s1.heap.objs.size+4,[s1.heap.objs.size+4,s1.heap.objs.size+2,s1.heap.objs.size+3,s1.heap.objs.size,s1.heap.objs.size+1],_,_,H1,rfl,I2,zqe (Z3.zu0 _) (Z3.zn9 (lt p1)) (Z3.zn9 (lt p2)),zd,λ b hb=>?_,q⟩
   have hb':s1.heap.objs.size<=b:=by
    simp only [uam,ua1,or_false] at hb
    rcases hb with rfl | rfl | rfl | rfl | rfl
    ·exact uee _ _
    ·exact uee _ _
    ·exact uee _ _
    ·exact uai _
    ·exact uee _ _
   exact I1.fpOk hb' (I1.hok.fresh hb')
section
variable {X:Cx}{pos:Pos}
inductive gLst_i (K:uac)(n:Nat)(t:TGs)(v:V)(σ:L2.St)(H:Hp)(Q:L2.St->Hp->Prop):Prop
 | mk:∀ a xs,(v=.ref a)->(SqL K H a xs)->(xs.length=n)->(t xs σ H Q)->gLst_i K n t v σ H Q
def gLst (K:uac)(n:Nat)(t:TGs):TG:=λ v σ H Q=>gLst_i K n t v σ H Q
theorem zt6 {es:List Expr}{k:Nat}{t:TGs}{n:Nat}(hc:X.calm=true)(h:PGs X es t)(hn:(assignEach es X.env).length=n:=by rfl)(hst:(assignEach es X.env).findIdx? (·.1)=none:=by rfl):PG X (.Tuple es k pos) (gLst X.K n t):=by
 intro pins s σ H v u Q I r hw
 obtain⟨a,xs,e1,hq,hl,hw⟩:=hw
 subst e1
 cases r
 obtain⟨its,rv,ht,hz⟩:=I.list hq
 refine U3.assign_tuple_lst (I.ok.hd hc) ht.isList (by simp [hn,← hl,rv.length]) hst λ h' hx=>?_
 have I1:Inv X pins σ H { s with heap:=h' }:=I.kept (t':=s.toks) λ b o e=>hx b o (uas (Heap.lt_size e)) e
 exact h pins _ σ H xs _ Q I1 (by simpa using rv) hw
theorem zqi {prog:Program}{w:World}{A:Around}{bs:List Bool}{its:List Value}(r:Vals (bs.map V.bl) its):TruthOf prog w A (λ i v=>its.toArray[i]?=some v) (λ i=>bs.getD i true):=by
 intro i v s Q E hP hq
 have hP':its[i]?=some v:=by simpa using hP
 have hl:=r.length
 have hi:i<its.length:=(uak.mp hP').1
 have hb:i<bs.length:=by rw[uae] at hl;left
 obtain⟨u,hu,ru⟩:=r.get (i:=i) (x:=V.bl bs[i]) (by rw[uaj,uad hb];rfl)
 rw[hP'] at hu
 cases hu
 have e:v=Value.bool bs[i]:=ru
 subst e
 have e2:bs.getD i true=bs[i]:=by simp [ude,hb]
 have hq':Q (bs.getD i true) s:=hq
 rw[e2] at hq'
 exact ub6 hq'
theorem zfs (bs:List Bool):((uaf bs.length).all λ i=>bs.getD i true)=bs.all id:=by
 rw[uc4,uci,uci]
 constructor
 ·intro h b hb
  obtain⟨i,hi,e⟩:=uc3 hb
  have:=h i (uaq.mpr hi)
  rw[← e]
  simpa [ude,hi] using this
 ·intro h i hi
  have hi':=uaq.mp hi
  have:=h bs[i] (udb hi')
  simpa [ude,hi'] using this
inductive call_all_i (K:uac)(xs:List V)(H:Hp)(Q:VK):Prop
 | mk:∀ (p:Addr)(bs:List Bool),(xs=[.ref p])->(SqL K H p (bs.map V.bl))->(Q (.bl (bs.all id)) H)->call_all_i K xs H Q
theorem zbv (hh:X.calm=true):CallR X (.builtin "all") (call_all_i X.K):=by
 intro pins s σ H xs us Q I r h
 obtain⟨p,bs,rfl,hq,q⟩:=h
 obtain⟨u,rfl,rx⟩:=vals1 r
 cases rx
 obtain⟨its,rv,pl,hz⟩:=I.list hq
 have hl:=rv.length
 have lt:p≠s.heap.objs.size:=by obtain⟨o,e,_⟩:=pl.isList;exact uas (Heap.lt_size e)
 refine call_all_walk (uct pl.isList ?_)
 have W:=Walks.list (prog:=X.prog) (w:=X.w) (A:=X.A.in1) (show X.A.in1.handled=none from I.ok.hd hh) s.heap.objs.size p lt its.toArray
 refine⟨s.heap.objs.size,_,_,_,_,_,_,rfl,W,⟨⟨_,Heap.get?_push_size _ rfl,rfl,rfl⟩,pl.isList.push _⟩,zqi rv,λ h' tk hk=>?_⟩
 refine⟨.bl (bs.all id),H,I.kept (t':=tk) λ b o e=>hk b o (λ z=>?_) (Heap.get?_push_of_some _ e),?_,q⟩
 ·have:b=s.heap.objs.size:=by simpa using z
  exact absurd (Heap.lt_size e) (by rw[this];exact ubs _)
 ·show Value.bool _=Value.bool _
  have e1:its.toArray.size=bs.length:=by rw[uap,← hl,uae]
  rw[e1,zfs]
inductive call_isi_i (K:uac)(n:String)(xs:List V)(H:Hp)(Q:VK):Prop
 | mk:∀ x t b,(xs=[x,.ty n])->(TyOf K H x t)->(PySem.W.kitOne K t (.type n)=some b)->(Q (.bl b) H)->call_isi_i K n xs H Q
theorem zcz {n:String}:CallR X (.builtin "isinstance") (call_isi_i X.K n):=by
 intro pins s σ H xs us Q I r h
 obtain⟨x,t,b,rfl,ty,e,q⟩:=h
 obtain⟨u,c,rfl,ru,rc⟩:=r.two
 cases rc
 exact zo0 I ru ty e λ tk=>⟨.bl b,H,I.tok tk,rfl,q⟩
variable {a b c d:Expr}{ta tb tc td:TE}
end
mutual
def Is (K:uac)(H:Hp):PyData->V->Prop
 | .none,v=>v=.non
 | .bool b,v=>v=.bl b
 | .int i,v=>v=.int i
 | .str x,v=>v=.str x
 | .tuple ds,v=>∃ p vs,v=.ref p/\H p=some (.tup vs)/\IsAll K H ds vs
 | .list ds,v=>∃ p vs,v=.ref p/\H p=some (.lst vs)/\IsAll K H ds vs
 | .dict kvs,v=>kvs=[]/\∃ p,v=.ref p/\H p=some (.dK [])
def IsAll (K:uac)(H:Hp):List PyData->List V->Prop
 | [],vs=>vs=[]
 | d::ds,vs=>∃ v r,vs=v::r/\Is K H d v/\IsAll K H ds r
end
section
variable {K:uac}{H H':Hp}
mutual
theorem Is.same (e:Same H H'):∀ (d:PyData){v:V},Is K H d v->Is K H' d v
 | .none,_,h=>h
 | .bool _,_,h=>h
 | .int _,_,h=>h
 | .str _,_,h=>h
 | .tuple ds,_,h=>let ⟨p,vs,q1,q2,q3⟩:=h;⟨p,vs,q1,e _ _ q2,IsAll.same e ds q3⟩
 | .list ds,_,h=>let ⟨p,vs,q1,q2,q3⟩:=h;⟨p,vs,q1,e _ _ q2,IsAll.same e ds q3⟩
 | .dict kvs,_,h=>let ⟨q0,p,q1,q2⟩:=h;⟨q0,p,q1,e _ _ q2⟩
theorem IsAll.same (e:Same H H'):∀ (ds:List PyData){vs:List V},IsAll K H ds vs->IsAll K H' ds vs
 | [],_,h=>h
 | d::ds,_,h=>let ⟨v,r,q1,q2,q3⟩:=h;⟨v,r,q1,Is.same e d q2,IsAll.same e ds q3⟩
end
theorem IsAll.length:∀ {ds:List PyData}{vs:List V},IsAll K H ds vs->vs.length=ds.length
 | [],_,h=>by rw[show _=[] from h];rfl
 | d::ds,_,⟨v,r,q1,q2,q3⟩=>by rw[q1,ucp,ucp,IsAll.length q3]
theorem IsAll.get:∀ {ds:List PyData}{vs:List V}{i:Nat}{d:PyData},IsAll K H ds vs->ds[i]?=some d->∃ v,vs[i]?=some v/\Is K H d v
 | [],_,_,_,_,e=>by simp at e
 | d::ds,_,0,d',⟨v,r,q1,q2,q3⟩,e=>by
  have e':d=d':=by simpa using e
  subst e';subst q1;exact⟨v,rfl,q2⟩
 | d::ds,_,i+1,_,⟨v,r,q1,q2,q3⟩,e=>by
  subst q1
  obtain⟨u,h1,h2⟩:=IsAll.get (i:=i) q3 (by simpa using e)
  exact⟨u,by simpa using h1,h2⟩
theorem IsAll.get':∀ {ds:List PyData}{vs:List V}{i:Nat}{v:V},IsAll K H ds vs->vs[i]?=some v->∃ d,ds[i]?=some d/\Is K H d v
 | [],_,i,v,h,e=>by rw[show _=[] from h] at e;simp at e
 | d::ds,_,0,v,⟨u,r,q1,q2,q3⟩,e=>by
  subst q1
  have e':u=v:=by simpa using e
  subst e';exact⟨d,rfl,q2⟩
 | d::ds,_,i+1,v,⟨u,r,q1,q2,q3⟩,e=>by
  subst q1
  obtain⟨d',h1,h2⟩:=IsAll.get' (i:=i) q3 (by simpa using e)
  exact⟨d',by simpa using h1,h2⟩
theorem IsAll.of:∀ {ds:List PyData}{vs:List V},vs.length=ds.length->(∀ (i:Nat)(d:PyData)(v:V),ds[i]?=some d->vs[i]?=some v->Is K H d v)->IsAll K H ds vs
 | [],[],_,_=>rfl
 | [],_::_,h,_=>by simp at h
 | _::_,[],h,_=>by simp at h
 | d::ds,v::vs,h,q=>⟨v,vs,rfl,q 0 d v rfl rfl,IsAll.of (by simpa using h) λ i d' v' h1 h2=>q (i+1) d' v' (by simpa using h1) (by simpa using h2)⟩
theorem IsAll.append:∀ {ds es:List PyData}{vs us:List V},IsAll K H ds vs->IsAll K H es us->IsAll K H (ds++es) (vs++us)
 | [],_,_,_,h,q=>by rw[show _=[] from h];exact q
 | d::ds,_,_,_,⟨v,r,q1,q2,q3⟩,q=>⟨v,r++_,by rw[q1];rfl,q2,IsAll.append q3 q⟩
theorem IsAll.ints (ns:List Int):IsAll K H (ns.map .int) (ns.map V.int):=by
 refine IsAll.of (by simp) λ i d v h1 h2=>?_
 rw[uaj] at h1 h2
 cases e:ns[i]? with
 | none=>rw[e] at h1;cases h1
 | some n=>rw[e] at h1 h2;cases h1;cases h2;exact rfl
theorem IsAll.of_ints:∀ {ns:List Int}{vs:List V},IsAll K H (ns.map .int) vs->vs=ns.map V.int
 | [],_,h=>h
 | n::ns,_,⟨v,r,q1,q2,q3⟩=>by
  have e:v=.int n:=q2
  rw[q1,e,IsAll.of_ints q3];rfl
end
section
variable {X:Cx}{pins:List (Addr × Obj)}{σ:L2.St}{H:Hp}{s:Shared}
mutual
theorem zb4 (I:Inv X pins σ H s):∀ (d:PyData){v:V}{u:Value},Is X.K H d v->RelV v u->∃ as,Reads s.heap u d as
 | .none,_,_,h,r=>by
  have e:_=V.non:=h
  subst e;cases r;exact⟨_,.none⟩
 | .bool b,_,_,h,r=>by
  have e:_=V.bl b:=h
  subst e;cases r;exact⟨_,.bool b⟩
 | .int i,_,_,h,r=>by
  have e:_=V.int i:=h
  subst e;obtain⟨t,rfl⟩:=r;exact⟨_,.int i t⟩
 | .str x,_,_,h,r=>by
  have e:_=V.str x:=h
  subst e;obtain⟨t,rfl⟩:=r;exact⟨_,.str x t⟩
 | .tuple ds,_,_,h,r=>by
  obtain⟨p,vs,rfl,q2,q3⟩:=(show ∃ p vs,_=V.ref p/\H p=some (.tup vs)/\IsAll X.K H ds vs from h)
  cases r
  obtain⟨its,rv,⟨o,e1,e2,n,e3⟩,_⟩:=I.tuple (SqT.of q2)
  obtain⟨as,ra⟩:=zc9 I ds q3 rv
  exact⟨_,.tuple e1 e2 e3 (by simpa using ra)⟩
 | .list ds,_,_,h,r=>by
  obtain⟨p,vs,rfl,q2,q3⟩:=(show ∃ p vs,_=V.ref p/\H p=some (.lst vs)/\IsAll X.K H ds vs from h)
  cases r
  obtain⟨its,rv,⟨o,n,e1,e2,_,e3⟩,_⟩:=I.list (SqL.of q2)
  obtain⟨as,ra⟩:=zc9 I ds q3 rv
  exact⟨_,.list e1 e2 e3 (by simpa using ra)⟩
 | .dict kvs,_,_,h,r=>by
  obtain⟨e0,p,rfl,q2⟩:=(show kvs=[]/\∃ p,_=V.ref p/\H p=some (.dK []) from h)
  subst e0
  cases r
  obtain⟨_,_,vs,kv,o,es,ep,g1,g2,g3,_,g4,_⟩:=(show ObjOk X.prog X.w H s.heap p (.dK []) from I.hok p _ q2)
  cases kv
  have e1:es.toList=[]:=by cases h:es.toList with
   | nil=>rfl
   | cons x r=>rw[h] at g4;cases g4
  exact⟨_,.dict g1 g2.1 g3 (by rw[e1];exact .nil) (by rw[e1];exact .nil)⟩
theorem zc9 (I:Inv X pins σ H s):∀ (ds:List PyData){vs:List V}{us:List Value},IsAll X.K H ds vs->Vals vs us->∃ as,ReadsAll s.heap us ds as
 | [],_,_,h,r=>by
  have e:_=[]:=h
  subst e;cases r;exact⟨_,.nil⟩
 | d::ds,_,_,h,r=>by
  obtain⟨v,vr,rfl,q2,q3⟩:=(show ∃ v r,_=v::r/\Is X.K H d v/\IsAll X.K H ds r from h)
  cases r with
  | cons r1 r2 =>
   obtain⟨as,a1⟩:=zb4 I d q2 r1
   obtain⟨bs,a2⟩:=zc9 I ds q3 r2
   exact⟨_,.cons a1 a2⟩
end
inductive op_eqD_i (K:uac)(uu:Nat)(x:V)(y:V)(H:Hp)(Q:VK):Prop
 | mk:∀ da db,(Is K H da x)->(Is K H db y)->(da.canLay0=true)->(db.canLay0=true)->(uu+min da.depth db.depth<cLine)->(Q (.bl (PyData.eqv da db)) H)->op_eqD_i K uu x y H Q
theorem zuc:OpR X (compareOp .Eq) (op_eqD_i X.K X.A.units):=by
 intro pins s σ H x y v u Q I rx ry h
 obtain⟨da,db,h1,h2,c1,c2,hu,q⟩:=h
 obtain⟨as,ra⟩:=zb4 I da h1 rx
 obtain⟨bs,rb⟩:=zb4 I db h2 ry
 exact SeqAt.compareEq_reads ra rb c1 c2 hu (za3 I q rfl)
inductive op_neD_i (K:uac)(uu:Nat)(x:V)(y:V)(H:Hp)(Q:VK):Prop
 | mk:∀ da db,(Is K H da x)->(Is K H db y)->(da.canLay0=true)->(db.canLay0=true)->(uu+min da.depth db.depth<cLine)->(Q (.bl (!PyData.eqv da db)) H)->op_neD_i K uu x y H Q
theorem zua:OpR X (compareOp .NotEq) (op_neD_i X.K X.A.units):=by
 intro pins s σ H x y v u Q I rx ry h
 obtain⟨da,db,h1,h2,c1,c2,hu,q⟩:=h
 obtain⟨as,ra⟩:=zb4 I da h1 rx
 obtain⟨bs,rb⟩:=zb4 I db h2 ry
 exact SeqAt.compareNe_reads ra rb c1 c2 hu (za3 I q rfl)
theorem zrk {ys:List V}{its:List Value}(r:Vals ys its){i:Nat}(hi:i<ys.length):RelV (ys.getD i .non) (its.getD i .none):=by
 have hl:=r.length
 obtain⟨u,hu,ru⟩:=r.get (i:=i) (x:=ys[i]) (uad hi)
 have e1:ys.getD i .non=ys[i]:=by simp [ude,hi]
 have e2:its.getD i .none=u:=by simp [ude,hu]
 rw[e1,e2];exact ru
theorem zej {ys:List V}{its:List Value}(r:Vals ys its):∀ (l:List Nat),(∀ i∈l,i<ys.length)->Vals (l.map λ i=>ys.getD i .non) (l.map λ i=>its.getD i Value.none)
 | [],_=>.nil
 | i::l,h=>.cons (zrk r (h i ual)) (zej r l λ j hj=>h j (uan _ hj))
theorem zgv {n:Nat}{p:Array Nat}(g:Srt.Gd n p):∀ i∈p.toList,i<n:=λ i hi=>by
 have:=g.mem_iff.mp (Array.mem_toList_iff.mp hi)
 simpa using this
theorem zky {α:Type}{n:Nat}{p:Array Nat}(g:Srt.Gd n p)(f:Nat->α):(p.toList.map f).Perm ((uaf n).map f):=by
 have h:=Array.perm_iff_toList_perm.mp g
 exact (by simpa using h:p.toList.Perm (uaf n)).map f
theorem zj8 {n:Nat}{p:Array Nat}{r:Nat->Int}{R:Nat->Nat->Prop}(g:Srt.Gd n p)(u:Srt.Up r p n)(h:∀ i j,i<n->j<n->r i<=r j->R i j):p.toList.Pairwise R:=by
 rw[ucg]
 intro i j hi hj hij
 have sz:=g.sz
 have hi':i<p.size:=by simpa using hi
 have hj':j<p.size:=by simpa using hj
 have q:=u i j (ue9 hij) (by left)
 have e:∀ k (hk:k<p.size),p.getD k 0=p[k]:=λ k hk=>by simp [ugv,hk]
 unfold Srt.ky at q
 rw[e i hi',e j hj'] at q
 have m:∀ k (hk:k<p.size),p[k]<n:=λ k hk=>zgv g _ (by simp)
 have:=h p[i] p[j] (m i hi') (m j hj') q
 simpa using this
theorem zba {α:Type}(l:List α)(d:α):(uaf l.length).map (λ i=>l.getD i d)=l:=by
 refine uez (by simp) λ i h1 h2=>?_
 simp [ude,h2]
inductive call_sortedI_i (K:uac)(xs:List V)(H:Hp)(Q:VK):Prop
 | mk:∀ p ns,(xs=[.ref p])->(SqL K H p (ns.map V.int))->(ns.length<64)->(∀ ms:List Int,ms.Perm ns->ms.Pairwise (·<=·)->∀ l,H l=none->Q (.ref l) (upd H l (.lst (ms.map V.int))))->call_sortedI_i K xs H Q
theorem zjl:CallR X (.builtin "sorted") (call_sortedI_i X.K):=by
 intro pins s σ H xs us Q I r h
 obtain⟨p,ns,rfl,hq,h64,q⟩:=h
 obtain⟨u,rfl,rx⟩:=vals1 r
 cases rx
 obtain⟨its,rv,pl,hz⟩:=I.list hq
 have hl:=rv.length
 rw[uae] at hl
 have hI:IntsAre its ns:=zbd rv
 have line:(64:Nat)<=sizeLine:=by rw[uc9];decide
 refine Srt.zis (r:=λ i=>ns.getD i 0) (κ:=oneType') pl.isList (by left) (λ h2 A' s' Q' _ q'=>Srt.zl3 hI h2 q') (λ A' s' i j C _ hi hj q'=>Srt.zo4 hI hi hj q') λ pp h' c g u kp e=>?_
 have g':Srt.Gd ns.length pp:=by rw[hl];exact g
 have u':Srt.Up (λ i=>ns.getD i 0) pp ns.length:=by rw[hl];exact u
 have pm:(pp.toList.map λ i=>ns.getD i 0).Perm ns:=by
  have:=zky g' λ i=>ns.getD i 0
  rw[zba] at this
  exact this
 have pw:(pp.toList.map λ i=>ns.getD i 0).Pairwise (·<=·):=by
  rw[udd]
  exact zj8 g' u' λ i j _ _ z=>z
 have fr:H (s.heap.objs.size+1)=none:=I.hok.fresh (uc5 _)
 have ev:((pp.toList.map λ i=>ns.getD i 0).map V.int)=pp.toList.map λ i=>(ns.map V.int).getD i .non:=by
  rw[uby]
  refine ueg λ i hi=>?_
  have:=zgv g' i hi
  simp [ude,this]
 refine⟨.ref (s.heap.objs.size+1),_,I.laid (a:=s.heap.objs.size+1) (o:=.lst ((pp.toList.map λ i=>ns.getD i 0).map V.int)) (t':=s.toks) kp (uc5 _) ⟨?_,Srt.outOf its pp,c,?_,e⟩,rfl,q _ pm pw _ fr⟩
 ·have:=pm.length_eq
  rw[uae,this];left
 ·rw[ev]
  exact zej rv pp.toList λ i hi=>by rw[uae];exact zgv g' i hi
inductive call_sortedT_i (K:uac)(xs:List V)(H:Hp)(Q:VK):Prop
 | mk:∀ p ys ks,(xs=[.ref p])->(SqL K H p ys)->(ys.length<64)->(Paired (λ (y:V) (k:List Int)=>∃ a,y=.ref a/\SqT K H a (k.map V.int)) ys ks)->((∀ k∈ks,k≠[]))->(∀ qs:List (V × List Int),qs.Perm (ys.zip ks)->qs.Pairwise (λ a b=>Srt.lexI b.2 a.2=false)->∀ l,H l=none->Q (.ref l) (upd H l (.lst (qs.map (·.1)))))->call_sortedT_i K xs H Q
theorem zjj:CallR X (.builtin "sorted") (call_sortedT_i X.K):=by
 intro pins s σ H xs us Q I r h
 obtain⟨p,ys,ks,rfl,hq,h64,hp,hne,q⟩:=h
 obtain⟨u,rfl,rx⟩:=vals1 r
 cases rx
 obtain⟨its,rv,pl,hz⟩:=I.list hq
 have hl:=rv.length
 have hlk:ys.length=ks.length:=Paired.length hp
 have line:(64:Nat)<=sizeLine:=by rw[uc9];decide
 have hT:∀ {ys:List V}{ks:List (List Int)}{its:List Value},Paired (λ (y:V) (k:List Int)=>∃ a,y=.ref a/\SqT X.K H a (k.map V.int)) ys ks->Vals ys its->Paired (Srt.TupI s.heap) its ks:=by
  intro ys ks its hp
  induction hp generalizing its with
  | nil=>intro rv;cases rv;exact .nil
  | cons r t ih =>
   intro rv
   cases rv with
   | cons r1 r2 =>
    refine .cons ?_ (ih r2)
    obtain⟨a,rfl,qa⟩:=r
    cases r1
    obtain⟨its',rv',⟨o,e1,e2,n,e3⟩,_⟩:=I.tuple qa
    exact⟨a,o,its'.toArray,n,rfl,e1,e2,e3,by simpa using zbd rv'⟩
 have tp:=hT hp rv
 have mono:∀ {h':Heap},(∀ b o,s.heap.get? b=some o->h'.get? b=some o)->Paired (Srt.TupI h') its ks:=λ k=>Paired.mapP tp λ v k' z=>z.to k
 refine Srt.zis (r:=Srt.rank its.length λ i j=>Srt.lexI (ks.getD i []) (ks.getD j [])) (κ:=tuples' true) pl.isList (by left) (λ h2 A' s' Q' k q'=>Srt.zqg (mono k) hne h2 q')
  (λ A' s' i j C k hi hj q'=>Srt.zsp (mono k) hi hj (by rw[Srt.znx (lt:=λ i j=>Srt.lexI (ks.getD i []) (ks.getD j [])) (λ i=>Srt.zhr _) (λ _ _ _ _ _ _=>Srt.zd1 _ _ _) (λ _ _ _ _ _ _=>Srt.zhq _ _ _) hi hj] at q';exact q')) λ pp h' c g u kp e=>?_
 have fr:H (s.heap.objs.size+1)=none:=I.hok.fresh (uc5 _)
 have pm:(pp.toList.map λ i=>(ys.getD i .non,ks.getD i [])).Perm (ys.zip ks):=by
  have h1:=zky g λ i=>(ys.getD i V.non,ks.getD i [])
  have e1:(uaf its.length).map (λ i=>(ys.getD i V.non,ks.getD i []))=ys.zip ks:=by
   refine uez (by simp;left) λ i h1 h2=>?_
   have hi:i<its.length:=by simpa using h1
   have a1:i<ys.length:=by left
   have a2:i<ks.length:=by left
   simp [ude,a1,a2]
  rw[e1] at h1
  exact h1
 have pw:(pp.toList.map λ i=>(ys.getD i V.non,ks.getD i [])).Pairwise (λ a b=>Srt.lexI b.2 a.2=false):=by
  rw[udd]
  refine zj8 g u λ i j hi hj z=>?_
  have w:=Srt.znx (n:=its.length) (lt:=λ i j=>Srt.lexI (ks.getD i []) (ks.getD j [])) (λ i=>Srt.zhr _) (λ _ _ _ _ _ _=>Srt.zd1 _ _ _) (λ _ _ _ _ _ _=>Srt.zhq _ _ _) hj hi
  rw[decide_eq_false (by left)] at w
  exact w.symm
 have ev:(pp.toList.map λ i=>(ys.getD i V.non,ks.getD i [])).map (·.1)=pp.toList.map λ i=>ys.getD i V.non:=by
  rw[uby];rfl
 refine⟨.ref (s.heap.objs.size+1),_,I.laid (a:=s.heap.objs.size+1) (o:=.lst ((pp.toList.map λ i=>(ys.getD i V.non,ks.getD i [])).map (·.1))) (t':=s.toks) kp (uc5 _) ⟨?_,Srt.outOf its pp,c,?_,e⟩,rfl,q _ pm pw _ fr⟩
 ·have:=pm.length_eq
  rw[uae,this,List.length_zip];left
 ·rw[ev]
  exact zej rv pp.toList λ i hi=>by have:=zgv g i hi;left
end
def Ok (P:Program)(w:World)(K:uac)(mg:Str->Option Value)(base:Heap)(k:Nat)(x:Str)(ps:List Str)(sp:Sp):Prop :=
 ∃ (f:Addr)(fd:FuncData),FnOk P w K mg base CX0 k f fd ps sp/\Binds K fd ps []/\ud8 K (.ref f)=true/\mg x=some (.ref f)
def DefOk (K:uac)(mg:Str->Option Value)(x:Str)(st:Stmt)(ps:List Str):Prop :=
 ∃ (f:Addr)(fd:FuncData),Fun K x x st f fd/\Binds K fd ps []/\mg x=some (.ref f)
section
variable {P:Program}{w:World}{K:uac}{mg:Str->Option Value}{base:Heap}{x:Str}{ps N:List Str}{sp sp':Sp}{k:Nat}{st:Stmt}
theorem Ok.mono {j:Nat}(O:Ok P w K mg base j x ps sp)(h:j<=k):Ok P w K mg base k x ps sp:=let ⟨f,fd,F,r⟩:=O;⟨f,fd,F.mono h,r⟩
theorem Ok.imp (O:Ok P w K mg base k x ps sp)(h:∀ vs H Q E,sp' vs H Q E->sp vs H Q E):Ok P w K mg base k x ps sp':=let ⟨f,fd,F,r⟩:=O;⟨f,fd,F.imp h,r⟩
theorem zug (D:DefOk K mg x st ps)(S:FnScope N ps (defScope st))(len:∀ vs H Q E,sp vs H Q E->vs.length=ps.length)
  (hbody:∀ (f:Addr)(cdv:Value)(A:Around)(outer:List Env)(s:Shared)(H:Hp)(vs:List V)(Q:VK)(E:XK),Room k (A.deeper (envOfC x (defScope st) s.heap.objs.size f cdv))->sp vs H Q E ->
   ∃ t,PSs (cxOf CX0 P w K mg base N x (defScope st) f cdv A outer s H E).nox (defBody st) t/\t { nx:=λ _ H'=>Q .non H',rt:=Q } (start N vs) H):Ok P w K mg base (k+1) x ps sp:=by
 obtain⟨f,fd,F,b,m⟩:=D
 exact⟨f,fd,F.ok S len (λ cdv A outer s H vs Q E hr h=>hbody f cdv A outer s H vs Q E hr h),b,F.kp,m⟩
theorem zad {X:Cx}{p pos:Pos}{e:Expr}{es:List Expr}{t:TA}(O:Ok X.prog X.w X.K X.mg X.base k x ps sp)(hr:Room k X.A)(hg:Gl X x)(ha:PA X (e::es) t)
  (hdb:(x==("__debug__":Str))=false:=by decide) (he:starEach (e::es) X.env=(false,eval e X.env)::starEach es X.env:=by rfl) (hpl:(backTo pos (starEach es X.env)).any (·.1)=false:=by rfl) :
  PE X (.Call (.Name x p) (e::es) [] pos) (tCall sp [] E0 t):=by
 obtain⟨f,fd,F,b,kp,m⟩:=O
 exact zta F hr hg m kp b .nil pass0 ha hdb he hpl
end
structure Bi (mg:Str->Option Value):Prop where
 z_len:mg "len"=none
 z_range:mg "range"=none
 z_zip:mg "zip"=none
 z_all:mg "all"=none
 z_sorted:mg "sorted"=none
 z_isinstance:mg "isinstance"=none
 z_min:mg "min"=none
 z_max:mg "max"=none
 z_tuple:mg "tuple"=none
 z_list:mg "list"=none
 z_int:mg "int"=none
 z_bool:mg "bool"=none
 z_str:mg "str"=none
 z_enumerate:mg "enumerate"=none
 z_sum:mg "sum"=none
 z_abs:mg "abs"=none
 z_set:mg "set"=none
 z_reversed:mg "reversed"=none
 z_any:mg "any"=none
 z_repr:mg "repr"=none
 z_dict:mg "dict"=none
def But (p:Addr)(H H':Hp):Prop:=∀ b o,b≠p->H b=some o->H' b=some o
section
variable {K:uac}{H H1 H2:Hp}{p a:Addr}{o:HO}{xs ys:List V}
theorem But.refl:But p H H:=λ _ _ _ h=>h
theorem But.trans (a:But p H H1)(b:But p H1 H2):But p H H2:=λ c o n h=>b c o n (a c o n h)
theorem But.upd:But p H (upd H p o):=λ b u n h=>by rw[zan n];exact h
theorem Same.but (h:Same H H1):But p H H1:=λ b o _ q=>h b o q
theorem But.new (h:H a=none):But p H (L2.upd H a o):=λ b u _ q=>by rw[zan (zak q h)];exact q
theorem zam (h:H a=none):Same H (upd H a o):=λ b u q=>by rw[zan (zak q h)];exact q
end
mutual
def tupD:PyData->Bool
 | .none | .bool _ | .int _ | .str _=>true
 | .tuple ds=>tupAll ds
 | .list _ | .dict _=>false
def tupAll:List PyData->Bool
 | []=>true
 | d::ds=>tupD d&&tupAll ds
end
mutual
theorem Is.but {K:uac}{H H':Hp}{p:Addr}{xs:List V}(e:But p H H')(hp:H p=some (.lst xs)):∀ (d:PyData){v:V},tupD d=true->Is K H d v->Is K H' d v
 | .none,_,_,h=>h
 | .bool _,_,_,h=>h
 | .int _,_,_,h=>h
 | .str _,_,_,h=>h
 | .tuple ds,_,t,h=>let ⟨q,vs,q1,q2,q3⟩:=h;⟨q,vs,q1,e _ _ (λ z=>by subst z;rw[hp] at q2;cases q2) q2,IsAll.but e hp ds t q3⟩
 | .list ds,_,t,h=>by cases t
 | .dict _,_,t,h=>by cases t
theorem IsAll.but {K:uac}{H H':Hp}{p:Addr}{xs:List V}(e:But p H H')(hp:H p=some (.lst xs)):∀ (ds:List PyData){vs:List V},tupAll ds=true->IsAll K H ds vs->IsAll K H' ds vs
 | [],_,_,h=>h
 | d::ds,_,t,h=>by
  have t':(tupD d&&tupAll ds)=true:=t
  rw[ucb] at t'
  obtain⟨v,r,q1,q2,q3⟩:=h
  exact⟨v,r,q1,Is.but e hp d t'.1 q2,IsAll.but e hp ds t'.2 q3⟩
end
def Pot (H:Hp)(p:Addr):Prop:=∃ a b:Int,H p=some (.lst [.int a,.int b])/\0<=a/\0<=b/\b<2147483647
theorem Pot.lst {H:Hp}{p:Addr}(h:Pot H p):∃ xs,H p=some (.lst xs):=let ⟨a,b,e,_⟩:=h;⟨_,e⟩
def spPot (K:uac):Sp:=λ vs H Q _=>∃ a k,∃ ns:List Int,vs=[.ref a,.int k]/\SqL K H a (ns.map V.int)/\0<=k/\k<=100/\∀ l H',Same H H'->H l=none->Pot H' l->Q (.ref l) H'
def spTake:Sp:=λ vs H Q _=>∃ p m,vs=[.ref p,.int m]/\Pot H p/\0<m/\m<1073741824/\∀ r H',0<=r->r<m->But p H H'->Pot H' p->Q (.int r) H'
def spLength:Sp:=λ vs H Q _=>∃ p y,vs=[.ref p,.int y]/\Pot H p/\0<=y/\y<5/\∀ r H',1<=r->r<=10^18->But p H H'->Pot H' p->Q (.int r) H'
def spTied:Sp:=λ vs H Q _=>∃ p n y a b,vs=[.ref p,.int n,.int y,.int a,.int b]/\Pot H p/\∀ k H',But p H H'->Pot H' p->Q (.bl k) H'
def spOrder:Sp:=λ vs H Q _=>∃ p m,vs=[.ref p,.int m]/\Pot H p/\0<=m/\m<=1000/\∀ l H' (ms:List Int),But p H H'->Pot H' p->H l=none->l≠p->H' l=some (.lst (ms.map V.int))->ms.Perm ((uaf m.toNat).map λ i:Nat=>(i:Int))->Q (.ref l) H'
abbrev Tie:=Int × Int × Int
def tieI (t:Tie):List Int:=[t.1,t.2.1,t.2.2]
def tieD (t:Tie):PyData:=.tuple ((tieI t).map .int)
def webD (n:Int)(ties:List Tie):PyData:=.tuple [.int n,.tuple (ties.map tieD)]
def endLt (s t:Tie):Prop:=s.1<t.1\/(s.1=t.1/\s.2.1<t.2.1)
structure WebOk (n:Int)(ties:List Tie):Prop where
 n1:1<=n
 n24:n<=24
 rise:ties.Pairwise endLt
 few:ties.length<=60
 tie:∀ t∈ties,0<=t.1/\t.1<t.2.1/\t.2.1<n/\1<=t.2.2/\t.2.2<=10^18
def spWeb (K:uac):Sp:=λ vs H Q _=>∃ p m,vs=[.ref p,.int m]/\Pot H p/\1<=m/\m<=24/\∀ v H' n ties,But p H H'->Pot H' p->WebOk n ties->n<=m->Is K H' (webD n ties) v->Q v H'
end L3
namespace L3
structure Grown (n:Nat)(ms:List Int)(b a:Nat)(ties:List Tie):Prop where
 few:ties.length<=60
 ok:∀ t∈ties,0<=t.1/\t.1<t.2.1/\t.2.1<(n:Int)/\1<=t.2.2/\t.2.2<=10^18
 of:∀ t∈ties,∃ a' b':Nat,a'<b'/\b'<n/\(b'<b\/(b'=b/\a'<a))/\((t.1=ms.getD a' 0/\t.2.1=ms.getD b' 0)\/(t.1=ms.getD b' 0/\t.2.1=ms.getD a' 0))
 nd:ties.Pairwise λ s t=>¬ (s.1=t.1/\s.2.1=t.2.1)
theorem Grown.start {n:Nat}{ms:List Int}:Grown n ms 0 0 []:=⟨ube _,(λ t h=>by cases h),(λ t h=>by cases h),ue3⟩
theorem Grown.down {n:Nat}{ms:List Int}{b:Nat}{ties:List Tie}(g:Grown n ms b b ties):Grown n ms (b+1) 0 ties :=
 ⟨g.few,g.ok,λ t h=>by
  obtain⟨a',b',h1,h2,h3,h4⟩:=g.of t h
  exact⟨a',b',h1,h2,.inl (by left),h4⟩,g.nd⟩
theorem Grown.skip {n:Nat}{ms:List Int}{b a:Nat}{ties:List Tie}(g:Grown n ms b a ties):Grown n ms b (a+1) ties :=
 ⟨g.few,g.ok,λ t h=>by
  obtain⟨a',b',h1,h2,h3,h4⟩:=g.of t h
  exact⟨a',b',h1,h2,by left,h4⟩,g.nd⟩
structure Perm0 (n:Nat)(ms:List Int):Prop where
 len:ms.length=n
 lo:∀ i,i<n->0<=ms.getD i 0/\ms.getD i 0<(n:Int)
 inj:∀ i j,i<n->j<n->ms.getD i 0=ms.getD j 0->i=j
theorem Perm0.of {n:Nat}{ms:List Int}(h:ms.Perm ((uaf n).map λ i:Nat=>(i:Int))):Perm0 n ms:=by
 have hl:ms.length=n:=by simpa using h.length_eq
 have nd:ms.Nodup:=(h.nodup_iff).mpr (by
  rw[ua7,udd]
  exact (uf2 (n:=n)).imp λ h z=>h (by left))
 refine⟨hl,λ i hi=>?_,λ i j hi hj e=>?_⟩
 ·have e:ms.getD i 0=ms[i]:=by simp [ude,show i<ms.length by left]
  have m:ms[i]'(by left)∈(uaf n).map λ i:Nat=>(i:Int):=h.mem_iff.mp (udb _)
  rw[e]
  obtain⟨k,hk,ek⟩:=ubx.mp m
  have:=uaq.mp hk
  left
 ·have e1:ms.getD i 0=ms[i]:=by simp [ude,show i<ms.length by left]
  have e2:ms.getD j 0=ms[j]:=by simp [ude,show j<ms.length by left]
  rw[e1,e2] at e
  exact (List.getElem_inj nd).mp e
theorem Grown.add {n:Nat}{ms:List Int}{b a:Nat}{ties:List Tie}{x y l:Int}(g:Grown n ms b a ties)(pm:Perm0 n ms)(ha:a<b)(hb:b<n)(hf:ties.length<60)(hl:1<=l)(hl2:l<=10^18)
  (hxy:(x=ms.getD a 0/\y=ms.getD b 0)\/(x=ms.getD b 0/\y=ms.getD a 0)) (hle:x<=y):Grown n ms b (a+1) (ties++[(x,y,l)]):=by
 have han:=ue8 ha hb
 have la:=pm.lo a han
 have lb:=pm.lo b hb
 have ne:ms.getD a 0≠ms.getD b 0:=λ e=>uas ha (pm.inj a b han hb e)
 refine⟨by rw[uar,uax];exact hf,λ t ht=>?_,λ t ht=>?_,?_⟩
 ·rcases ubp.mp ht with h | h
  ·exact g.ok t h
  ·have e:t=(x,y,l):=ua3.mp h
   subst e
   refine⟨?_,?_,?_,hl,hl2⟩
   ·show 0<=x
    rcases hxy with ⟨q1,q2⟩ | ⟨q1,q2⟩
    ·rw[q1];exact la.1
    ·rw[q1];exact lb.1
   ·show x<y
    refine Int.lt_iff_le_and_ne.mpr ⟨hle,λ z=>?_⟩
    rcases hxy with ⟨q1,q2⟩ | ⟨q1,q2⟩
    ·exact ne (q1.symm.trans (z.trans q2))
    ·exact ne (q2.symm.trans (z.symm.trans q1))
   ·show y<(n:Int)
    rcases hxy with ⟨q1,q2⟩ | ⟨q1,q2⟩
    ·rw[q2];exact lb.2
    ·rw[q2];exact la.2
 ·rcases ubp.mp ht with h | h
  ·obtain⟨a',b',h1,h2,h3,h4⟩:=g.of t h
   exact⟨a',b',h1,h2,h3.imp id λ z=>⟨z.1,ubz z.2⟩,h4⟩
  ·have e:t=(x,y,l):=ua3.mp h
   subst e
   exact⟨a,b,ha,hb,.inr ⟨rfl,ub2 _⟩,hxy⟩
 ·rw[ufd]
  refine⟨g.nd,ug2 _ _,λ t ht u hu=>?_⟩
  have e:u=(x,y,l):=ua3.mp hu
  subst e
  rintro ⟨e1,e2⟩
  obtain⟨a',b',h1,h2,h3,h4⟩:=g.of t ht
  have e1':t.1=x:=e1
  have e2':t.2.1=y:=e2
  have h1n:=ue8 h1 h2
  have fin:a'=a->b'=b->False:=λ ea eb=>h3.elim (λ z=>uas z eb) λ z=>uas z.2 ea
  have fin2:a'=b->b'=a->False:=λ ea eb=>Nat.lt_asymm ha (by rw[← ea,← eb];exact h1)
  rcases h4 with ⟨p1,p2⟩ | ⟨p1,p2⟩ <;> rcases hxy with ⟨q1,q2⟩ | ⟨q1,q2⟩
  ·exact fin (pm.inj a' a h1n han (p1.symm.trans (e1'.trans q1))) (pm.inj b' b h2 hb (p2.symm.trans (e2'.trans q2)))
  ·exact fin2 (pm.inj a' b h1n hb (p1.symm.trans (e1'.trans q1))) (pm.inj b' a h2 han (p2.symm.trans (e2'.trans q2)))
  ·exact fin2 (pm.inj a' b h1n hb (p2.symm.trans (e2'.trans q2))) (pm.inj b' a h2 han (p1.symm.trans (e1'.trans q1)))
  ·exact fin (pm.inj a' a h1n han (p2.symm.trans (e2'.trans q2))) (pm.inj b' b h2 hb (p1.symm.trans (e1'.trans q1)))
theorem zs2 {ts:List Tie}(h:ts.Pairwise λ a b=>Srt.lexI (tieI b) (tieI a)=false)(nd:ts.Pairwise λ s t=>¬ (s.1=t.1/\s.2.1=t.2.1)):ts.Pairwise endLt:=by
 refine (h.and nd).imp λ {a b} hab=>?_
 obtain⟨h1,h2⟩:=hab
 obtain⟨a1,a2,a3⟩:=a
 obtain⟨b1,b2,b3⟩:=b
 simp only [tieI,Srt.lexI] at h1
 show a1<b1\/(a1=b1/\a2<b2)
 have h2':¬ (a1=b1/\a2=b2):=h2
 by_cases e1:b1=a1
 ·rw[if_pos e1] at h1
  by_cases e2:b2=a2
  ·exact absurd ⟨e1.symm,e2.symm⟩ h2'
  ·rw[if_neg e2] at h1
   have:=of_decide_eq_false h1
   exact .inr ⟨e1.symm,by left⟩
 ·rw[if_neg e1] at h1
  have:=of_decide_eq_false h1
  exact .inl (by left)
end L3
namespace L3
open PySem PySem.Spec PyProof.Rows L2
section
variable {X:Cx}{pos:Pos}
inductive op_isnotB_i  (x:V) (y:V) (H:Hp) (Q:VK):Prop
 | mk:∀ i j,(x=.bl i)->(y=.bl j)->(Q (.bl (!(i==j))) H)->op_isnotB_i x y H Q
theorem zoe:OpR X (compareOp .IsNot) (op_isnotB_i):=by
 intro pins s σ H x y v u Q I rx ry h
 obtain⟨i,j,rfl,rfl,q⟩:=h
 cases rx
 cases ry
 exact isnot_bool (za3 I q rfl)
theorem zod:OpR X (binaryOp .Mult) (rI (λ i j=>IntMulOk i j) λ i j=>.int (i*j)):=opI λ _ _ _ _ _ _ _ hc q=>mul_int q hc
theorem mulB:IntMulOk ((10:Int)^(60:Int).toNat) ((10:Int)^(60:Int).toNat):=IntMulOk.of_bits (by symm) (by symm)
theorem mulB2:IntMulOk ((10:Int)^(60:Int).toNat*(10:Int)^(60:Int).toNat) ((10:Int)^(60:Int).toNat):=IntMulOk.of_bits (by symm) (by symm)
theorem posB:(0:Int)<(10:Int)^(60:Int).toNat*(10:Int)^(60:Int).toNat*(10:Int)^(60:Int).toNat:=by symm
inductive call_range_i  (xs:List V) (H:Hp) (Q:VK):Prop
 | mk:∀ (j:Int),(xs=[.int j])->(∀ p,H p=none->Q (.ref p) (upd H p (.rng 0 j)))->call_range_i xs H Q
theorem zd8:CallR X (.type "range") (call_range_i):=by
 intro pins s σ H xs us Q I r h
 obtain⟨j,rfl,q⟩:=h
 obtain⟨u,rfl,t,rfl⟩:=vals1 r
 refine call_range_1 ⟨.ref s.heap.objs.size,_,I.laid (a:=s.heap.objs.size) (o:=.rng 0 j) (λ b o e=>Heap.get?_push_of_some _ e) (uai _) ⟨_,_,_,Heap.get?_push_size _ rfl⟩,rfl,q _ I.fresh⟩
inductive call_list_rng_i  (xs:List V) (H:Hp) (Q:VK):Prop
 | mk:∀ (p:Addr)(j:Int),(xs=[.ref p])->(H p=some (.rng 0 j))->(0<=j)->(j<=1000)->(∀ l,H l=none->Q (.ref l) (upd H l (.lst ((uaf j.toNat).map λ i:Nat=>V.int (i:Int)))))->call_list_rng_i xs H Q
theorem zh8 (hh:X.calm=true):CallR X (.type "list") (call_list_rng_i):=by
 intro pins s σ H xs us Q I r h
 obtain⟨p,j,rfl,hp,hj0,hj,q⟩:=h
 obtain⟨u,rfl,rx⟩:=vals1 r
 cases rx
 obtain⟨t,u,v,e⟩:=(show ObjOk X.prog X.w H s.heap p (.rng 0 j) from I.hok p _ hp)
 refine call_list_range (n:=j.toNat) (I.ok.hd hh) (show IsRange s.heap p 0 j 1 t u v from e) (small_one (by left) (by left) (by left) (by left)) (by rw[rangeSize_one];split <;> left) (by left) λ h' tk acc c hk hS hacc=>?_
 refine⟨.ref s.heap.objs.size,_,I.laid (a:=s.heap.objs.size) (o:=.lst ((uaf j.toNat).map λ i:Nat=>V.int (i:Int))) (t':=tk) hk (uai _) ⟨?_,acc.toList,c,?_,by simpa using hS⟩,rfl,q _ I.fresh⟩
 ·rw[uae,uay,uc9];left
 ·have go:∀ (n:Nat)(l:List Value),l.length=n->(∀ (k:Nat)(v:Value),l[k]?=some v->∃ t,v=Value.int (0+(k:Int)*1) t)->Vals ((uaf n).map λ i:Nat=>V.int (i:Int)) l:=by
   intro n l hl hv
   have gen:∀ (l:List Value)(o:Nat),(∀ (k:Nat)(v:Value),l[k]?=some v->∃ t,v=Value.int ((o+k:Nat):Int) t)->Vals ((List.range' o l.length).map λ i:Nat=>V.int (i:Int)) l:=by
    intro l
    induction l with
    | nil=>intro o _;exact .nil
    | cons x r ih =>
     intro o h
     rw[ucp,List.range'_succ,ubg]
     obtain⟨t,ht⟩:=h 0 x rfl
     refine .cons ⟨t,by simpa using ht⟩ (ih (o+1) λ k v hk=>?_)
     obtain⟨t,ht⟩:=h (k+1) v (by simpa using hk)
     exact⟨t,by rw[ht];congr 1;left⟩
   have:=gen l 0 λ k v hk=>by
    obtain⟨t,ht⟩:=hv k v hk
    exact⟨t,by rw[ht];congr 1;left⟩
   rw[hl] at this
   rw[List.range_eq_range']
   exact this
  refine go _ _ (by simpa using hacc.1) λ k v hk=>hacc.2 k v (by simpa using hk)
end
theorem zgw {α:Type}:∀ (l:List α)(k:Nat)(h:k<l.length),(l[k]::l.eraseIdx k).Perm l
 | [],k,h=>absurd h (uej _)
 | a::l,0,_=>List.Perm.refl _
 | a::l,k+1,h=>by
  have h':k<l.length:=by simpa using h
  show (l[k]::a::l.eraseIdx k).Perm (a::l)
  exact (List.Perm.swap a l[k] _).trans ((zgw l k h').cons a)
theorem zi8 {α β:Type}(f:α->β):∀ (l:List α)(k:Nat),(l.eraseIdx k).map f=(l.map f).eraseIdx k
 | [],_=>rfl
 | _::_,0=>rfl
 | a::l,k+1=>by
  show f a::(l.eraseIdx k).map f=f a::(l.map f).eraseIdx k
  rw[zi8 f l k]
def TieL (H:Hp)(ys:List V)(ts:List Tie):Prop:=Paired (λ (y:V) (t:Tie)=>∃ a,y=.ref a/\H a=some (.tup ((tieI t).map V.int))) ys ts
theorem TieL.keep {H H':Hp}{ys:List V}{ts:List Tie}(h:TieL H ys ts)(k:∀ a xs,H a=some (.tup xs)->H' a=some (.tup xs)):TieL H' ys ts :=
 Paired.mapP h λ y t ⟨a,e1,e2⟩=>⟨a,e1,k _ _ e2⟩
theorem TieL.snoc {H:Hp}{ys:List V}{ts:List Tie}{a:Addr}{t:Tie}(h:TieL H ys ts)(e:H a=some (.tup ((tieI t).map V.int))):TieL H (ys++[.ref a]) (ts++[t]):=Paired.snoc h ⟨a,rfl,e⟩
theorem zgq {α β γ:Type}{F:β->γ->Prop}(f:α->β)(g:α->γ):∀ {l:List α},(∀ x∈l,F (f x) (g x))->Paired F (l.map f) (l.map g)
 | [],_=>.nil
 | x::l,h=>.cons (h x ual) (zgq f g λ y hy=>h y (uan _ hy))
theorem zgp {α β γ:Type}{F:α->β->Prop}{f:β->γ}:∀ {l:List α}{r:List β},Paired F l r->∀ q∈l.zip (r.map f),∃ b,q.2=f b/\F q.1 b
 | _,_,.nil,q,h=>by cases h
 | _,_,.cons (a:=a) (b:=b) x t,q,h=>by
  rw[ubg,uem] at h
  rcases uam.mp h with e | h
  ·subst e;exact⟨b,rfl,x⟩
  ·exact zgp t q h
theorem zey {F:V->Tie->Prop}{G:V->List Int->Prop}(h:∀ y t,F y t->G y (tieI t)):∀ {ys:List V}{ts:List Tie},Paired F ys ts->Paired G ys (ts.map tieI)
 | _,_,.nil=>.nil
 | _,_,.cons x t=>.cons (h _ _ x) (zey h t)
def tieOf:List Int->Tie
 | [a,b,c]=>(a,b,c)
 | _=>(0,0,0)
theorem zsv (t:Tie):tieOf (tieI t)=t:=rfl
theorem zst {H:Hp}{ys:List V}{ts:List Tie}(h:TieL H ys ts){qs:List (V × List Int)}(p:qs.Perm (ys.zip (ts.map tieI)))(w:qs.Pairwise λ a b=>Srt.lexI b.2 a.2=false) :
  ∃ ts':List Tie,ts'.Perm ts/\TieL H (qs.map (·.1)) ts'/\ts'.Pairwise λ a b=>Srt.lexI (tieI b) (tieI a)=false:=by
 have mem:∀ q∈qs,∃ t,q.2=tieI t/\∃ a,q.1=.ref a/\H a=some (.tup ((tieI t).map V.int)):=λ q hq=>zgp h q (p.mem_iff.mp hq)
 have back:∀ q∈qs,tieI (tieOf q.2)=q.2:=λ q hq=>by
  obtain⟨t,e,_⟩:=mem q hq
  rw[e];rfl
 refine⟨qs.map λ q=>tieOf q.2,?_,zgq _ _ λ q hq=>?_,?_⟩
 ·have e1:(qs.map λ q=>tieOf q.2).Perm ((ys.zip (ts.map tieI)).map λ q=>tieOf q.2):=p.map _
  have e2:(ys.zip (ts.map tieI)).map (λ q=>tieOf q.2)=ts:=by
   have l:ys.length=(ts.map tieI).length:=by rw[uae];exact Paired.length h
   have:(ys.zip (ts.map tieI)).map (λ q=>tieOf q.2)=((ys.zip (ts.map tieI)).map (·.2)).map tieOf:=by rw[uby];rfl
   rw[this,List.map_snd_zip (ufa l.symm),uby]
   exact (ueg λ t _=>zsv t).trans (List.map_id _)
  rw[e2] at e1
  exact e1
 ·obtain⟨t,e,a,ea,eh⟩:=mem q hq
  refine⟨a,ea,?_⟩
  rw[back q hq,e];exact eh
 ·rw[udd]
  refine w.imp_of_mem λ {a b} ha hb z=>?_
  rw[back a ha,back b hb];exact z
theorem TieL.is {K:uac}{H:Hp}:∀ {ys:List V}{ts:List Tie},TieL H ys ts->IsAll K H (ts.map tieD) ys
 | _,_,.nil=>rfl
 | _,_,.cons (a:=y) (b:=t) ⟨a,e1,e2⟩ r=>⟨_,_,rfl,⟨a,_,e1,e2,IsAll.ints _⟩,TieL.is r⟩
theorem zmj {x y:Int}{ms:List Int}(p:ms.Perm [x,y])(w:ms.Pairwise (·<=·)):∃ a b,ms=[a,b]/\a<=b/\((a=x/\b=y)\/(a=y/\b=x)):=by
 have hl:=p.length_eq
 match ms,hl,p,w with
 | [a,b],_,p,w =>
  refine⟨a,b,rfl,by simpa using w,?_⟩
  have ha:a∈[x,y]:=p.mem_iff.mp (by simp)
  rcases uam.mp ha with e | e
  ·subst e
   have:=(List.perm_cons a).mp p
   have e2:b=y:=by simpa using List.perm_singleton.mp this
   exact .inl ⟨rfl,e2⟩
  ·have e':a=y:=by simpa using e
   subst e'
   have p2:[a,b].Perm [a,x]:=p.trans (List.Perm.swap a x [])
   have:=(List.perm_cons a).mp p2
   have e2:b=x:=by simpa using List.perm_singleton.mp this
   exact .inr ⟨rfl,e2⟩
def TupKeep (H H':Hp):Prop:=∀ a xs,H a=some (.tup xs)->H' a=some (.tup xs)
section
variable {J:It}{g:TG}{te:TE}{own:List Str}{js:List Nat}{σ:L2.St}{H1:Hp}{Q:VK}
theorem zds (n:Nat)(Sg:L2.St->Prop)(R:Nat->V->Hp->Prop)(hn:n<=1000)(h0:Sg (start3 own js σ))(mono:∀ i v H H',TupKeep H H'->R i v H->R i v H')
  (go:∀ i H',i<n->Same H1 H'->J.go i H') (stop:∀ H',Same H1 H'->J.stop n H')
  (step:∀ i x σ' H' H2,i<n->Same H1 H'->J.yld i H' x H2->Sg σ'->∀ C:L2.St->V->Hp->Prop,(∀ σ3 v H5,Sg σ3->Same H' H5->R i v H5->C σ3 v H5)->g x σ' H2 λ σ3 H3=>te σ3 H3 λ v H5=>C σ3 v H5)
  (fin:∀ D ys H',H1 D=none->Same H1 H'->H' D=some (.lst ys)->ys.length=n->(∀ i v,ys[i]?=some v->R i v H')->Q (.ref D) H'):CompGo own js g tTrue te σ Q J H1:=by
 intro D hD
 refine⟨λ i m ys σ' H'=>m=n-i/\i<=n/\Sg σ'/\Same H1 H'/\ys.length=i/\∀ j v,ys[j]?=some v->R j v H',⟨n,rfl,ube _,h0,zam hD,rfl,λ j v e=>by simp at e⟩,?_⟩
 rintro i m ys σ' H' ⟨rfl,hi,sg,sm,hl,hr⟩ hd
 by_cases hlt:i<n
 ·refine .inr ⟨go i H' hlt sm,λ x H2 hy=>?_⟩
  refine step i x σ' H' H2 hlt sm hy sg (λ σ3 v H5=>H5 D=some (.lst ys)/\ys.length<sizeLine/\∃ m',m'<n-i/\(m'=n-(i+1)/\i+1<=n/\Sg σ3/\Same H1 (upd H5 D (.lst (ys++[v])))/\(ys++[v]).length=i+1/\∀ j u,(ys++[v])[j]?=some u->R j u (upd H5 D (.lst (ys++[v]))))) λ σ3 v H5 sg3 s5 r5=>?_
  have hd5:=s5 _ _ hd
  refine⟨hd5,ubr (by left:ys.length<=1000) (by decide),n-(i+1),by left,rfl,hlt,sg3,λ b o e=>?_,by rw[uar,uax,hl],λ j u e=>?_⟩
  ·rw[zan (zak e hD)];exact s5 _ _ (sm _ _ e)
  ·have tk5:TupKeep H5 (upd H5 D (.lst (ys++[v]))):=λ a xs e=>by rw[zan (λ z=>by rw[z,hd5] at e;cases e)];exact e
   by_cases hj:j<ys.length
   ·rw[uch hj] at e
    exact mono _ _ _ _ tk5 (mono _ _ _ _ (λ a xs z=>s5 _ _ z) (hr j u e))
   ·rw[ubb (by left)] at e
    have ej:j=ys.length:=by
     have:=(uak.mp e).1
     simp at this;left
    subst ej
    have eu:v=u:=by simpa using e
    subst eu
    rw[hl]
    exact mono _ _ _ _ tk5 r5
 ·have e:i=n:=by left
  subst e
  exact .inl ⟨stop H' sm,fin D ys H' hD sm hd hl hr⟩
theorem zcx {K:uac}{a:Addr}{xs:List V}(hx:H1 a=some (.tup xs))(Sg:L2.St->Prop)(R:Nat->V->Hp->Prop)(hn:xs.length<=1000)(h0:Sg (start3 own js σ))(mono:∀ i v H H',TupKeep H H'->R i v H->R i v H')
  (step:∀ i x σ' H',xs[i]?=some x->Same H1 H'->Sg σ'->∀ C:L2.St->V->Hp->Prop,(∀ σ3 v H5,Sg σ3->Same H' H5->R i v H5->C σ3 v H5)->g x σ' H' λ σ3 H3=>te σ3 H3 λ v H5=>C σ3 v H5)
  (fin:∀ D ys H',H1 D=none->Same H1 H'->H' D=some (.lst ys)->ys.length=xs.length->(∀ i v,ys[i]?=some v->R i v H')->Q (.ref D) H'):CompGo own js g tTrue te σ Q (Itt K a) H1:=by
 refine zds xs.length Sg R hn h0 mono (λ i H' hi s=>⟨xs,xs[i],SqT.of (s _ _ hx),by simp [hi]⟩) (λ H' s=>⟨xs,SqT.of (s _ _ hx),uai _⟩) (λ i x σ' H' H2 hi s hy sg C hC=>?_) fin
 obtain⟨rfl,hy⟩:=hy
 exact step i x σ' _ (hy xs (SqT.of (s _ _ hx))) s sg C hC
theorem zep {K:uac}{a:Addr}{xs:List V}(hx:H1 a=some (.lst xs))(Sg:L2.St->Prop)(R:Nat->V->Hp->Prop)(hn:xs.length<=1000)(h0:Sg (start3 own js σ))(mono:∀ i v H H',TupKeep H H'->R i v H->R i v H')
  (step:∀ i x σ' H',xs[i]?=some x->Same H1 H'->Sg σ'->∀ C:L2.St->V->Hp->Prop,(∀ σ3 v H5,Sg σ3->Same H' H5->R i v H5->C σ3 v H5)->g x σ' H' λ σ3 H3=>te σ3 H3 λ v H5=>C σ3 v H5)
  (fin:∀ D ys H',H1 D=none->Same H1 H'->H' D=some (.lst ys)->ys.length=xs.length->(∀ i v,ys[i]?=some v->R i v H')->Q (.ref D) H'):CompGo own js g tTrue te σ Q (Itl K a) H1:=by
 refine zds xs.length Sg R hn h0 mono (λ i H' hi s=>⟨xs,xs[i],SqL.of (s _ _ hx),by simp [hi]⟩) (λ H' s=>⟨xs,SqL.of (s _ _ hx),uai _⟩) (λ i x σ' H' H2 hi s hy sg C hC=>?_) fin
 obtain⟨rfl,hy⟩:=hy
 exact step i x σ' _ (hy xs (SqL.of (s _ _ hx))) s sg C hC
theorem SqX.of {t:Bool}{K:uac}{H:Hp}{a:Addr}{xs:List V}(h:H a=some (if t=true then .tup xs else .lst xs)):SqX t K H a xs:=by
 cases t with
 | true=>exact SqT.of h
 | false=>exact SqL.of h
theorem zdr {t1 t2:Bool}{K:uac}{a b:Addr}{xs zs:List V}(hx:H1 a=some (if t1=true then .tup xs else .lst xs))(hz:H1 b=some (if t2=true then .tup zs else .lst zs))(Sg:L2.St->Prop)(R:Nat->V->Hp->Prop)(hn:xs.length<=1000)
  (h0:Sg (start3 own js σ)) (mono:∀ i v H H',TupKeep H H'->R i v H->R i v H')
  (step:∀ i x z T σ' H',xs[i]?=some x->zs[i]?=some z->Same H1 H'->H' T=none->Sg σ'->∀ C:L2.St->V->Hp->Prop,(∀ σ3 v H5,Sg σ3->Same H' H5->R i v H5->C σ3 v H5)->g (.ref T) σ' (upd H' T (.tup [x,z])) λ σ3 H3=>te σ3 H3 λ v H5=>C σ3 v H5)
  (fin:∀ D ys H',H1 D=none->Same H1 H'->H' D=some (.lst ys)->ys.length=min xs.length zs.length->(∀ i v,ys[i]?=some v->R i v H')->Q (.ref D) H'):CompGo own js g tTrue te σ Q (Itz t1 t2 K a b) H1:=by
 have s1:∀ H',Same H1 H'->SqX t1 K H' a xs:=λ H' s=>SqX.of (s _ _ hx)
 have s2:∀ H',Same H1 H'->SqX t2 K H' b zs:=λ H' s=>SqX.of (s _ _ hz)
 refine zds (min xs.length zs.length) Sg R (by left) h0 mono (λ i H' hi s=>⟨xs,zs,xs[i]'(by left),zs[i]'(by left),s1 H' s,s2 H' s,by simp [show i<xs.length by left],by simp [show i<zs.length by left]⟩)
  (λ H' s=>⟨xs,zs,s1 H' s,s2 H' s,by left⟩) (λ i x σ' H' H2 hi s hy sg C hC=>?_) fin
 obtain⟨T,x1,z1,hT,rfl,rfl,e1,e2⟩:=hy
 exact step i x1 z1 T σ' H' (e1 _ (s1 H' s)) (e2 _ (s2 H' s)) s hT sg C hC
end
theorem zbw {f:Nat->Bool}{n:Nat}{ys:List V}(hl:ys.length=n)(h:∀ (i:Nat) (v:V),ys[i]?=some v->v=V.bl (f i)):ys=((uaf n).map f).map V.bl:=by
 refine ucc λ i=>?_
 by_cases hi:i<n
 ·obtain⟨v,hv⟩:∃ v,ys[i]?=some v:=⟨ys[i],uad (by left)⟩
  rw[hv,h i v hv]
  simp [hi]
 ·rw[uat (by left),uat (by simp;left)]
def tyD:PyData->String
 | .none=>"NoneType"
 | .bool _=>"bool"
 | .int _=>"int"
 | .str _=>"str"
 | .tuple _=>"tuple"
 | .list _=>"list"
 | .dict _=>"dict"
theorem zu2 {K:uac}{H:Hp}:∀ {d:PyData}{v:V},Is K H d v->TyOf K H v (.type (tyD d))
 | .none,_,h=>by rw[show _=V.non from h];exact .non
 | .bool b,_,h=>by rw[show _=V.bl b from h];exact .bl b
 | .int i,_,h=>by rw[show _=V.int i from h];exact .int i
 | .str x,_,h=>by rw[show _=V.str x from h];exact .str x
 | .tuple _,_,⟨p,vs,e,h,_⟩=>by rw[e];exact .tup h
 | .list _,_,⟨p,vs,e,h,_⟩=>by rw[e];exact .lst h
 | .dict _,_,⟨_,p,e,h⟩=>by rw[e];exact .dK h
def wholeB:PyData->Bool
 | .int _=>true
 | _=>false
def tieB (n:Int):PyData->Bool
 | .tuple [.int a,.int b,.int l]=>decide (0<=a)&&decide (a<b)&&decide (b<n)&&decide (1<=l)&&decide (l<=10^18)
 | _=>false
def few:PyData->Prop
 | .tuple ds=>ds.length<=1000
 | .list ds=>ds.length<=1000
 | _=>True
def spD1 (K:uac)(pre:PyData->Prop)(f:PyData->Bool):Sp:=λ vs H Q _=>∃ d v,vs=[v]/\Is K H d v/\pre d/\∀ H',Same H H'->Q (.bl (f d)) H'
section
variable {g:TG}{te:TE}{own:List Str}{js:List Nat}{σ:L2.St}{H1:Hp}{Q:VK}
end
def e2 (e:Int × Int):List Int:=[e.1,e.2]
def risingB (es:List (Int × Int)):Bool:=((uaf (min es.length (es.drop 1).length)).map λ i=>HT.lexLt (e2 (es.getD i (0,0))) (e2 ((es.drop 1).getD i (0,0)))).all id
def TwoL (H:Hp)(ys:List V)(es:List (Int × Int)):Prop:=Paired (λ (y:V) (e:Int × Int)=>∃ a,y=.ref a/\H a=some (.tup [.int e.1,.int e.2])) ys es
theorem TwoL.get {H:Hp}:∀ {ys:List V}{es:List (Int × Int)}{i:Nat}{y:V},TwoL H ys es->ys[i]?=some y->∃ a,y=.ref a/\H a=some (.tup ((e2 (es.getD i (0,0))).map V.int))
 | _,_,_,_,.nil,h=>by simp at h
 | _,_,0,y,.cons (a:=y0) r t,h=>by
  have e:y0=y:=by simpa using h
  subst e
  exact r
 | _,_,i+1,_,.cons r t,h=>TwoL.get (i:=i) t (by simpa using h)
theorem cut1 (ys:List V):cutV ys (some 1) none=ys.drop 1:=by
 unfold cutV
 have e1:HT.sIx ys.length ys.length none=ys.length:=rfl
 have e2:HT.sIx ys.length 0 (some 1)=min 1 ys.length:=by
  unfold HT.sIx
  simp
 rw[e1,e2]
 by_cases h:ys.length=0
 ·have:ys=[]:=uf4 h
  subst this;rfl
 ·have:min 1 ys.length=1:=by left
  rw[this]
  exact uc6 (by simp)
section
variable {g:TG}{te:TE}{own:List Str}{js:List Nat}{σ:L2.St}{H1:Hp}{Q:VK}
end
theorem TieL.get {H:Hp}{ys:List V}{us:List Tie}{i:Nat}{x:V}(h:TieL H ys us)(e:ys[i]?=some x):∃ a,x=.ref a/\H a=some (.tup ((tieI (us.getD i (0,0,0))).map V.int)):=by
 induction h generalizing i with
 | nil=>simp at e
 | @cons y0 _ _ _ r t ih =>
  cases i with
  | zero =>
   have e':y0=x:=by simpa using e
   rw[← e'];exact r
  | succ i=>exact ih (i:=i) (by simpa using e)
section
variable {X:Cx}{own fr:List Str}{scope:Scope}{fp:List Addr}{pins:List (Addr × Obj)}{s3:Shared}{H3:Hp}{pos:Pos}
theorem zca {es:List Expr}{k:Nat}{t:TGs}{n:Nat}(hc:X.calm=true)(h:PGs (cxComp X own fr scope fp pins s3 H3) es t)
  (hn:(assignEach es (cxComp X own fr scope fp pins s3 H3).env).length=n:=by rfl) (hst:(assignEach es (cxComp X own fr scope fp pins s3 H3).env).findIdx? (·.1)=none:=by rfl):PG (cxComp X own fr scope fp pins s3 H3) (.Tuple es k pos) (gTup X.K n t) :=
 zbp (X:=cxComp X own fr scope fp pins s3 H3) hc h hn hst
theorem zb9:IxR (cxComp X own fr scope fp pins s3 H3) (rIxL X.K):=zay (X:=cxComp X own fr scope fp pins s3 H3)
theorem zhu:IxR (cxComp X own fr scope fp pins s3 H3) (rIxT X.K):=zav (X:=cxComp X own fr scope fp pins s3 H3)
theorem zgr:OpR (cxComp X own fr scope fp pins s3 H3) (compareOp .In) (rIn X.K false):=ziy (X:=cxComp X own fr scope fp pins s3 H3)
theorem zdm:OpR (cxComp X own fr scope fp pins s3 H3) (compareOp .NotIn) (rIn X.K true):=zeb (X:=cxComp X own fr scope fp pins s3 H3)
end
def KeepOk (m:Nat)(ks:List Nat):Prop:=ks.Pairwise (·<·)/\∀ k∈ks,k<m
def keepI (ks:List Nat):List Int:=ks.map λ k:Nat=>(k:Int)
def keepD (ks:List Nat):PyData:=.tuple ((keepI ks).map .int)
theorem KeepOk.len {m:Nat}{ks:List Nat}(h:KeepOk m ks):ks.length<=m:=by
 have go:∀ (ks:List Nat)(lo m:Nat),ks.Pairwise (·<·)->(∀ k∈ks,lo<=k/\k<m)->ks.length+lo<=max m lo:=by
  intro ks
  induction ks with
  | nil=>intro lo m _ _;simp;left
  | cons k r ih =>
   intro lo m hp hb
   have h1:=hb k ual
   have:=ih (k+1) m (ud1.mp hp).2 λ j hj=>⟨(ud1.mp hp).1 j hj,(hb j (uan _ hj)).2⟩
   rw[ucp]
   left
 have:=go ks 0 m h.1 λ k hk=>⟨ube _,h.2 k hk⟩
 left
theorem zaz {K:uac}{H:Hp}{n:Int}{ts:List Tie}{v:V}(h:Is K H (webD n ts) v):∃ (p g:Addr)(ws:List V),v=.ref p/\H p=some (.tup [.int n,.ref g])/\H g=some (.tup ws)/\IsAll K H (ts.map tieD) ws/\ws.length=ts.length:=by
 obtain⟨p,vs,rfl,hp,v1,r1,rfl,e1,v2,r2,rfl,⟨g,ws,rfl,hg,hall⟩,e3⟩:=h
 have e1':v1=.int n:=e1
 have e3':r2=[]:=e3
 subst e1' e3'
 exact⟨p,g,ws,rfl,hp,hg,hall,by have:=hall.length;rw[uae] at this;exact this⟩
end L3
namespace Z3
open PySem
section
variable {prog:Program}{w:World}{A:Around}{E:Value->Shared->Prop}{s:Shared}
theorem zrq (t:Bool)(l:Addr)(xs:Array Value) :
  Meets (Builtin.«enumerate.__new__» ⟨[.type "enumerate",.ref l],[]⟩) (λ _ R s=>SqAt t s.heap l xs /\
   R (.ok (.ret (.ref (s.heap.push (itObj t l)).objs.size))) { s with heap:=(s.heap.push (itObj t l)).push { cls:=.type "enumerate",data:=.fields #[.none,.bool false,.ref s.heap.objs.size,rawInt 0,.none,.none] } }) :=
 .of_wp λ prog w A R s h=>by
  obtain⟨hp,g,d,tk,os⟩:=s;obtain⟨hl,h⟩:=h
  have hsub:=sub_enumerate
  have b1:SqAt t (Shared.heap ⟨hp,g,d,tk,os⟩) l xs:=hl
  obtain⟨o,ho⟩:∃ o,hp.get? l=some o:=by
   cases t with
   | true=>obtain⟨o,q,_⟩:=(show hp.IsTuple l xs from hl);exact⟨o,q⟩
   | false=>obtain⟨o,q,_⟩:=(show hp.IsList l xs from hl);exact⟨o,q⟩
  wp_walk using AutoSeq1.wpAny_loadPart' ho
  refine wpAny_stack_any λ st=>?_
  refine uah ?_
  split
  ·rename_i c _ _ _ _ _
   rcases (c==Value.type "enumerate") with _ | _
   ·wp_walk using AutoSeq1.wpAny_loadPart' ho,zfe b1
    exact⟨_,rfl,h⟩
   ·wp_walk using AutoSeq1.wpAny_loadPart' ho,zfe b1
    exact⟨_,rfl,h⟩
  ·wp_walk using AutoSeq1.wpAny_loadPart' ho,zfe b1
   exact⟨_,rfl,h⟩
theorem zpw {t:Bool}{l:Addr}{xs:Array Value}{Q:Value->Shared->Prop}(hl:SqAt t s.heap l xs)
  (h:∀ h',IsEnum h' (s.heap.objs.size+1) s.heap.objs.size ((0:Nat):Int) .none->ItAt t h' s.heap.objs.size l 0->h'.objs.size=s.heap.objs.size+2->(∀ b o,s.heap.get? b=some o->h'.get? b=some o)->Q (.ref (s.heap.objs.size+1)) { s with heap:=h' }) :
  wpAny (model prog w) A (call (.type "enumerate") [.ref l]) Q E s:=by
 refine callType_new F.called_enumerate (by decide) (F.typeCall_enumerate_1 _) (F.newCall_enumerate_1 _) (λ obj=>F.args_object_init_2 obj _) F.entry_enumerate_new (zrq t l xs) ⟨hl,?_⟩
 have z1:(s.heap.push (itObj t l)).objs.size=s.heap.objs.size+1:=Heap.size_push ..
 have g1:ItAt t ((s.heap.push (itObj t l)).push { cls:=.type "enumerate",data:=.fields #[.none,.bool false,.ref s.heap.objs.size,rawInt 0,.none,.none] }) s.heap.objs.size l 0:=(ItAt.new (t:=t) (h:=s.heap) (l:=l)).to λ o e=>Heap.get?_push_of_some _ e
 have g2:((s.heap.push (itObj t l)).push { cls:=.type "enumerate",data:=.fields #[.none,.bool false,.ref s.heap.objs.size,rawInt 0,.none,.none] }).get? (s.heap.push (itObj t l)).objs.size=some _:=Heap.get?_push_size _ rfl
 show _/\_
 rw[z1] at g2 ⊢
 exact⟨⟨_,g2,rfl⟩,h _ g2 g1 (by rw[Heap.size_push,z1]) λ b o q=>Heap.get?_push_of_some _ (Heap.get?_push_of_some _ q)⟩
theorem zpa {t:Bool}{e it l:Addr}{i:Nat}{xs:Array Value}{x old:Value}{Q:Value->Shared->Prop}(he:IsEnum s.heap e it i old)(hi:ItAt t s.heap it l i)(hl:SqAt t s.heap l xs)(hx:xs[i]?=some x)(ne:e≠it)
  (hQ:∀ h',IsEnumOut h' e it ((i:Int)+1) x s.heap.objs.size->ItAt t h' it l (i+1)->h'.get? s.heap.objs.size=some { cls:=.type "tuple",data:=.seq #[.int i s.toks,x] }->h'.objs.size=s.heap.objs.size+1 ->
   (∀ b o,b≠e->b≠it->s.heap.get? b=some o->h'.get? b=some o)->Q (.ref s.heap.objs.size) { s with heap:=h',toks:=s.toks+1 }) :
  wpAny (model prog w) A (Builtin.«enumerate.__next__» ⟨[.ref e],[]⟩) (λ fin s'=>∃ v,fin=.done (.ret v)/\Q v s') E s:=by
 obtain⟨hp,g,d,tk,os⟩:=s
 show wpAny _ _ (field (.ref e) 2 >>= _) _ _ _
 refine uab (ub1 he rfl (x:=.ref it) rfl (uab (zhx hi hl hx λ k1 i1 s1=>?_)))
 replace s1:Heap.SameBut it hp k1:=s1
 have q1:IsEnum k1 e it i old:=(s1.2 e ne).trans he
 show wpAny _ _ (field (.ref e) 3 >>= _) _ _ ⟨k1,g,d,tk,os⟩
 refine uab (ub1 q1 rfl (x:=rawInt i) rfl ?_)
 show wpAny _ _ (field (.ref e) 4 >>= _) _ _ ⟨k1,g,d,tk,os⟩
 refine uab (ub1 q1 rfl (x:=.none) rfl ?_)
 show wpAny _ _ (mkInt i >>= _) _ _ ⟨k1,g,d,tk,os⟩
 refine uab (wpAny_mkInt ?_)
 show wpAny _ _ (setField (.ref e) 3 (rawInt ((i:Int)+1)) >>= _) _ _ ⟨k1,g,d,tk+1,os⟩
 refine uab (ub8 q1 (by simp) λ k2 q2 s2=>?_)
 replace s2:Heap.SameBut e k1 k2:=s2
 replace q2:IsEnum k2 e it ((i:Int)+1) old:=q2
 show wpAny _ _ (setField (.ref e) 4 .none >>= _) _ _ ⟨k2,g,d,tk+1,os⟩
 refine uab (ub8 q2 (by simp) λ k3 q3 s3=>?_)
 replace s3:Heap.SameBut e k2 k3:=s3
 replace q3:IsEnum k3 e it ((i:Int)+1) old:=q3
 show wpAny _ _ (newTuple [.int i tk,x] >>= _) _ _ ⟨k3,g,d,tk+1,os⟩
 refine uab (wpAny_newTuple ?_)
 have q4:IsEnum (k3.push { cls:=.type "tuple",data:=.seq #[.int i tk,x] }) e it ((i:Int)+1) old:=Heap.get?_push_of_some _ q3
 generalize hk4:k3.push { cls:=.type "tuple",data:=.seq #[.int i tk,x] }=k4 at q4
 have sz:k3.objs.size=hp.objs.size:=by rw[s3.1,s2.1,s1.1]
 have lt:e<hp.objs.size:=Heap.lt_size he
 have t4:k4.get? hp.objs.size=some { cls:=.type "tuple",data:=.seq #[.int i tk,x] }:=by rw[← hk4,← sz];exact Heap.get?_push_size _ rfl
 have z4:k4.objs.size=hp.objs.size+1:=by rw[← hk4,Heap.size_push,sz]
 have up4:∀ b o,b≠e->b≠it->hp.get? b=some o->k4.get? b=some o:=λ b o n1 n2 q=>by
  rw[← hk4];exact Heap.get?_push_of_some _ (s3.extBut b o n1 (s2.extBut b o n1 (s1.extBut b o n2 q)))
 have i4:ItAt t k4 it l (i+1):=i1.to λ o q=>by
  rw[← hk4];exact Heap.get?_push_of_some _ (s3.extBut _ _ ne.symm (s2.extBut _ _ ne.symm q))
 show wpAny _ _ (Builtin.SmallTypes.ownedTupleIsFree (.ref e) >>= _) _ _ ⟨k4,g,d,tk+1,os⟩
 rw[sz]
 clear hk4 q3 s3 q2 s2 q1 s1 i1 sz k3 k2 k1
 refine uab ?_
 unfold Builtin.SmallTypes.ownedTupleIsFree
 refine uab (ub1 q4 rfl (x:=.none) rfl (uah ?_))
 simp only [if_true]
 refine uab (udl (uab (ub1 q4 rfl (x:=old) rfl (uab (ub8 q4 (by simp) λ k5 q5 s5=>?_)))))
 replace s5:Heap.SameBut e k4 k5:=s5
 replace q5:IsEnum k5 e it ((i:Int)+1) x:=q5
 show wpAny _ _ (Builtin.SmallTypes.ownedTupleHandOut (.ref e) (.ref hp.objs.size) >>= _) _ _ ⟨k5,g,d,tk+1,os⟩
 refine uab ?_
 unfold Builtin.SmallTypes.ownedTupleHandOut
 refine uab (ub8 q5 (by simp) λ k6 q6 s6=>?_)
 replace s6:Heap.SameBut e k5 k6:=s6
 replace q6:IsEnumOut k6 e it ((i:Int)+1) x hp.objs.size:=q6
 refine ub8 q6 (by simp) λ k7 q7 s7=>?_
 replace s7:Heap.SameBut e k6 k7:=s7
 replace q7:IsEnumOut k7 e it ((i:Int)+1) x hp.objs.size:=q7
 have up:∀ b o,b≠e->k4.get? b=some o->k7.get? b=some o:=λ b o n q=>s7.extBut b o n (s6.extBut b o n (s5.extBut b o n q))
 exact uab (udf (uah ⟨_,rfl,hQ k7 q7 (i4.to λ o q=>up _ o ne.symm q) (up _ _ (ucq lt) t4) (by rw[s7.1,s6.1,s5.1,z4]) λ b o n1 n2 q=>up b o n1 (up4 b o n1 n2 q)⟩))
theorem zf9 {t:Bool}{e it l:Addr}{i:Nat}{xs:Array Value}{x old:Value}{Q:Option Value->Shared->Prop}(he:IsEnum s.heap e it i old)(hi:ItAt t s.heap it l i)(hl:SqAt t s.heap l xs)(hx:xs[i]?=some x)(ne:e≠it)
  (hQ:∀ h',IsEnumOut h' e it ((i:Int)+1) x s.heap.objs.size->ItAt t h' it l (i+1)->h'.get? s.heap.objs.size=some { cls:=.type "tuple",data:=.seq #[.int i s.toks,x] }->h'.objs.size=s.heap.objs.size+1 ->
   (∀ b o,b≠e->b≠it->s.heap.get? b=some o->h'.get? b=some o)->Q (some (.ref s.heap.objs.size)) { s with heap:=h',toks:=s.toks+1 }) :
  wpAny (model prog w) A (pyNext (.ref e)) Q E s:=by
 have ty:s.TypeIs (.ref e) "enumerate":=⟨_,he,rfl⟩
 unfold pyNext
 exact uab (udw (ubh (name := Str.ofString "__next__") ty F.slot_enumerate_next (ubm F.slot_enumerate_next ty F.entry_enumerate_next
     (zpa he hi hl hx ne λ h' a b c d k=>uah (hQ h' a b c d k)) (F.args_enumerate_next_1 _))))
theorem zf8 {t:Bool}{e it l:Addr}{i:Nat}{xs:Array Value}{old:Value}{Q:Option Value->Shared->Prop}(hh:A.handled=none)(he:IsEnum s.heap e it i old)(hi:ItAt t s.heap it l i)(hl:SqAt t s.heap l xs)(hx:xs[i]?=none)
  (hQ:∀ h',Heap.ExtBut it s.heap h'->Q none { s with heap:=h' }):wpAny (model prog w) A (pyNext (.ref e)) Q E s:=by
 have ty:s.TypeIs (.ref e) "enumerate":=⟨_,he,rfl⟩
 unfold pyNext
 refine uab (udw (ubh (name:=Str.ofString "__next__") ty F.slot_enumerate_next (ubm F.slot_enumerate_next ty F.entry_enumerate_next ?_ (F.args_enumerate_next_1 _))))
 show wpAny _ _ (field (.ref e) 2 >>= _) _ _ _
 refine uab (ub1 he rfl (x:=.ref it) rfl (uab (zkd hh hi hl hx λ h' x k ⟨o,p1,p2⟩=>?_)))
 exact uab (ueh (T:="StopIteration") (b:=true) ⟨o,p1,p2⟩ ufv (uah (hQ _ k)))
end
end Z3
namespace L3
open PySem PySem.Spec PyProof.Rows L2
def Itn (t:Bool)(K:uac)(l:Addr):It :=
 ⟨λ i H=>∃ xs x,SqX t K H l xs/\xs[i]?=some x,
  λ i H v H'=>∃ T x,H T=none/\v=.ref T/\H'=upd H T (.tup [.int (i:Nat),x])/\(∀ xs,SqX t K H l xs->xs[i]?=some x),
  λ i H=>∃ xs,SqX t K H l xs/\xs.length<=i⟩
theorem znj {P:Program}{w:World}{K:uac}{elts:List Expr}{kk:Nat}{pos:Pos}{t:Bool}{e it l:Addr}(n1:e≠it)(n2:l≠e)(n3:l≠it) :
  Turn P w K (.Tuple elts kk pos) (Itn t K l) [e,it] e (λ i h=>(∃ old,IsEnum h e it (i:Int) old)/\Z3.ItAt t h it l i) where
 mem:=by simp
 obj:=λ i h st b hb=>by
  obtain⟨⟨old,q1⟩,q2⟩:=st
  obtain⟨o2,m2,e2,_,d2⟩:=q2.obj
  simp only [uam,ua1,or_false] at hb
  rcases hb with rfl | rfl
  ·exact⟨_,q1,λ v q=>by cases q⟩
  ·exact⟨_,e2,λ v q=>by rw[d2] at q;cases q⟩
 keep:=λ i h h' st k=>by
  obtain⟨⟨old,q1⟩,q2⟩:=st
  exact⟨⟨old,k e (by simp) _ q1⟩,q2.to λ o z=>k it (by simp) o z⟩
 item:=by
  intro X hP hw hK hc i pins s σ H E I hf st hg
  subst hP hw hK
  obtain⟨xs,x,q1,hx⟩:=hg
  obtain⟨⟨old,en⟩,ia⟩:=st
  obtain⟨its1,r1,p1,z1⟩:=seqX I q1
  obtain⟨u1,hu1,ru1⟩:=r1.get hx
  refine Z3.zf9 en ia p1 (x:=u1) (by simpa using hu1) n1 λ h' eo ia' tp sz kp=>?_
  have I1 : Inv X pins σ (upd H s.heap.objs.size (.tup [.int (i : Nat), x])) { s with heap := h', toks := s.toks+1 } := turnsTup (ch := [e, it]) (its := [.int i s.toks, u1]) I hf (λ b o hb z => by
      simp only [uam,ua1,or_false,not_or] at hb
      exact kp b o hb.1 hb.2 z) (uai _) (by show 2<=sizeLine;rw[uc9];decide) (.cons ⟨_,rfl⟩ (.cons ru1 .nil)) ⟨_,tp,rfl,⟨_,rfl⟩,rfl⟩
  have fr:H s.heap.objs.size=none:=I.fresh
  have elt:e<s.heap.objs.size:=Heap.lt_size en
  have ilt:it<s.heap.objs.size:=by obtain⟨o2,m2,e2,_⟩:=ia.obj;exact Heap.lt_size e2
  have zne:∀ b∈[e,it],b≠s.heap.objs.size:=λ b hb=>by
   simp only [uam,ua1,or_false] at hb
   rcases hb with rfl | rfl
   ·exact uas elt
   ·exact uas ilt
  refine⟨_,rfl,wpAny_letOwnedTupleGo_enum eo λ h2 en2 sb=>?_⟩
  obtain⟨f0,f1,f2,f3,f4,f5⟩:=hf e (by simp)
  have I2:Inv X pins σ (upd H s.heap.objs.size (.tup [.int (i:Nat),x])) { s with heap:=h2,toks:=s.toks+1 }:=Inv.turned (s:={ s with heap:=h',toks:=s.toks+1 }) (it:=e) (t':=s.toks+1) I1 (λ b o hb z=>sb.extBut b o hb z) (by rw[zan (zne e (by simp))];exact f0) f1 f3 f4 f5
  refine⟨.ref s.heap.objs.size,_,I2,rfl,⟨_,x,fr,rfl,rfl,λ zs hz=>by rw[zg4 I hz q1];exact hx⟩,?_,λ b hb=>by rw[zan (zne b hb)];exact (hf b hb).1⟩
  exact⟨⟨_,by simpa using en2⟩,ia'.to λ o z=>sb.extBut _ _ n1.symm z⟩
 done:=by
  intro X hP hw hK hc i pins s σ H E I hf st hg
  subst hP hw hK
  obtain⟨xs,q1,hx⟩:=hg
  obtain⟨⟨old,en⟩,ia⟩:=st
  obtain⟨its1,r1,p1,z1⟩:=seqX I q1
  have l1:=r1.length
  refine Z3.zf8 (I.ok.hd hc) en ia p1 (by simp;left) λ h' kp=>⟨rfl,?_⟩
  exact turns (ch:=[e,it]) (t':=s.toks) I hf λ b o hb z=>by
   simp only [uam,ua1,or_false,not_or] at hb
   exact kp b o hb.2 z
 self:=λ _ _ _ _ _ st h=>by
  obtain⟨⟨old,en⟩,_⟩:=st
  exact wpAny_pyIter_enum en h
def iEnum (t:Bool)(K:uac)(ta:TA):TI:=λ σ H R=>ta σ H λ vs H1=>∃ l,vs=[.ref l]/\(∃ xs,SqX t K H1 l xs)/\R (Itn t K l) H1
theorem zev {X:Cx}{elts:List Expr}{kk:Nat}{pos':Pos}(t:Bool){a:Expr}{ta:TA}{p pos:Pos}(hg:Gl X "enumerate")(hm:X.mg "enumerate"=none)(ha:PA X [a] ta)
  (hs:starEach [a] X.env=[(false,eval a X.env)]:=by rfl) (hs2:starEach [] X.env=[]:=by rfl) :
  PI X (.Tuple elts kk pos') (.Call (.Name "enumerate" p) [a] [] pos) (iEnum t X.K ta):=by
 intro pins s σ H R I h
 refine Call_ (zfb I hg hm boot_enumerate (udh (thn (ha pos pins s σ H _ I h) λ us s1 ⟨vs,H1,I1,r1,q1⟩=>?_) (by rw[hs,hs2]) (by rw[hs2];rfl)))
 obtain⟨l,e,⟨xs,qx⟩,q⟩:=q1
 subst e
 obtain⟨u,rfl,rx⟩:=vals1 r1
 cases rx
 obtain⟨its1,r1,p1,z1⟩:=seqX I1 qx
 have lt:l<s1.heap.objs.size:=by
  cases t with
  | true=>obtain⟨o,e,_⟩:=(show s1.heap.IsTuple l _ from p1);exact Heap.lt_size e
  | false=>obtain⟨o,e,_⟩:=(show s1.heap.IsList l _ from p1);exact Heap.lt_size e
 refine Z3.zpw p1 λ h' en ia sz kp=>wpAny_pyIter_enum en ?_
 have I2:Inv X pins σ H1 { s1 with heap:=h',toks:=s1.toks }:=I1.kept (t':=s1.toks) kp
 refine⟨s1.heap.objs.size+1,[s1.heap.objs.size+1,s1.heap.objs.size],_,_,H1,rfl,I2,znj (Nat.succ_ne_self _) (uas (ubz lt)) (uas lt),⟨⟨_,en⟩,ia⟩,λ b hb=>?_,q⟩
 have hb':s1.heap.objs.size<=b:=by
  simp only [uam,ua1,or_false] at hb
  rcases hb with rfl | rfl
  ·exact uc5 _
  ·exact uai _
 exact I1.fpOk hb' (I1.hok.fresh hb')
end L3
namespace HT
open PySem PyProof.Rows
section
variable {prog:Program}{w:World}{A:Around}{E:Value->Shared->Prop}{s:Shared}
theorem zj6 {t:Addr}{items:Array Value}{Q:Bool->Shared->Prop}(ht:IsTup s.heap t items)(h:Q true s):wpAny (model prog w) A (Builtin.Tuple.tupleIsExact (.ref t)) Q E s:=by
 unfold Builtin.Tuple.tupleIsExact
 exact uab (ud6 ht.typeIs (uah h))
theorem zde {t sl:Addr}{items:Array Value}{vl vu:Value}{lo hi:Option Int}{Q:Value->Shared->Prop}(ht:IsTup s.heap t items)(hs:s.heap.IsSliceOf sl vl vu .none)(pl:IsPart vl lo)(pu:IsPart vu hi)
  (hw:sIx items.size 0 lo=0/\sIx items.size items.size hi=items.size) (h:Q (.ref t) s):wpAny (model prog w) A (getItem (.ref t) (.ref sl)) Q E s:=by
 obtain⟨os,hos,hcs,hds⟩:=id hs
 have ty:s.TypeIs (.ref sl) "slice":=⟨os,hos,hcs⟩
 unfold getItem
 try with_reducible refine ubd ?_
 first | refine uab (uah ?_) | skip
 refine uab (wpAny_sequenceKey ht.typeIs (by decide) (uab (ubh (name:=Str.ofString "__getitem__") ht.typeIs ub7
  (ubm ub7 ht.typeIs entry_tuple_getitem ?_ (args_tuple_getitem _ _)))))
 show wpAny _ _ (Builtin.Tuple.tupleItemsOf (.ref t) >>= _) _ _ s
 refine uab (tupleItemsOf_ ht (uab (ud6 ty ?_)))
 rw[if_pos (by decide)]
 refine uab (zck hs pl pu ?_)
 have yes:(((sIx items.size 0 lo:Nat):Int)==0&&(1:Int)==1&&(sIx items.size items.size hi-sIx items.size 0 lo)==items.size)=true:=by
  rw[hw.1,hw.2];simp
 show wpAny _ _ (if (((sIx items.size 0 lo:Nat):Int)==0&&(1:Int)==1&&(sIx items.size items.size hi-sIx items.size 0 lo)==items.size)=true then _ else _) _ _ s
 rw[if_pos yes]
 refine uab (zj6 ht ?_)
 rw[if_pos rfl]
 exact uab (udl (uab (uah (uah ⟨_,rfl,uah h⟩))))
end
end HT
namespace L3
open PySem PySem.Spec PyProof.Rows L2
section
variable {X:Cx}{pins:List (Addr × Obj)}{σ:L2.St}{H:Hp}{s:Shared}{e:Expr}{te:TE}{pos p2:Pos}
theorem zrw {xs:List V}{lo hi:Option Int}(h:HT.sIx xs.length 0 lo=0/\HT.sIx xs.length xs.length hi=xs.length):cutV xs lo hi=xs:=by
 unfold cutV
 rw[h.1,h.2]
 simp
inductive rSlA_i  (x:V) (lo:Option Int) (hi:Option Int) (H:Hp) (Q:VK):Prop
 | mk:∀ a xs,(x=.ref a)->(H a=some (.tup xs))->(∀ p H',Same H H'->H' p=some (.tup (cutV xs lo hi))->Q (.ref p) H')->rSlA_i x lo hi H Q
def rSlA :V->Option Int->Option Int->Hp->VK->Prop:=λ x lo hi H Q=>rSlA_i x lo hi H Q
theorem zg3:SlR X rSlA:=by
 intro pins s σ H x v vl vu lo hi sl Q I rx hs pl pu h
 obtain⟨a,xs,rfl,hx,q⟩:=h
 by_cases c:HT.sIx xs.length 0 lo=0/\HT.sIx xs.length xs.length hi=xs.length
 ·cases rx
  obtain⟨its,r,ht,hz⟩:=I.tuple (SqT.of hx)
  have hlen:its.toArray.size=xs.length:=by rw[uap];exact r.length.symm
  refine⟨"tuple",_,ub7.lookup,ht.typeIs,HT.zde ht hs pl pu (by rw[hlen];exact c) ⟨.ref a,H,I,rfl,q _ _ (Same.refl H) (by rw[zrw c];exact hx)⟩⟩
 ·exact ztv (X:=X) pins s σ H (.ref a) v vl vu lo hi sl Q I rx hs pl pu ⟨a,xs,rfl,SqT.of hx,c,λ p hp=>q p _ (zam hp) zai⟩
end
theorem iteNB {b:Bool}{A B:Prop}(hb:b=true)(h:B):if (!b)=true then A else B:=by
 subst hb;exact h
theorem iteB2 {b:Bool}{A B:Prop}(h1:b=true->B)(h2:b=false->A):if (!b)=true then A else B:=by
 cases b with
 | true=>exact h1 rfl
 | false=>exact h2 rfl
def numB (m:Nat):PyData->Bool
 | .int i=>decide (0<=i)&&decide (i<(m:Int))
 | _=>false
def intOf:PyData->Int
 | .int i=>i
 | _=>0
def risI (ns:List Int):Bool:=((uaf (min ns.length (ns.drop 1).length)).map λ i=>decide (ns.getD i 0<(ns.drop 1).getD i 0)).all id
def keepB (m:Nat):PyData->Bool
 | .tuple ds=>ds.all (numB m)&&risI (ds.map intOf)
 | _=>false
def spRisI:Sp:=λ vs H Q _=>∃ p ns,vs=[.ref p]/\H p=some (.tup (ns.map V.int))/\ns.length<=1000/\∀ H',Same H H'->Q (.bl (risI ns)) H'
theorem zkw {ds:List PyData}(h:∀ d∈ds,∃ i,d=.int i):ds=(ds.map intOf).map .int:=by
 rw[uby]
 conv=>lhs;rw[← List.map_id ds]
 refine ueg λ d hd=>?_
 obtain⟨i,rfl⟩:=h d hd
 rfl
structure Pre (m:Nat)(ds:List PyData)(i:Nat)(a:Int):Prop where
 num:∀ d∈ds.take i,numB m d=true
 up:((ds.take i).map intOf).Pairwise (·<·)
 top:∀ x∈(ds.take i).map intOf,x<=a
 at_:a=-1\/a∈(ds.take i).map intOf
theorem zdh {α:Type}{ds:List α}{i:Nat}{d:α}(e:ds[i]?=some d):ds.take (i+1)=ds.take i++[d]:=by
 rw[List.take_add_one,e];rfl
def flatD:V->Bool
 | .non | .bl _ | .int _ | .str _=>true
 | _=>false
theorem Pot.same {H H':Hp}{p:Addr}(h:Pot H p)(s:Same H H'):Pot H' p:=let ⟨a,b,e,z⟩:=h;⟨a,b,s _ _ e,z⟩
theorem zek:∀ ns:List Int,tupAll (ns.map .int)=true
 | []=>rfl
 | n::ns=>by show (tupD (.int n)&&tupAll (ns.map .int))=true;rw[zek ns];rfl
theorem zli:∀ ts:List Tie,tupAll (ts.map tieD)=true
 | []=>rfl
 | t::r=>by show (tupD (tieD t)&&tupAll (r.map tieD))=true;rw[zli r];rfl
theorem zso (n:Int)(ts:List Tie):tupD (webD n ts)=true:=by
 show (true&&(tupAll (ts.map tieD)&&true))=true
 rw[zli ts];rfl
theorem zqh (ks:List Nat):tupD (keepD ks)=true:=zek _
end L3
namespace L3
end L3
namespace L3
open PySem PySem.Spec PyProof.Rows L2
theorem lS {a b:TS}{D:Ends}{σ:L2.St}{H:Hp}(h:let B:=b;let E:=D;let S:=σ;tSeq a B E S H):tSeq a b D σ H:=h
theorem lI {c:TT}{a b:TS}{D:Ends}{σ:L2.St}{H:Hp}(h:let A:=a;let B:=b;let E:=D;let S:=σ;tIfS c A B E S H):tIfS c a b D σ H:=h
theorem lF {i:TI}{g:TG}{b:TS}{D:Ends}{σ:L2.St}{H:Hp}(h:let B:=b;let E:=D;let S:=σ;tFor i g B E S H):tFor i g b D σ H:=h
end L3
namespace HT
open PySem PyProof.Rows
section
open PySem.SeqAt
open PySem.AutoSeq1 (wpAny_loadPart')
open PySem.MeetsSeq PySem.MeetsSeq2 PySem.MeetsSeq3
end
section
variable {prog:Program}{w:World}{A:Around}{E:Value->Shared->Prop}{s:Shared}
end
end HT
namespace L3
open PySem PySem.Spec PyProof.Rows L2
section
variable {X:Cx}
end
def wide:Nat->PyData->Prop
 | 0,_=>True
 | k+1,.tuple ds=>ds.length<=1000/\∀ d∈ds,wide k d
 | k+1,.list ds=>ds.length<=1000/\∀ d∈ds,wide k d
 | _+1,_=>True
def endsD:PyData->Int × Int
 | .tuple [.int a,.int b,.int _]=>(a,b)
 | _=>(0,0)
def tiesB (n:Int):PyData->Bool
 | .tuple ds=>decide (ds.length<=60)&&ds.all (tieB n)&&risingB (ds.map endsD)
 | _=>false
def Gd (H:Hp):Nat->V->Prop
 | 0,v=>flatD v=true
 | k+1,v=>flatD v=true\/(∃ p vs,v=.ref p/\(H p=some (.tup vs)\/H p=some (.lst vs))/\vs.length<=1000/\∀ u∈vs,Gd H k u)\/(∃ p,v=.ref p/\H p=some (.dK []))
def lt2 (e f:Int × Int):Prop:=e.1<f.1\/(e.1=f.1/\e.2<f.2)
theorem zlx (e f:Int × Int):HT.lexLt (e2 e) (e2 f)=true↔lt2 e f:=by
 show (if e.1=f.1 then (if e.2=f.2 then false else decide (e.2<f.2)) else decide (e.1<f.1))=true↔_
 unfold lt2
 by_cases h:e.1=f.1
 ·rw[if_pos h]
  by_cases h2:e.2=f.2
  ·rw[if_pos h2];simp;left
  ·rw[if_neg h2,decide_eq_true_eq];left
 ·rw[if_neg h,decide_eq_true_eq];left
structure PreT (n:Int)(ds:List PyData)(i:Nat)(a:Int × Int):Prop where
 tie:∀ d∈ds.take i,tieB n d=true
 up:((ds.take i).map endsD).Pairwise lt2
 top:∀ x∈(ds.take i).map endsD,x=a\/lt2 x a
 at_:a=(-1,-1)\/a∈(ds.take i).map endsD
section
variable {X:Cx}{es:List Expr}{t:TA}{pos:Pos}
def tTupG (t:TA):TE:=λ σ H Q=>t σ H λ xs H1=>xs.length<=1000/\∀ p H',Same H1 H'->H1 p=none->H' p=some (.tup xs)->Q (.ref p) H'
def tLstG (t:TA):TE:=λ σ H Q=>t σ H λ xs H1=>xs.length<=1000/\∀ p H',Same H1 H'->H1 p=none->H' p=some (.lst xs)->Q (.ref p) H'
theorem zbc {x1} (h:PA X es t):PE X (.Tuple es x1 pos) (tTupG t):=by
 intro pins s σ H Q I hq
 refine wpAny_Tuple_spliced (thn (h pos pins s σ H _ I hq) λ us s1 ⟨xs,J,I1,r,z,q⟩=>?_)
 have z':xs.length<=sizeLine:=ubt z (by decide)
 have fr:J s1.heap.objs.size=none:=I1.hok.fresh (uai _)
 refine⟨by rw[← r.length];exact z',.ref s1.heap.objs.size,upd J s1.heap.objs.size (.tup xs),I1.laid (t':=s1.toks) (λ b u e=>Heap.get?_push_of_some _ e) (uai _) ⟨z',us,r,⟨_,Heap.get?_push_size _ rfl,rfl,⟨_,rfl⟩,rfl⟩⟩,rfl,q _ _ (zam fr) fr zai⟩
theorem zcb (h:PA X es t):PE X (.List es pos) (tLstG t):=by
 intro pins s σ H Q I hq
 refine wpAny_List_spliced (thn (h pos pins s σ H _ I hq) λ us s1 ⟨xs,J,I1,r,z,q⟩=>?_)
 have z':xs.length<=sizeLine:=ubt z (by decide)
 have fr:J s1.heap.objs.size=none:=I1.hok.fresh (uai _)
 refine⟨by rw[← r.length];exact z',.ref s1.heap.objs.size,upd J s1.heap.objs.size (.lst xs),I1.laid (t':=s1.toks) (λ b u e=>Heap.get?_push_of_some _ e) (uai _) ⟨z',us,0,r,Heap.get?_push_size _ rfl⟩,rfl,q _ _ (zam fr) fr zai⟩
inductive rAppendG_i  (x:V) (vs:List V) (H:Hp) (Q:VK):Prop
 | mk:∀ l xs y,(x=.ref l)->(vs=[y])->(H l=some (.lst xs))->(xs.length<1000)->(∀ H',But l H H'->H' l=some (.lst (xs++[y]))->Q .non H')->rAppendG_i x vs H Q
def rAppendG :V->List V->Hp->VK->Prop:=λ x vs H Q=>rAppendG_i x vs H Q
theorem zbx:MtM X "list.append" rAppendG:=by
 intro pins s σ H x vs v us Q I rx rv h
 obtain⟨l,xs,y,rfl,rfl,hH,hz,q⟩:=h
 exact zdn (X:=X) pins s σ H _ _ v us Q I rx rv ⟨l,xs,y,rfl,rfl,hH,ua4 hz (by decide),q _ But.upd zai⟩
end
def Sm (H:Hp)(t:Addr):Prop:=∃ vs:List V,(H t=some (.tup vs)\/H t=some (.lst vs))/\vs.length<=1000/\vs.all flatD=true
def GdF (H:Hp)(xs:List V):Prop:=∀ u∈xs,∃ t,u=.ref t/\Sm H t
def GdL (l:Addr)(H:Hp)(xs:List V):Prop:=∀ u∈xs,∃ t,u=.ref t/\t≠l/\Sm H t
theorem GdL.append {l:Addr}{H:Hp}{xs ys:List V}(h:GdL l H xs)(k:GdL l H ys):GdL l H (xs++ys):=λ u hu=>(ubp.mp hu).elim (h u) (k u)
theorem zoq {i:Int}(h0:-(10^19)<=i)(h1:i<=10^19):i.natAbs.log2<1920:=by
 by_cases c:i.natAbs=0
 ·rw[c];decide
 ·refine (Nat.log2_lt c).mpr (ubr (m:=10^19) (by left) (by symm))
section
variable {g:TG}{te:TE}{own:List Str}{js:List Nat}{σ:L2.St}{H1:Hp}{Q:VK}
theorem zmy {lo:Int}{n:Nat}(Sg:L2.St->Prop)(R:Nat->V->Hp->Prop)(hn:n<=1000)(h0:Sg (start3 own js σ))(mono:∀ i v H H',TupKeep H H'->R i v H->R i v H')
  (step:∀ i σ' H',i<n->Same H1 H'->Sg σ'->∀ C:L2.St->V->Hp->Prop,(∀ σ3 v H5,Sg σ3->Same H' H5->R i v H5->C σ3 v H5)->g (.int (lo+i)) σ' H' λ σ3 H3=>te σ3 H3 λ v H5=>C σ3 v H5)
  (fin:∀ D ys H',H1 D=none->Same H1 H'->H' D=some (.lst ys)->ys.length=n->(∀ i v,ys[i]?=some v->R i v H')->Q (.ref D) H'):CompGo own js g tTrue te σ Q (Itr lo n) H1:=by
 refine zds n Sg R hn h0 mono (λ i H' hi s=>hi) (λ H' s=>uai _) (λ i x σ' H' H2 hi s hy sg C hC=>?_) fin
 obtain⟨rfl,rfl⟩:=hy
 exact step i σ' _ hi s sg C hC
end
inductive call_tupleG_i  (xs:List V) (H:Hp) (Q:VK):Prop
 | mk:∀ p ys,(xs=[.ref p])->(H p=some (.lst ys))->(∀ l H',Same H H'->H l=none->H' l=some (.tup ys)->Q (.ref l) H')->call_tupleG_i xs H Q
theorem za2 {X:Cx}:CallR X (.type "tuple") (call_tupleG_i):=by
 intro pins s σ H xs us Q I r h
 obtain⟨p,ys,rfl,hp,q⟩:=h
 exact zdt (X:=X) pins s σ H _ us Q I r ⟨p,ys,rfl,.inl ⟨SqL.of hp,λ l hl=>q l _ (zam hl) hl zai⟩⟩
def Row3 (H:Hp)(v:V):Prop:=∃ (t:Addr)(x y z:Int),v=.ref t/\H t=some (.tup [.int x,.int y,.int z])
section
variable {X:Cx}
end
end L3
namespace Far
inductive Walk (A:List (Nat × Nat × Int))(s:Nat):Nat->Int->Prop
 | nil:Walk A s s 0
 | snoc {u v:Nat} {l x:Int}:Walk A s u x->(u,v,l)∈A->Walk A s v (x+l)
variable {A:List (Nat × Nat × Int)}{s:Nat}
def Pos (A:List (Nat × Nat × Int)):Prop:=∀ u v l,(u,v,l)∈A->1<=l
theorem Walk.nonneg (P:Pos A){v:Nat}{x:Int}(h:Walk A s v x):0<=x:=by
 induction h with
 | nil=>exact ubf 0
 | snoc _ m ih=>have:=P _ _ _ m;left
def Dst (A:List (Nat × Nat × Int))(s v:Nat)(o:Option Int):Prop:=(∀ y,o=some y->Walk A s v y)/\∀ L,Walk A s v L->∃ y,o=some y/\y<=L
theorem Dst.unique {v:Nat}{o p:Option Int}(h:Dst A s v o)(k:Dst A s v p):o=p:=by
 cases o with
 | none =>
  cases p with
  | none=>rfl
  | some y=>obtain⟨_,e,_⟩:=h.2 y (k.1 y rfl);cases e
 | some x =>
  obtain⟨y,rfl,hy⟩:=k.2 x (h.1 x rfl)
  obtain⟨z,e,hz⟩:=h.2 y (k.1 y rfl)
  cases e
  rw[show x=y by left]
theorem least {P:Nat->Prop}:∀ n,P n->∃ m,P m/\∀ k,P k->m<=k:=by
 intro n
 induction n using ugl with
 | ind n ih =>
  intro h
  by_cases c:∃ k,k<n/\P k
  ·obtain⟨k,hk,pk⟩:=c;exact ih k hk pk
  ·exact⟨n,h,λ k pk=>by
    by_cases z:k<n
    ·exact absurd ⟨k,z,pk⟩ c
    ·left⟩
theorem zcg (P:Pos A)(s v:Nat):∃ o,Dst A s v o:=by
 by_cases c:∃ x,Walk A s v x
 ·obtain⟨x,hx⟩:=c
  have nn:=hx.nonneg P
  obtain⟨m,hm,mn⟩:=least (P:=λ k=>Walk A s v (k:Int)) x.toNat (by rw[ua6 nn];exact hx)
  refine⟨some m,λ y e=>by cases e;exact hm,λ L hL=>⟨m,rfl,?_⟩⟩
  have n2:=hL.nonneg P
  have:=mn L.toNat (by rw[ua6 n2];exact hL)
  left
 ·exact⟨none,⟨λ y e=>(by cases e),λ L hL=>absurd ⟨L,hL⟩ c⟩⟩
theorem Walk.cons {u v:Nat}{l:Int}(m:(u,v,l)∈A){w:Nat}{x:Int}(h:Walk A v w x):Walk A u w (x+l):=by
 induction h with
 | nil=>exact .snoc .nil m
 | snoc _ m' ih=>rw[ufs];exact .snoc ih m'
def Sym (A:List (Nat × Nat × Int)):Prop:=∀ u v l,(u,v,l)∈A->(v,u,l)∈A
theorem Walk.back (S:Sym A){v:Nat}{x:Int}(h:Walk A s v x):Walk A v s x:=by
 induction h with
 | nil=>exact .nil
 | snoc _ m ih=>exact ih.cons (S _ _ _ m)
theorem Dst.back (S:Sym A){v:Nat}{o:Option Int}(h:Dst A s v o):Dst A v s o:=⟨λ y e=>(h.1 y e).back S,λ L hL=>h.2 L (hL.back S)⟩
def lt2 (e f:Int × Int):Prop:=e.1<f.1\/(e.1=f.1/\e.2<f.2)
def get {α:Type}(cs:List (Option α))(v:Nat):Option α:=cs.getD v none
theorem za9 {α:Type}{cs:List (Option α)}{v i:Nat}{x:Option α}(h:v<cs.length):get (cs.set v x) i=if i=v then x else get cs i:=by
 unfold get
 rw[uag,List.getElem?_set,uag]
 by_cases c:v=i
 ·subst c;simp [h]
 ·simp [c,Ne.symm c]
def ct {α:Type}:List (Option α)->Nat
 | []=>0
 | none::r=>ct r
 | some _::r=>ct r+1
theorem zrx {α:Type}:∀ cs:List (Option α),ct cs<=cs.length
 | []=>uai 0
 | none::r=>Nat.le_succ_of_le (zrx r)
 | some _::r=>ugd (zrx r)
theorem zl8 {α:Type}{c:α}:∀ {cs:List (Option α)}{v:Nat},v<cs.length->ct (cs.set v (some c))=ct cs+(if (get cs v).isSome then 0 else 1)
 | none::r,0,_=>rfl
 | some _::r,0,_=>rfl
 | none::r,v+1,h=>zl8 (cs:=r) (v:=v) (by simpa using h)
 | some _::r,v+1,h=>by
  have:=zl8 (c:=c) (cs:=r) (v:=v) (by simpa using h)
  show ct (r.set v (some c))+1=ct r+1+_
  rw[this]
  show _=ct r+1+(if (get r v).isSome then 0 else 1)
  left
theorem zsh {α:Type}:∀ {cs:List (Option α)}{v:Nat}{c:α},get cs v=some c->1<=ct cs
 | [],v,c,h=>by cases h
 | some _::r,_,_,_=>ugd (ube _)
 | none::r,0,c,h=>by cases h
 | none::r,v+1,c,h=>zsh (cs:=r) (v:=v) (c:=c) h
def WM:Int:=2^130
def mW:Option (Int × Int)->Nat
 | none=>(2^250)
 | some c=>(c.1*WM+c.2).toNat
def mu:List (Option (Int × Int))->Nat
 | []=>0
 | c::r=>mW c+mu r
theorem zsc {x:Option (Int × Int)}:∀ {cs:List (Option (Int × Int))}{v:Nat},v<cs.length->mW x<mW (get cs v)->mu (cs.set v x)<mu cs
 | c::r,0,_,h=>Nat.add_lt_add_right (k:=mu r) h
 | c::r,v+1,hl,h=>Nat.add_lt_add_left (k:=mW c) (zsc (cs:=r) (v:=v) (by simpa using hl) h)
structure Good (A:List (Nat × Nat × Int))(n s:Nat)(cs:List (Option (Int × Int))):Prop where
 len:cs.length=n
 walk:∀ v c,get cs v=some c->Walk A s v c.1
 w0:∀ v c,get cs v=some c->0<=c.2/\c.2<=c.1*2^60
 top:∀ v c,get cs v=some c->c.1<=((ct cs:Nat)-1:Int)*10^18
 start:∃ c,get cs s=some c/\c.1<=0
theorem Good.step {n u v:Nat}{l w:Int}{cs:List (Option (Int × Int))}{c:Int × Int}(P:Pos A)(n24:n<=24)(g:Good A n s cs)(arc:(u,v,l)∈A)(l1:l<=10^18)(w0:0<=w)(w1:w<=2^60)(hv:v<n)(hu:get cs u=some c)
  (h:get cs v=none\/∃ c',get cs v=some c'/\lt2 (c.1+l,c.2+w) c'):Good A n s (cs.set v (some (c.1+l,c.2+w)))/\mu (cs.set v (some (c.1+l,c.2+w)))<mu cs:=by
 have hv':v<cs.length:=by rw[g.len];exact hv
 have l0:=P _ _ _ arc
 have wk:=Walk.snoc (g.walk _ _ hu) arc
 have c0:=(g.walk _ _ hu).nonneg P
 obtain⟨cw0,cw1⟩:=g.w0 _ _ hu
 have ct24:ct cs<=24:=by have:=zrx cs;rw[g.len] at this;left
 have ctp:=zsh hu
 have es:=zl8 (c:=(c.1+l,c.2+w)) hv'
 have topc:=g.top _ _ hu
 have wbound:c.2+w<=(c.1+l)*2^60:=by rw[ufk];left
 have big:c.1+l<=((ct (cs.set v (some (c.1+l,c.2+w))):Nat)-1:Int)*10^18:=by
  rw[es]
  rcases h with h | ⟨c',h,hlt⟩
  ·rw[h]
   show _<=(((ct cs+1:Nat):Int)-1)*10^18
   left
  ·rw[h]
   show _<=(((ct cs+0:Nat):Int)-1)*10^18
   have:=g.top _ _ h
   unfold lt2 at hlt
   simp only at hlt
   left
 have ctm:ct cs<=ct (cs.set v (some (c.1+l,c.2+w))):=by rw[es];exact uee _ _
 refine⟨⟨by rw[uc2];exact g.len,λ v' d e=>?_,λ v' d e=>?_,λ v' d e=>?_,?_⟩,?_⟩
 ·rw[za9 hv'] at e
  split at e
  ·rename_i z;subst z;cases e;exact wk
  ·exact g.walk _ _ e
 ·rw[za9 hv'] at e
  split at e
  ·cases e;exact⟨by show 0<=c.2+w;left,wbound⟩
  ·exact g.w0 _ _ e
 ·rw[za9 hv'] at e
  split at e
  ·cases e;exact big
  ·have:=g.top _ _ e
   left
 ·obtain⟨d,hd,hd0⟩:=g.start
  rw[za9 hv']
  split
  ·rename_i z;subst z
   refine⟨_,rfl,?_⟩
   rcases h with h | ⟨c',h,hlt⟩
   ·rw[h] at hd;cases hd
   ·rw[h] at hd;cases hd
    unfold lt2 at hlt
    simp only at hlt
    show c.1+l<=0
    left
  ·exact⟨d,hd,hd0⟩
 ·refine zsc hv' ?_
  have ctb:ct (cs.set v (some (c.1+l,c.2+w)))<=24:=by have:=zrx (cs.set v (some (c.1+l,c.2+w)));rw[uc2,g.len] at this;left
  have x23:c.1+l<=23*10^18:=by left
  have y23:c.2+w<=23*10^18*2^60:=by left
  have WMe:WM=1361129467683753853853498429727072845824:=by decide
  rcases h with h | ⟨c',h,hlt⟩
  ·rw[h]
   show ((c.1+l)*WM+(c.2+w)).toNat<2^250
   have:(c.1+l)*WM+(c.2+w)<2^250:=by rw[WMe];left
   left
  ·rw[h]
   obtain⟨d0,d1⟩:=g.w0 _ _ h
   have t0:=(g.walk _ _ h).nonneg P
   have tt:=g.top _ _ h
   show ((c.1+l)*WM+(c.2+w)).toNat<(c'.1*WM+c'.2).toNat
   unfold lt2 at hlt
   simp only at hlt
   have:(c.1+l)*WM+(c.2+w)<c'.1*WM+c'.2:=by
    rw[WMe]
    rcases hlt with z | ⟨z,z'⟩
    ·left
    ·rw[z];left
   have p0:0<=(c.1+l)*WM+(c.2+w):=by rw[WMe];left
   left
def Stab (A:List (Nat × Nat × Int))(cs:List (Option (Int × Int))):Prop:=∀ u v l c,(u,v,l)∈A->get cs u=some c->∃ c',get cs v=some c'/\c'.1<=c.1+l
theorem Good.dst {n:Nat}{cs:List (Option (Int × Int))}(g:Good A n s cs)(st:Stab A cs)(v:Nat):Dst A s v ((get cs v).map (·.1)):=by
 refine⟨λ y e=>?_,λ L hL=>?_⟩
 ·cases h:get cs v with
  | none=>rw[h] at e;cases e
  | some c=>rw[h] at e;cases e;exact g.walk _ _ h
 ·have:∃ c,get cs v=some c/\c.1<=L:=by
   induction hL with
   | nil=>exact g.start
   | snoc _ m ih =>
    obtain⟨c,hc,hle⟩:=ih
    obtain⟨c',hc',hle'⟩:=st _ _ _ _ m hc
    exact⟨c',hc',by left⟩
  obtain⟨c,hc,hle⟩:=this
  exact⟨c.1,by rw[hc];rfl,hle⟩
structure Snd (A:List (Nat × Nat × Int))(n s:Nat)(D:List (Option Int)):Prop where
 len:D.length=n
 walk:∀ v x,get D v=some x->Walk A s v x
 start:∃ x,get D s=some x/\x<=0
structure Rnd (A:List (Nat × Nat × Int))(n s:Nat)(δ:Nat->Option Int)(D0:List (Option Int))(B:(Nat × Nat × Int)->Prop)(D:List (Option Int)):Prop where
 snd:Snd A n s D
 keep:∀ v,get D0 v=δ v->get D v=δ v
 arc:∀ u v l x,B (u,v,l)->get D0 u=δ u->δ u=some x->∃ y,get D v=some y/\y<=x+l
section
variable {n:Nat}{δ:Nat->Option Int}{D0 D:List (Option Int)}{B:(Nat × Nat × Int)->Prop}{u v:Nat}{l:Int}
def plus (B:(Nat × Nat × Int)->Prop)(a:Nat × Nat × Int):(Nat × Nat × Int)->Prop:=λ b=>B b\/b=a
end
theorem zco {α:Type}{p q:α->Bool}:∀ {xs:List α},(∀ x∈xs,p x=true->q x=true)->(∃ x∈xs,q x=true/\p x=false)->xs.countP p<xs.countP q
 | [],_,⟨x,h,_⟩=>by cases h
 | a::r,h,⟨x,hx,e1,e2⟩=>by
  rw[ue0,ue0]
  have le:r.countP p<=r.countP q:=ue6 λ x hx=>h x (uan _ hx)
  rcases uam.mp hx with rfl | hx
  ·rw[e1,e2];simp;left
  ·have:=zco (xs:=r) (λ x hx=>h x (uan _ hx)) ⟨x,hx,e1,e2⟩
   have:=h a ual
   cases e:p a <;> cases e':q a <;> simp_all <;> left
def cnt (n:Nat)(δ:Nat->Option Int)(D:List (Option Int)):Nat:=(uaf n).countP λ v=>decide (get D v=δ v)
def Done (n:Nat)(δ:Nat->Option Int)(D:List (Option Int))(k:Nat):Prop:=(∀ v,v<n->get D v=δ v)\/k+1<=cnt n δ D
def PSt (c0:List (Option (Int × Int)))(B:(Nat × Nat × Int)->Prop)(cs:List (Option (Int × Int)))(ag:Bool):Prop :=
 (ag=false/\cs=c0/\∀ u v l c,B (u,v,l)->get c0 u=some c->∃ c',get c0 v=some c'/\c'.1<=c.1+l)\/(ag=true/\mu cs<mu c0)
section
variable {c0 cs:List (Option (Int × Int))}{B B':(Nat × Nat × Int)->Prop}{ag:Bool}{u v:Nat}{l w:Int}
end
theorem zd5 {α:Type}(n v:Nat):get (ua0 n (none:Option α)) v=none:=by
 unfold get
 rw[uag,ud2]
 split <;> rfl
theorem zsg {α:Type}:∀ n:Nat,ct (ua0 n (none:Option α))=0
 | 0=>rfl
 | n+1=>zsg n
theorem Good.first {n:Nat}(hs:s<n):Good A n s ((ua0 n none).set s (some (0,0))):=by
 have hl:s<(ua0 n (none:Option (Int × Int))).length:=by rw[ubq];exact hs
 have cases':∀ v c,get ((ua0 n (none:Option (Int × Int))).set s (some (0,0))) v=some c->v=s/\c=(0,0):=λ v c e=>by
  rw[za9 hl,zd5] at e
  split at e
  ·rename_i z;cases e;exact⟨z,rfl⟩
  ·cases e
 refine⟨by rw[uc2,ubq],λ v c e=>?_,λ v c e=>?_,λ v c e=>?_,⟨(0,0),?_,ubf _⟩⟩
 ·obtain⟨rfl,rfl⟩:=cases' _ _ e;exact .nil
 ·obtain⟨rfl,rfl⟩:=cases' _ _ e;exact⟨ubf _,by decide⟩
 ·obtain⟨rfl,rfl⟩:=cases' _ _ e
  rw[zl8 hl,zsg,zd5];decide
 ·rw[za9 hl,if_pos rfl]
end Far
namespace L3
open PySem PySem.Spec PyProof.Rows L2
def tieAt (ts:List Tie)(k:Nat):Tie:=ts.getD k (0,0,0)
def arcs2 (t:Tie):List (Nat × Nat × Int):=[(t.1.toNat,t.2.1.toNat,t.2.2),(t.2.1.toNat,t.1.toNat,t.2.2)]
def arcs (ts:List Tie)(ks:List Nat):List (Nat × Nat × Int):=ks.flatMap λ k=>arcs2 (tieAt ts k)
theorem arcs_mem {ts:List Tie}{ks:List Nat}{a:Nat × Nat × Int}:a∈arcs ts ks↔∃ k,k∈ks/\a∈arcs2 (tieAt ts k):=by
 unfold arcs;rw[uey]
theorem arcs2_mem {t:Tie}{a:Nat × Nat × Int}:a∈arcs2 t↔a=(t.1.toNat,t.2.1.toNat,t.2.2)\/a=(t.2.1.toNat,t.1.toNat,t.2.2):=by
 unfold arcs2;simp
theorem za6 {ts:List Tie}{k:Nat}(h:k<ts.length):ts[k]?=some (tieAt ts k)/\tieAt ts k∈ts:=by
 have e:ts[k]?=some (tieAt ts k):=by unfold tieAt;rw[uag,uad h];rfl
 exact⟨e,ua2 e⟩
theorem zl6 {s t:Tie}(h:endLt s t)(e1:s.1=t.1)(e2:s.2.1=t.2.1):False:=by
 rcases h with h | h
 ·exact Int.lt_irrefl _ (e1 ▸ h)
 ·exact Int.lt_irrefl _ (e2 ▸ h.2)
theorem zqm {n:Int}{ts:List Tie}(ok:WebOk n ts){k k':Nat}(hk:k<ts.length)(hk':k'<ts.length)(e1:(tieAt ts k).1=(tieAt ts k').1)(e2:(tieAt ts k).2.1=(tieAt ts k').2.1):k=k':=by
 have pw:∀ i j (hi:i<ts.length) (hj:j<ts.length),i<j->endLt (tieAt ts i) (tieAt ts j):=λ i j hi hj z=>by
  have q:=ucg.mp ok.rise i j hi hj z
  have g:∀ {i:Nat}(hi:i<ts.length),ts[i]=tieAt ts i:=λ {i} hi=>ubj ((uad hi).symm.trans (za6 hi).1)
  rwa [g hi,g hj] at q
 rcases uet k k' with z | z | z
 ·exact (zl6 (pw k k' hk hk' z) e1 e2).elim
 ·exact z
 ·exact (zl6 (pw k' k hk' hk z) e1.symm e2.symm).elim
section
variable {n:Int}{ts:List Tie}{ks:List Nat}
theorem zmh:Far.Sym (arcs ts ks):=λ u v l h=>by
 obtain⟨k,hk,h⟩:=arcs_mem.mp h
 refine arcs_mem.mpr ⟨k,hk,arcs2_mem.mpr ?_⟩
 rcases arcs2_mem.mp h with h | h <;> cases h
 ·exact .inr rfl
 ·exact .inl rfl
theorem zbh (ok:WebOk n ts)(ko:KeepOk ts.length ks):Far.Pos (arcs ts ks):=λ u v l h=>by
 obtain⟨k,hk,h⟩:=arcs_mem.mp h
 have:=ok.tie _ (za6 (ko.2 k hk)).2
 rcases arcs2_mem.mp h with h | h <;> cases h <;> left
end
def CV (H:Hp)(v:V):Option (Int × Int)->Prop
 | none=>v=.non
 | some e=>∃ t,v=.ref t/\H t=some (.tup [.int e.1,.int e.2])
theorem CV.keep {H H':Hp}(k:TupKeep H H'){v:V}:∀ {o:Option (Int × Int)},CV H v o->CV H' v o
 | none,h=>h
 | some e,⟨t,h1,h2⟩=>⟨t,h1,k _ _ h2⟩
def CostL (H:Hp)(vs:List V)(cs:List (Option (Int × Int))):Prop:=vs.length=cs.length/\∀ i v,vs[i]?=some v->CV H v (Far.get cs i)
section
variable {H H' J J':Hp}{vs cvs avs ws:List V}{cs:List (Option (Int × Int))}{lw lc la t:Addr}{n k:Nat}{x y:Int}
theorem CostL.keep (h:CostL H vs cs)(k:TupKeep H H'):CostL H' vs cs:=⟨h.1,λ i v e=>(h.2 i v e).keep k⟩
theorem CostL.set {v:V}{c:Int × Int}(h:CostL H vs cs)(hk:k<vs.length)(hv:CV H v (some c)):CostL H (vs.set k v) (cs.set k (some c)):=by
 refine⟨by rw[uc2,uc2];exact h.1,λ i u e=>?_⟩
 rw[Far.za9 (by rw[← h.1];exact hk)]
 rw[List.getElem?_set] at e
 by_cases z:k=i
 ·subst z;rw[if_pos rfl,if_pos hk] at e;cases e;rw[if_pos rfl];exact hv
 ·rw[if_neg z] at e;rw[if_neg (Ne.symm z)];exact h.2 i u e
theorem CostL.first (n:Nat):CostL H (ua0 n .non) (ua0 n none):=by
 refine⟨by rw[ubq,ubq],λ i v e=>?_⟩
 rw[Far.zd5]
 rw[ud2] at e
 split at e
 ·cases e;rfl
 ·cases e
theorem ziq {p:Addr}{xs:List V}{o:HO}(h:J p=some (.lst xs)):TupKeep J (upd J p o):=λ a ys e=>by
 rw[zan (λ z=>by rw[z,h] at e;cases e)];exact e
theorem zno (s:Same J J'):TupKeep J J':=λ a xs e=>s _ _ e
structure RH (H J:Hp)(lw lc la:Addr)(ws:List V)(n:Nat)(cs:List (Option (Int × Int))):Prop where
 same:Same H J
 fc:H lc=none
 fa:H la=none
 nwc:lw≠lc
 nwa:lw≠la
 nca:lc≠la
 wl:J lw=some (.lst ws)
 co:∃ cvs,J lc=some (.lst cvs)/\CostL J cvs cs
 ah:∃ avs,J la=some (.lst avs)/\avs.length=n
end
theorem znu {α:Type}(x:α):∀ k:Nat,(ua0 k [x]).flatten=ua0 k x
 | 0=>rfl
 | k+1=>by rw[udi,uea,znu x k];rfl
def ov:Option Int->V
 | none=>.non
 | some x=>.int x
theorem zg8 {D:List (Option Int)}{i:Nat}(h:i<D.length):(D.map ov)[i]?=some (ov (Far.get D i)):=by
 rw[uaj,uad h]
 unfold Far.get
 rw[uag,uad h];rfl
theorem zat {α:Type}{xs:List α}{i:Int}{x:α}(h0:0<=i)(h:xs[i.toNat]?=some x):atI xs i=some x:=by
 have hl:=(uak.mp h).1
 unfold atI ixN
 rw[if_pos h0,if_pos (by left)]
 exact h
theorem zfd {n:Nat}{i:Int}(h0:0<=i)(h:i<n):ixN n i=some i.toNat:=by
 unfold ixN;rw[if_pos h0,if_pos h]
inductive rRep1_i  (x:V) (y:V) (H:Hp) (Q:VK):Prop
 | mk:∀ l k z,(x=.ref l)->(y=.int k)->(H l=some (.lst [z]))->(0<=k)->(k<=1000)->(∀ p H',Same H H'->H p=none->H' p=some (.lst (ua0 k.toNat z))->Q (.ref p) H')->rRep1_i x y H Q
def rRep1 :R2:=λ x y H Q=>rRep1_i x y H Q
theorem zoa {X:Cx}:OpR X (binaryOp .Mult) rRep1:=by
 intro pins s σ H x y v u Q I rx ry h
 obtain⟨l,k,z,rfl,rfl,hH,h1,h2,q⟩:=h
 refine zt9 (X:=X) pins s σ H _ _ v u Q I rx ry ⟨l,k,_,rfl,rfl,hH,by left,by left,?_,λ p hp=>q p _ (zam hp) hp (by rw[zai,znu])⟩
 exact ubt (by show 1*k.toNat<=1000;left) (by decide:1000<=sizeLine)
theorem zbz {K:uac}{H:Hp}:∀ {ts:List Tie}{ws:List V}{k:Nat},IsAll K H (ts.map tieD) ws->k<ts.length->∃ a,ws[k]?=some (.ref a)/\H a=some (.tup [.int (tieAt ts k).1,.int (tieAt ts k).2.1,.int (tieAt ts k).2.2])
 | t::r,ws,0,h,_=>by
  obtain⟨v,vs,rfl,h1,_⟩:=h
  obtain⟨a,xs,rfl,ha,hx⟩:=h1
  have e:xs=(tieI t).map V.int:=IsAll.of_ints (ns:=tieI t) hx
  subst e
  exact⟨a,rfl,ha⟩
 | t::r,ws,k+1,h,hk=>by
  obtain⟨v,vs,rfl,_,h2⟩:=h
  obtain⟨a,e,ha⟩:=zbz (ts:=r) (ws:=vs) (k:=k) h2 (by simpa using hk)
  exact⟨a,e,ha⟩
theorem zd3 {K:uac}{H:Hp}{ks:List Nat}{v:V}(h:Is K H (keepD ks) v):∃ p,v=.ref p/\H p=some (.tup ((keepI ks).map V.int)):=by
 obtain⟨p,vs,rfl,hp,hx⟩:=h
 have e:=IsAll.of_ints hx
 subst e
 exact⟨p,rfl,hp⟩
theorem zox {ks:List Nat}{i:Nat}{x:V}(h:((keepI ks).map V.int)[i]?=some x):∃ k,ks[i]?=some k/\x=.int (k:Int):=by
 unfold keepI at h
 rw[uby,uaj] at h
 cases e:ks[i]? with
 | none=>rw[e] at h;cases h
 | some k=>rw[e] at h;cases h;exact⟨k,rfl,rfl⟩
theorem zph {H:Hp}{vs:List V}{cs:List (Option (Int × Int))}{i:Int}(h:CostL H vs cs)(h0:0<=i)(hi:i.toNat<cs.length):∃ v,atI vs i=some v/\CV H v (Far.get cs i.toNat):=by
 have hl:i.toNat<vs.length:=by rw[h.1];exact hi
 have e:vs[i.toNat]?=some vs[i.toNat]:=uad hl
 exact⟨_,zat h0 e,h.2 _ _ e⟩
def pows (m:Nat):List V:=(uaf m).map λ i=>V.int (2^i)
theorem zs4 {m i:Nat}(h:i<m):(pows m)[i]?=some (.int (2^i)):=by unfold pows;rw[uaj,ub9 h];rfl
theorem zn0 (m:Nat):pows (m+1)=pows m++[.int (2^m)]:=by unfold pows;rw[ucf,ucm];rfl
theorem zt2 {i:Nat}(h:i<60):(0:Int)<=2^i/\(2:Int)^i<=2^60:=by
 have e:((2^i:Nat):Int)=(2:Int)^i:=by norm_cast
 have:2^i<=2^60:=Nat.pow_le_pow_right (by decide) (by left)
 constructor
 ·rw[← e];exact uav _
 ·rw[← e];exact_mod_cast this
def spWeights (K:uac):Sp:=λ vs H Q _=>∃ n ts v,vs=[v]/\Is K H (webD n ts) v/\ts.length<=60/\∀ l H',Same H H'->H l=none->H' l=some (.lst (pows ts.length))->Q (.ref l) H'
def spCost (K:uac):Sp:=λ vs H Q _=>∃ c x y l w,vs=[.ref c,.int l,.int w]/\H c=some (.tup [.int x,.int y])/\∀ t H',Same H H'->H' t=some (.tup [.int (x+l),.int (y+w)])->Q (.ref t) H'
def WK (K:uac)(H:Hp)(n:Int)(ts:List Tie)(ks:List Nat)(wv kv:V):Prop:=Is K H (webD n ts) wv/\WebOk n ts/\Is K H (keepD ks) kv/\KeepOk ts.length ks
theorem WK.same {K:uac}{H H':Hp}{n:Int}{ts:List Tie}{ks:List Nat}{wv kv:V}(h:WK K H n ts ks wv kv)(s:Same H H'):WK K H' n ts ks wv kv:=⟨Is.same s _ h.1,h.2.1,Is.same s _ h.2.2.1,h.2.2.2⟩
def spReached (K:uac):Sp:=λ vs H Q _=>∃ n ts ks wv kv r,vs=[wv,kv,.int r]/\WK K H n ts ks wv kv/\0<=r/\r<n /\
 ∀ p lc la cvs avs cs H',Same H H'->H' p=some (.tup [.ref lc,.ref la])->H' lc=some (.lst cvs)->H' la=some (.lst avs)->CostL H' cvs cs->Far.Good (arcs ts ks) n.toNat r.toNat cs->Far.Stab (arcs ts ks) cs->Q (.ref p) H'
def spFars (K:uac):Sp:=λ vs H Q _=>∃ n ts ks wv kv r,vs=[wv,kv,.int r]/\WK K H n ts ks wv kv/\0<=r/\r<n /\
 ∀ l D H',Same H H'->H l=none->H' l=some (.lst (D.map ov))->D.length=n.toNat->(∀ v,v<n.toNat->Far.Dst (arcs ts ks) r.toNat v (Far.get D v))->Q (.ref l) H'
def spFar (K:uac):Sp:=λ vs H Q _=>∃ n ts ks wv kv a b,vs=[wv,kv,.int a,.int b]/\WK K H n ts ks wv kv/\0<=a/\a<n/\0<=b/\b<n /\
 ∀ o H',Same H H'->Far.Dst (arcs ts ks) a.toNat b.toNat o->Q (ov o) H'
end L3
namespace HT
open PySem PyProof.Rows
open Sem (wp)
section
variable {prog:Program}{w:World}{A:Around}{E:Value->Shared->Prop}{s:Shared}
end
end HT
namespace L3
open PySem PySem.Spec PyProof.Rows L2
def capO (roof:Int):Option Int->Int
 | none=>roof
 | some x=>if roof<x then roof else x
def IntT (H:Hp)(p:Addr)(hs:List Int):Prop:=H p=some (.tup (hs.map V.int))/\hs.length<=1000
def AllI (xs:List V):Prop:=∃ ns:List Int,xs=ns.map V.int
theorem zb8:∀ hs:List Int,PyData.canLayAll0 (hs.map .int)=true
 | []=>rfl
 | t::r=>by
  show (PyData.canLay0 (.int t)&&PyData.canLayAll0 (r.map .int))=true
  rw[zb8 r]
  rfl
theorem zje:∀ hs:List Int,PyData.depthAll (hs.map .int)<=1
 | []=>ube _
 | t::r=>by
  show max (PyData.depth (.int t)) (PyData.depthAll (r.map .int))<=1
  have h1:=zje r
  have h2:PyData.depth (.int t)<=1:=ubt (ufa (by rfl:PyData.depth (.int t)=0)) (by decide)
  left
def spHFrom (K:uac):Sp:=λ vs H Q _=>∃ n ts ks wv kv a roof,vs=[wv,kv,.int a,.int roof]/\WK K H n ts ks wv kv/\0<=a/\a<n /\
 ∀ (p:Addr)(D:List (Option Int))(H':Hp),Same H H'->H' p=some (.tup ((D.map (capO roof)).map V.int))->D.length=n.toNat->(∀ v,v<n.toNat->Far.Dst (arcs ts ks) a.toNat v (Far.get D v))->Q (.ref p) H'
section
variable {g:TG}{te:TE}{own:List Str}{js:List Nat}{σ:L2.St}{H1:Hp}{Q:VK}
end
section
variable {J:It}{g:TG}{tt:TT}{te:TE}{own:List Str}{js:List Nat}{σ:L2.St}{H1:Hp}{Q:VK}
theorem zh6 (n:Nat)(Sg:L2.St->Prop)(sel:Nat->Option V)(hn:n<=1000)(h0:Sg (start3 own js σ))
  (go:∀ i H',i<n->Same H1 H'->J.go i H') (stop:∀ H',Same H1 H'->J.stop n H')
  (step:∀ i x σ' H' H2,i<n->Same H1 H'->J.yld i H' x H2->Sg σ'->∀ (C:L2.St->V->Hp->Prop)(L:L2.St->Hp->Prop),(∀ σ3 v H5,Sg σ3->Same H' H5->sel i=some v->C σ3 v H5)->(∀ σ3 H5,Sg σ3->Same H' H5->sel i=none->L σ3 H5) ->
   g x σ' H2 λ σ3 H3=>tt σ3 H3 λ b H4=>if b=true then te σ3 H4 λ v H5=>C σ3 v H5 else L σ3 H4)
  (fin:∀ D H',H1 D=none->Same H1 H'->H' D=some (.lst ((uaf n).filterMap sel))->Q (.ref D) H'):CompGo own js g tt te σ Q J H1:=by
 intro D hD
 refine⟨λ i m ys σ' H'=>m=n-i/\i<=n/\Sg σ'/\Same H1 H'/\ys=(uaf i).filterMap sel,⟨n,rfl,ube _,h0,zam hD,rfl⟩,?_⟩
 rintro i m ys σ' H' ⟨rfl,hi,sg,sm,rfl⟩ hd
 have len:((uaf i).filterMap sel).length<=i:=by have:=ugy sel (uaf i);rw[uay] at this;exact this
 by_cases hlt:i<n
 ·refine .inr ⟨go i H' hlt sm,λ x H2 hy=>?_⟩
  refine step i x σ' H' H2 hlt sm hy sg
   (λ σ3 v H5=>H5 D=some (.lst ((uaf i).filterMap sel))/\((uaf i).filterMap sel).length<sizeLine/\∃ m',m'<n-i/\(m'=n-(i+1)/\i+1<=n/\Sg σ3/\Same H1 (upd H5 D (.lst ((uaf i).filterMap sel++[v])))/\(uaf i).filterMap sel++[v]=(uaf (i+1)).filterMap sel))
   (λ σ3 H5=>H5 D=some (.lst ((uaf i).filterMap sel))/\∃ m',m'<n-i/\(m'=n-(i+1)/\i+1<=n/\Sg σ3/\Same H1 H5/\(uaf i).filterMap sel=(uaf (i+1)).filterMap sel)) (λ σ3 v H5 sg3 s5 e=>?_) (λ σ3 H5 sg3 s5 e=>?_)
  ·refine⟨s5 _ _ hd,ubr (by left:((uaf i).filterMap sel).length<=1000) (by decide),n-(i+1),by left,rfl,hlt,sg3,λ b o z=>?_,?_⟩
   ·rw[zan (zak z hD)];exact s5 _ _ (sm _ _ z)
   ·rw[ucf,ucj];simp [e]
  ·refine⟨s5 _ _ hd,n-(i+1),by left,rfl,hlt,sg3,sm.trans s5,?_⟩
   rw[ucf,ucj];simp [e]
 ·have e:i=n:=by left
  subst e
  exact .inl ⟨stop H' sm,fin D H' hD sm hd⟩
theorem zpi {lo:Int}{n:Nat}(Sg:L2.St->Prop)(sel:Nat->Option V)(hn:n<=1000)(h0:Sg (start3 own js σ))
  (step:∀ i σ' H',i<n->Same H1 H'->Sg σ'->∀ (C:L2.St->V->Hp->Prop)(L:L2.St->Hp->Prop),(∀ σ3 v H5,Sg σ3->Same H' H5->sel i=some v->C σ3 v H5)->(∀ σ3 H5,Sg σ3->Same H' H5->sel i=none->L σ3 H5) ->
   g (.int (lo+i)) σ' H' λ σ3 H3=>tt σ3 H3 λ b H4=>if b=true then te σ3 H4 λ v H5=>C σ3 v H5 else L σ3 H4)
  (fin:∀ D H',H1 D=none->Same H1 H'->H' D=some (.lst ((uaf n).filterMap sel))->Q (.ref D) H'):CompGo own js g tt te σ Q (Itr lo n) H1:=by
 refine zh6 n Sg sel hn h0 (λ i H' hi s=>hi) (λ H' s=>uai _) (λ i x σ' H' H2 hi s hy sg C L hC hL=>?_) fin
 obtain⟨rfl,rfl⟩:=hy
 exact step i σ' _ hi s sg C L hC hL
theorem zjh {t:Bool}{K:uac}{a:Addr}{xs:List V}(hx:H1 a=some (if t=true then .tup xs else .lst xs))(Sg:L2.St->Prop)(sel:Nat->Option V)(hn:xs.length<=1000)(h0:Sg (start3 own js σ))
  (step:∀ i x T σ' H',xs[i]?=some x->Same H1 H'->H' T=none->Sg σ'->∀ (C:L2.St->V->Hp->Prop)(L:L2.St->Hp->Prop),(∀ σ3 v H5,Sg σ3->Same H' H5->sel i=some v->C σ3 v H5)->(∀ σ3 H5,Sg σ3->Same H' H5->sel i=none->L σ3 H5) ->
   g (.ref T) σ' (upd H' T (.tup [.int (i:Nat),x])) λ σ3 H3=>tt σ3 H3 λ b H4=>if b=true then te σ3 H4 λ v H5=>C σ3 v H5 else L σ3 H4)
  (fin:∀ D H',H1 D=none->Same H1 H'->H' D=some (.lst ((uaf xs.length).filterMap sel))->Q (.ref D) H'):CompGo own js g tt te σ Q (Itn t K a) H1:=by
 have s1:∀ H',Same H1 H'->SqX t K H' a xs:=λ H' s=>SqX.of (s _ _ hx)
 refine zh6 xs.length Sg sel hn h0 (λ i H' hi s=>⟨xs,xs[i],s1 H' s,by simp [hi]⟩) (λ H' s=>⟨xs,s1 H' s,uai _⟩) (λ i x σ' H' H2 hi s hy sg C L hC hL=>?_) fin
 obtain⟨T,y,hT,rfl,rfl,e⟩:=hy
 exact step i y T σ' H' (e _ (s1 H' s)) s hT sg C L hC hL
end
end L3
namespace Far
variable {A:List (Nat × Nat × Int)}{s:Nat}
theorem Walk.trans {u v:Nat}{x y:Int}(h:Walk A s u x)(k:Walk A u v y):Walk A s v (x+y):=by
 induction k with
 | nil=>rw[Int.add_zero];exact h
 | snoc _ m ih=>rw[← Int.add_assoc];exact .snoc ih m
def Con (A:List (Nat × Nat × Int))(s v:Nat):Prop:=∃ x,Walk A s v x
noncomputable def rB (A:List (Nat × Nat × Int))(s v:Nat):Bool:=@decide (Con A s v) (Classical.propDecidable _)
theorem Con.symm (S:Sym A){v:Nat}(h:Con A s v):Con A v s:=let ⟨x,w⟩:=h;⟨x,w.back S⟩
end Far
namespace L3
open PySem PySem.Spec PyProof.Rows L2
def natV (ns:List Nat):List V:=ns.map λ v:Nat=>V.int (v:Int)
def pieceD (ns:List Nat):PyData:=.tuple ((keepI ns).map .int)
def piecesD (pp:List (List Nat)):PyData:=.tuple (pp.map pieceD)
theorem zbg (ns:List Nat):natV ns=(keepI ns).map V.int:=by unfold natV keepI;rw[uby];rfl
theorem zl1 {K:uac}{H:Hp}{t:Addr}{ns:List Nat}(h:H t=some (.tup (natV ns))):Is K H (pieceD ns) (.ref t):=⟨t,_,rfl,h,by rw[zbg];exact IsAll.ints _⟩
theorem zeu {K:uac}{H:Hp}{ns:List Nat}{v:V}(h:Is K H (pieceD ns) v):∃ t,v=.ref t/\H t=some (.tup (natV ns)):=by
 obtain⟨p,e,hp⟩:=zd3 (ks:=ns) h
 exact⟨p,e,by rw[hp,zbg]⟩
theorem znl (ns:List Nat):tupD (pieceD ns)=true:=zqh ns
theorem zcq:∀ pp:List (List Nat),tupAll (pp.map pieceD)=true
 | []=>rfl
 | p::r=>by
  show (tupD (pieceD p)&&tupAll (r.map pieceD))=true
  rw[znl,zcq r];rfl
theorem zen (p:Nat->Bool):∀ is:List Nat,is.filterMap (λ i=>if p i=true then some (V.int (i:Int)) else none)=natV (is.filter p)
 | []=>rfl
 | i::r=>by
  rw[uca,uf3]
  cases e:p i with
  | true=>rw[if_pos rfl,if_pos rfl,zen p r];rfl
  | false=>rw[if_neg uau,if_neg uau,zen p r]
theorem IsAll.snoc {K:uac}{H:Hp}{d:PyData}{v:V}(hv:Is K H d v):∀ {ds:List PyData}{vs:List V},IsAll K H ds vs->IsAll K H (ds++[d]) (vs++[v])
 | [],_,h=>by
  have e:_=[]:=h
  subst e
  exact⟨v,[],rfl,hv,rfl⟩
 | _::_,_,⟨u,r,e,h1,h2⟩=>by
  subst e
  exact⟨u,r++[v],rfl,h1,IsAll.snoc hv h2⟩
theorem zd4 {a:Int}(h:0<=a)(ns:List Nat):inV (.int a) (natV ns)=decide (a.toNat∈ns):=by
 unfold inV natV
 rw[List.any_map,uc4,ucu,decide_eq_true_iff]
 constructor
 ·rintro ⟨v,hv,e⟩
  have e':((v:Int)==a)=true:=e
  have:(v:Int)=a:=by simpa using e'
  have e2:a.toNat=v:=by left
  rw[e2];exact hv
 ·intro m
  exact⟨_,m,show (((a.toNat:Nat):Int)==a)=true by rw[ua6 h];simp⟩
theorem zcw (ns:List Nat):(natV ns).all flatV=true:=by
 unfold natV;rw[uec];exact uci.mpr λ _ _=>rfl
end L3
namespace Srt
open PySem PySem.Spec PyProof.Rows PySem.W
section
variable {prog:Program}{w:World}{A:Around}{E:Value->Shared->Prop}{s:Shared}
end
end Srt
namespace HT
open PySem PyProof.Rows
section
variable {prog:Program}{w:World}{A:Around}{E:Value->Shared->Prop}{s:Shared}
theorem zk4 {Q:List Value->Shared->Prop}{r:Addr}{a b c:Int}{t u v:Tok}{n:Nat}(hh:A.handled=none)(hr:IsRange s.heap r a b c t u v)(hsmall:Builtin.Range.small a b c=true)
  (hn:Builtin.Range.rangeSize a b c=n) (hlen:n<=2^24)
  (hQ:∀ h' tk acc',(∀ b o,s.heap.get? b=some o->h'.get? b=some o)->ItemsOf (λ i v=>∃ t,v=.int (a+i*c) t) acc' n->Q acc'.toList { s with heap:=h',toks:=tk }) :
  wpAny (model prog w) A (collect (.ref r)) Q E s:=by
 unfold collect
 refine uab (uft (ubn ufz ?_))
 rw[Around.under_plainId ufy _]
 show wpAny _ A.in1 (newList [] >>= λ l=>again (.builtin "list.__iadd__" ⟨[l,.ref r],[]⟩)) _ _ s
 refine uab (ubu ?_)
 refine uah ⟨ucd udz _,ubn ugj ?_⟩
 rw[Around.under_plainId udz _]
 show wpAny _ A.in1 (Builtin.List.listExtendWith (.ref s.heap.objs.size) (.ref r) (.ref s.heap.objs.size)) _ _ _
 have hS:(s.heap.push { cls:=.type "list",data:=.seq ([]:List Value).toArray }).get? s.heap.objs.size=some { cls:=.type "list",data:=.seq #[] }:=Heap.get?_push_size _ rfl
 have fin' : ∀ (h' : Heap)(tk : Nat)(acc' : Array Value)(c' : Nat), (∀ b o, s.heap.get? b = some o → h'.get? b = some o) → h'.get? s.heap.objs.size = some { cls := .type "list", dict := none, data := .seq acc' c', slots := #[] } → ItemsOf (λ i v => ∃ t, v = .int (a+i*c) t) acc' n →
     wpAny (model prog w) A (load s.heap.objs.size >>= λ o=>match o.data with | .seq xs _=>pure xs.toList | _=>unsupported "internal:collect") Q E { s with heap:=h',toks:=tk }:=λ h' tk acc' c' hk hS' hacc=>uab (wpAny_load hS' (uah (hQ h' tk acc' hk hacc)))
 refine ucw (wpAny_extend_range (A:=A) (R:=λ r s'=>r=.ok (.ret (.ref s.heap.objs.size))/\∃ (h':Heap)(tk:Nat)(acc':Array Value)(c':Nat),s'={ s with heap:=h',toks:=tk }/\(∀ b o,s.heap.get? b=some o->h'.get? b=some o)/\h'.get? s.heap.objs.size=some { cls:=.type "list",dict:=none,data:=.seq acc' c',slots:=#[] }/\ItemsOf (λ i v=>∃ t,v=.int (a+i*c) t) acc' n)
  (s:={ s with heap:=s.heap.push { cls:=.type "list",data:=.seq ([]:List Value).toArray } }) hh (Heap.get?_push_of_some _ hr) hsmall hn hlen s.heap.objs.size (.ref s.heap.objs.size) 0 hS λ h' tk acc' c' hk hS' hacc=>⟨rfl,h',tk,acc',c',rfl,λ b o e=>hk b o (uas (Heap.lt_size e)) (Heap.get?_push_of_some _ e),hS',hacc⟩) (λ fin s' h=>?_) (λ e s' h=>?_)
 ·cases fin with
  | done f =>
   obtain⟨e,h',tk,acc',c',rfl,h1,h2,h3⟩:=h
   cases e
   exact fin' h' tk acc' c' h1 h2 h3
  | again c'=>exact⟨h.1,ud7 h.2 λ r s'' hr=>by obtain⟨rfl,h',tk,acc',c',rfl,h1,h2,h3⟩:=hr;exact fin' h' tk acc' c' h1 h2 h3⟩
 ·exact absurd h.1 (by simp)
end
theorem zdd (r:Addr)(a b c:Int)(t u v:Tok)(n:Nat)(hsmall:Builtin.Range.small a b c=true)(hn:Builtin.Range.rangeSize a b c=n)(hlen:n<=1000) :
  Meets (Builtin.«tuple.__new__» ⟨[.type "tuple",.ref r],[]⟩)
   (λ A R s=>A.handled=none/\IsRange s.heap r a b c t u v/\∀ (h':Heap)(tk:Nat)(acc':Array Value),(∀ b o',s.heap.get? b=some o'->h'.get? b=some o')->ItemsOf (λ i v=>∃ t,v=.int (a+i*c) t) acc' n->R (.ok (.ret (.ref h'.objs.size))) { s with heap:=h'.push { cls:=.type "tuple",data:=.seq acc' },toks:=tk }) :=
 .of_wp λ prog w A R s h=>by
  obtain⟨hp,g,d,tk,os⟩:=s;obtain⟨hh,hr,h⟩:=h
  have hsub:=sub_tuple_self
  have hinit:=init_tuple_lookup
  have hmh:=madeHere_tuple
  have hT:Shared.TypeIs ⟨hp,g,d,tk,os⟩ (.ref r) "range":=⟨_,hr,rfl⟩
  wp_walk using ud6 hT,zk4 (A:=A.in1) hh hr hsmall hn (ubt hlen (by decide))
  intro h' tk' acc' hk hacc
  show wpAny _ _ (Builtin.Tuple.tupleExact acc'.toList.toArray >>= λ v=>ret v) _ _ _
  unfold Builtin.Tuple.tupleExact
  have sz:acc'.size=n:=hacc.1
  refine uab (ubu ?_ (by show acc'.toList.toArray.size<=sizeLine;rw[show acc'.toList.toArray=acc' by simp,sz,uc9];left))
  refine uah ⟨_,rfl,?_⟩
  have e:acc'.toList.toArray=acc':=by simp
  rw[e]
  exact h h' tk' acc' hk hacc
section
variable {prog:Program}{w:World}{A:Around}{E:Value->Shared->Prop}{s:Shared}
theorem zeg {Q:Value->Shared->Prop}{r:Addr}{a b c:Int}{t u v:Tok}{n:Nat}(hh:A.handled=none)(hr:IsRange s.heap r a b c t u v)(hsmall:Builtin.Range.small a b c=true)
  (hn:Builtin.Range.rangeSize a b c=n) (hlen:n<=1000)
  (hQ:∀ (h':Heap)(tk:Nat)(acc':Array Value),(∀ b o,s.heap.get? b=some o->h'.get? b=some o)->ItemsOf (λ i v=>∃ t,v=.int (a+i*c) t) acc' n->Q (.ref h'.objs.size) { s with heap:=h'.push { cls:=.type "tuple",data:=.seq acc' },toks:=tk }) :
  wpAny (model prog w) A (call (.type "tuple") [.ref r]) Q E s :=
 callType_new PySem.F.called_tuple (by decide) (PySem.F.typeCall_tuple_1 _) (PySem.F.newCall_tuple_1 _) (λ obj=>PySem.F.args_object_init_2 obj _) PySem.F.entry_tuple_new
  (zdd r a b c t u v n hsmall hn hlen) ⟨hh,hr,λ h' tk acc' hk hacc=>⟨⟨_,Heap.get?_push_size _ rfl,rfl⟩,hQ h' tk acc' hk hacc⟩⟩
end
end HT
namespace L3
open PySem PySem.Spec PyProof.Rows L2
section
variable {X:Cx}
inductive call_tuple_rng_i  (xs:List V) (H:Hp) (Q:VK):Prop
 | mk:∀ (p:Addr)(j:Int),(xs=[.ref p])->(H p=some (.rng 0 j))->(0<=j)->(j<=1000)->(∀ l H',Same H H'->H l=none->H' l=some (.tup (natV (uaf j.toNat)))->Q (.ref l) H')->call_tuple_rng_i xs H Q
theorem zc8 (hh:X.calm=true):CallR X (.type "tuple") (call_tuple_rng_i):=by
 intro pins s σ H xs us Q I r h
 obtain⟨p,j,rfl,hp,hj0,hj,q⟩:=h
 obtain⟨u,rfl,rx⟩:=vals1 r
 cases rx
 obtain⟨t,u,v,e⟩:=(show ObjOk X.prog X.w H s.heap p (.rng 0 j) from I.hok p _ hp)
 refine HT.zeg (n:=j.toNat) (I.ok.hd hh) (show IsRange s.heap p 0 j 1 t u v from e) (small_one (by left) (by left) (by left) (by left)) (by rw[rangeSize_one];split <;> left) (by left) λ h' tk acc hk hacc=>?_
 have I1:Inv X pins σ H { s with heap:=h',toks:=tk }:=I.kept (t':=tk) hk
 have fr:H h'.objs.size=none:=I1.hok.fresh (uai _)
 refine⟨.ref h'.objs.size,upd H h'.objs.size (.tup (natV (uaf j.toNat))),I1.laid (t':=tk) (o:=.tup (natV (uaf j.toNat))) (λ b o e=>Heap.get?_push_of_some _ e) (uai _) ⟨?_,acc.toList,?_,(by rw[show acc.toList.toArray=acc by simp];exact⟨_,Heap.get?_push_size _ rfl,rfl,⟨_,rfl⟩,rfl⟩)⟩,rfl,q _ _ (zam fr) fr zai⟩
 ·unfold natV;rw[uae,uay,uc9];left
 ·have go:∀ (n:Nat)(l:List Value),l.length=n->(∀ (k:Nat)(v:Value),l[k]?=some v->∃ t,v=Value.int (0+(k:Int)*1) t)->Vals ((uaf n).map λ i:Nat=>V.int (i:Int)) l:=by
   intro n l hl hv
   have gen:∀ (l:List Value)(o:Nat),(∀ (k:Nat)(v:Value),l[k]?=some v->∃ t,v=Value.int ((o+k:Nat):Int) t)->Vals ((List.range' o l.length).map λ i:Nat=>V.int (i:Int)) l:=by
    intro l
    induction l with
    | nil=>intro o _;exact .nil
    | cons x r ih =>
     intro o h
     rw[ucp,List.range'_succ,ubg]
     obtain⟨t,ht⟩:=h 0 x rfl
     refine .cons ⟨t,by simpa using ht⟩ (ih (o+1) λ k v hk=>?_)
     obtain⟨t,ht⟩:=h (k+1) v (by simpa using hk)
     exact⟨t,by rw[ht];congr 1;left⟩
   have:=gen l 0 λ k v hk=>by
    obtain⟨t,ht⟩:=hv k v hk
    exact⟨t,by rw[ht];congr 1;left⟩
   rw[hl,← List.range_eq_range'] at this
   exact this
  exact go j.toNat acc.toList (by rw[ub0];exact hacc.1) λ k v hv=>hacc.2 k v (by simpa using hv)
theorem zlu:OpR X (binaryOp .FloorDiv) (rI (λ _ j=>0<j/\j<=10^19) λ i j=>.int (i / j)):=opI λ i j _ _ _ _ _ hc q=>by
 have h1:(0:Int)<j:=hc.1
 have h2:j<=10^19:=hc.2
 exact floordiv_int (by left) (by rw[ugs i (by left)];exact q) (.inl (PyProof.noPylong_of_log2 (ue8 (zoq (by left) h2) (by decide))))
end
section
variable {g:TG}{tt:TT}{te:TE}{own:List Str}{js:List Nat}{σ:L2.St}{H1:Hp}{Q:VK}
theorem zjg {K:uac}{a:Addr}{xs:List V}(hx:H1 a=some (.tup xs))(Sg:L2.St->Prop)(sel:Nat->Option V)(hn:xs.length<=1000)(h0:Sg (start3 own js σ))
  (step:∀ i x σ' H',xs[i]?=some x->Same H1 H'->Sg σ'->∀ (C:L2.St->V->Hp->Prop)(L:L2.St->Hp->Prop),(∀ σ3 v H5,Sg σ3->Same H' H5->sel i=some v->C σ3 v H5)->(∀ σ3 H5,Sg σ3->Same H' H5->sel i=none->L σ3 H5) ->
   g x σ' H' λ σ3 H3=>tt σ3 H3 λ b H4=>if b=true then te σ3 H4 λ v H5=>C σ3 v H5 else L σ3 H4)
  (fin:∀ D H',H1 D=none->Same H1 H'->H' D=some (.lst ((uaf xs.length).filterMap sel))->Q (.ref D) H'):CompGo own js g tt te σ Q (Itt K a) H1:=by
 refine zh6 xs.length Sg sel hn h0 (λ i H' hi s=>⟨xs,xs[i],SqT.of (s _ _ hx),by simp [hi]⟩) (λ H' s=>⟨xs,SqT.of (s _ _ hx),uai _⟩) (λ i x σ' H' H2 hi s hy sg C L hC hL=>?_) fin
 obtain⟨rfl,hy⟩:=hy
 exact step i x σ' _ (hy xs (SqT.of (s _ _ hx))) s sg C L hC hL
end
def outs (m:Nat)(ks:List Nat):List Nat:=(uaf m).filter λ k=>decide (k∉ks)
theorem outs_mem {m k:Nat}{ks:List Nat}:k∈outs m ks↔k<m/\k∉ks:=by unfold outs;rw[ubl,uaq,decide_eq_true_iff]
theorem zq2 (m:Nat)(ks:List Nat):(outs m ks).length<=m:=by
 have:=udr (λ k=>decide (k∉ks)) (uaf m)
 rw[uay] at this;exact this
noncomputable def gO (ts:List Tie)(ks:List Nat)(k:Nat):Option Int :=
 @dite (Option Int) (∃ o,Far.Dst (arcs ts ks) (tieAt ts k).1.toNat (tieAt ts k).2.1.toNat o) (Classical.propDecidable _) (λ h=>Classical.choose h) λ _=>none
theorem zrm {ts:List Tie}{ks:List Nat}{k:Nat}{o:Option Int}(h:Far.Dst (arcs ts ks) (tieAt ts k).1.toNat (tieAt ts k).2.1.toNat o):gO ts ks k=o:=by
 unfold gO
 have ex:∃ o,Far.Dst (arcs ts ks) (tieAt ts k).1.toNat (tieAt ts k).2.1.toNat o:=⟨o,h⟩
 rw[dif_pos ex]
 exact Far.Dst.unique (Classical.choose_spec ex) h
def ratF (G:Nat->Option Int)(ts:List Tie):List Nat->Int × Int->Option (Int × Int)
 | [],e=>some e
 | k::r,e=>match G k with
  | none=>none
  | some g=>ratF G ts r (if e.1*(tieAt ts k).2.2<g*e.2 then (g,(tieAt ts k).2.2) else e)
def lowest (e:Int × Int):Int × Int:=(e.1 / ((uda e.1.toNat e.2.toNat:Nat):Int),e.2 / ((uda e.1.toNat e.2.toNat:Nat):Int))
noncomputable def ratio (ts:List Tie)(ks:List Nat):Option (Int × Int):=(ratF (gO ts ks) ts (outs ts.length ks) (1,1)).map lowest
def spWhole (K:uac):Sp:=λ vs H Q _=>∃ n ts v,vs=[v]/\Is K H (webD n ts) v/\ts.length<=60/\∀ l H',Same H H'->H l=none->H' l=some (.tup (natV (uaf ts.length)))->Q (.ref l) H'
def spOuts (K:uac):Sp:=λ vs H Q _=>∃ n ts ks wv kv,vs=[wv,kv]/\WK K H n ts ks wv kv/\∀ l H',Same H H'->H l=none->H' l=some (.lst (natV (outs ts.length ks)))->Q (.ref l) H'
def spGcd:Sp:=λ vs H Q _=>∃ p q:Int,vs=[.int p,.int q]/\0<=p/\0<=q/\Q (.int ((uda p.toNat q.toNat:Nat):Int)) H
def spRatio (K:uac):Sp:=λ vs H Q _=>∃ n ts ks wv kv,vs=[wv,kv]/\WK K H n ts ks wv kv/\∀ v H',Same H H'->CV H' v (ratio ts ks)->Q v H'
theorem zrl {p q:Int}(h0:0<=p)(h1:0<q):uda q.toNat (p%q).toNat=uda p.toNat q.toNat:=by
 have e:(p%q).toNat=p.toNat%q.toNat:=by
  rw[Int.toNat_emod h0 (by left)]
 rw[e,Nat.gcd_comm p.toNat,Nat.gcd_rec q.toNat p.toNat,Nat.gcd_comm]
theorem zb7 {ns:List Nat}{i:Nat}{x:V}(h:(natV ns)[i]?=some x):∃ k,ns[i]?=some k/\x=.int (k:Int):=by
 rw[zbg] at h;exact zox h
end L3
namespace Far
variable {A:List (Nat × Nat × Int)}{s:Nat}
structure Ahd (A:List (Nat × Nat × Int))(s:Nat)(cs:List (Option (Int × Int)))(as:List (Option Nat)):Prop where
 len:as.length=cs.length
 root:get as s=none
 has:∀ v c,get cs v=some c->v≠s->get as v≠none
 arc:∀ v u,get as v=some u->∃ l cu cv,(u,v,l)∈A/\get cs u=some cu/\get cs v=some cv/\cu.1+l<=cv.1
inductive Tr (A:List (Nat × Nat × Int))(a:Nat):List Nat->Nat->Int->Prop
 | one:Tr A a [a] a 0
 | snoc {ws:List Nat} {u v:Nat} {x l:Int}:Tr A a ws u x->(u,v,l)∈A->Tr A a (ws++[v]) v (x+l)
def beyond (n:Nat)(cs:List (Option (Int × Int)))(d:Int):Nat:=(uaf n).countP λ v=>match get cs v with | none=>false | some c=>decide (d<=c.1)
theorem zp0 {n u:Nat}{cs:List (Option (Int × Int))}{cu:Int × Int}{d:Int}(hu:u<n)(e:get cs u=some cu)(h:cu.1<d):beyond n cs d<beyond n cs cu.1:=by
 refine zco (λ v _ hv=>?_) ⟨u,uaq.mpr hu,?_,?_⟩
 ·cases e2:get cs v with
  | none=>rw[e2] at hv;cases hv
  | some c=>rw[e2] at hv;have:=of_decide_eq_true hv;exact decide_eq_true (by left)
 ·rw[e];exact decide_eq_true (ubf _)
 ·rw[e];exact decide_eq_false (by left)
theorem zjr (n:Nat)(cs:List (Option (Int × Int)))(d:Int):beyond n cs d<=n:=by
 have:=List.countP_le_length (p:=λ v=>match get cs v with | none=>false | some c=>decide (d<=c.1)) (l:=uaf n)
 rw[uay] at this;exact this
theorem zm4 {n u:Nat}{cs:List (Option (Int × Int))}{cu:Int × Int}(hu:u<n)(e:get cs u=some cu):1<=beyond n cs cu.1 :=
 List.countP_pos_iff.mpr ⟨u,uaq.mpr hu,by rw[e];exact decide_eq_true (ubf _)⟩
end Far
namespace L3
open PySem PySem.Spec PyProof.Rows L2
theorem ziv (ns:List Int):∀ i,i<=ns.length->preSum (λ i=>ns.getD i 0) i=(ns.take i).sum
 | 0,_=>rfl
 | i+1,h=>by
  have e:ns[i]?=some ns[i]:=uad (by left)
  show preSum _ i+ns.getD i 0=_
  rw[ziv ns i (by left),zdh e,List.sum_append,uag,e]
  simp
inductive call_sumA_i  (xs:List V) (H:Hp) (Q:VK):Prop
 | mk:∀ (p:Addr)(ns:List Int),(xs=[.ref p])->(H p=some (.lst (ns.map V.int)))->(Q (.int ns.sum) H)->call_sumA_i xs H Q
theorem zpp {X:Cx}(hh:X.calm=true):CallR X (.builtin "sum") (call_sumA_i):=by
 intro pins s σ H xs us Q I r h
 obtain⟨p,ns,rfl,hq,q⟩:=h
 obtain⟨u,rfl,rx⟩:=vals1 r
 cases rx
 obtain⟨its,rv,pl,hz⟩:=I.list (SqL.of hq)
 have hl:=rv.length
 rw[uae] at hl
 have hI:IntsAre its ns:=zbd rv
 have lt:p≠s.heap.objs.size:=by obtain⟨o,e,_⟩:=pl.isList;exact uas (Heap.lt_size e)
 refine call_sum_walkAnyS (uct pl.isList ?_)
 have W:=(Walks.list (prog:=X.prog) (w:=X.w) (A:=X.A.in1) (show X.A.in1.handled=none from I.ok.hd hh) s.heap.objs.size p lt its.toArray).toS
 refine⟨s.heap.objs.size,_,_,_,_,_,_,(λ i=>ns.getD i 0),rfl,W,⟨⟨_,Heap.get?_push_size _ rfl,rfl,rfl⟩,pl.isList.push _⟩,λ b hb=>?_,λ i v hv=>?_,λ s' t' hm=>?_⟩
 ·obtain⟨o,e,_⟩:=pl.isList
  have hlt:p<s.heap.objs.size:=Heap.lt_size e
  show b<(s.heap.push _).objs.size
  rw[Heap.size_push]
  simp only [uam,ua1,or_false] at hb
  rcases hb with z | z
  ·rw[z];exact ub2 _
  ·rw[z];exact ubz hlt
 ·exact IntsAre.int_at hI i v (by simpa using hv)
 ·rw[Moved.eq_with hm]
  refine⟨.int ns.sum,H,I.kept (t':=s'.toks) λ b o e=>hm.heap b o (λ z=>?_) (Heap.get?_push_of_some _ e),⟨t',?_⟩,q⟩
  ·have:b=s.heap.objs.size:=by simpa using z
   exact absurd (Heap.lt_size e) (by rw[this];exact ubs _)
  ·rw[show its.toArray.size=ns.length by rw[uap,← hl],ziv ns _ (uai _),uex]
def oa:Option Nat->V
 | none=>.non
 | some u=>.int (u:Int)
structure RA (H J:Hp)(lw lc la:Addr)(ws:List V)(cs:List (Option (Int × Int)))(as:List (Option Nat)):Prop where
 same:Same H J
 fc:H lc=none
 fa:H la=none
 nwc:lw≠lc
 nwa:lw≠la
 nca:lc≠la
 wl:J lw=some (.lst ws)
 co:∃ cvs,J lc=some (.lst cvs)/\CostL J cvs cs
 ah:J la=some (.lst (as.map oa))
section
variable {H H' J J':Hp}{vs cvs ws:List V}{cs:List (Option (Int × Int))}{as:List (Option Nat)}{lw lc la t:Addr}{k:Nat}{x y:Int}
theorem RA.step (h:RA H J lw lc la ws cs as)(s:Same J J'):RA H J' lw lc la ws cs as :=
 ⟨h.same.trans s,h.fc,h.fa,h.nwc,h.nwa,h.nca,s _ _ h.wl,let ⟨c,e,z⟩:=h.co;⟨c,s _ _ e,z.keep (zno s)⟩,s _ _ h.ah⟩
theorem RA.put (h:RA H J lw lc la ws cs as)(hc:J lc=some (.lst cvs))(hk:k<cvs.length)(ht:J t=some (.tup [.int x,.int y])):RA H (upd J lc (.lst (cvs.set k (.ref t)))) lw lc la ws (cs.set k (some (x,y))) as:=by
 obtain⟨c,e,z⟩:=h.co
 rw[hc] at e;cases e
 refine⟨λ b o eb=>?_,h.fc,h.fa,h.nwc,h.nwa,h.nca,?_,⟨_,zai,CostL.set (z.keep (ziq hc)) hk ⟨t,rfl,ziq hc _ _ ht⟩⟩,?_⟩
 ·rw[zan (zak eb h.fc)];exact h.same _ _ eb
 ·rw[zan h.nwc];exact h.wl
 ·rw[zan h.nca.symm];exact h.ah
theorem RA.mark {u:Nat}(h:RA H J lw lc la ws cs as):RA H (upd J la (.lst ((as.map oa).set k (.int (u:Int))))) lw lc la ws cs (as.set k (some u)):=by
 obtain⟨c,e,z⟩:=h.co
 refine⟨λ b o eb=>?_,h.fc,h.fa,h.nwc,h.nwa,h.nca,?_,⟨c,?_,z.keep (ziq h.ah)⟩,?_⟩
 ·rw[zan (zak eb h.fa)];exact h.same _ _ eb
 ·rw[zan h.nwa];exact h.wl
 ·rw[zan h.nca];exact e
 ·rw[zai,List.map_set];rfl
end
theorem zmq {D:List (Option Nat)}{i:Nat}(h:i<D.length):(D.map oa)[i]?=some (oa (Far.get D i)):=by
 rw[uaj,uad h]
 unfold Far.get
 rw[uag,uad h];rfl
def WayV (H:Hp)(A:List (Nat × Nat × Int))(a b:Nat)(v:V):Prop:=(v=.non/\Far.Dst A a b none)\/∃ t ws x,v=.ref t/\H t=some (.tup (natV ws))/\ws.length<=24/\Far.Tr A a ws b x/\Far.Dst A a b (some x)
def isTB (ts:List Tie)(u v:Nat)(k:Nat):Bool:=decide ((tieAt ts k).1=min (u:Int) v)&&decide ((tieAt ts k).2.1=max (u:Int) v)
def tbN (ts:List Tie)(u v:Nat):Option Nat:=(uaf ts.length).find? (isTB ts u v)
theorem ztu {n:Int}{ts:List Tie}{ks:List Nat}(ok:WebOk n ts)(ko:KeepOk ts.length ks){u v:Nat}{l:Int}(h:(u,v,l)∈arcs ts ks):∃ k,tbN ts u v=some k/\k<ts.length/\(tieAt ts k).2.2=l:=by
 obtain⟨k,hk,m⟩:=arcs_mem.mp h
 have hkl:=ko.2 k hk
 have tk:=ok.tie _ (za6 hkl).2
 have isk:isTB ts u v k=true/\(tieAt ts k).2.2=l:=by
  unfold isTB
  rcases arcs2_mem.mp m with e | e
  ·have e1:u=(tieAt ts k).1.toNat:=congrArg (·.1) e
   have e2:v=(tieAt ts k).2.1.toNat:=congrArg (·.2.1) e
   have e3:l=(tieAt ts k).2.2:=congrArg (·.2.2) e
   have eu:(u:Int)=(tieAt ts k).1:=by rw[e1];exact ua6 tk.1
   have ev:(v:Int)=(tieAt ts k).2.1:=by rw[e2];exact ua6 (udj (Int.lt_of_le_of_lt tk.1 tk.2.1))
   rw[eu,ev,Int.min_eq_left (udj tk.2.1),Int.max_eq_right (udj tk.2.1)]
   exact⟨by rw[decide_eq_true rfl,decide_eq_true rfl];rfl,e3.symm⟩
  ·have e1:u=(tieAt ts k).2.1.toNat:=congrArg (·.1) e
   have e2:v=(tieAt ts k).1.toNat:=congrArg (·.2.1) e
   have e3:l=(tieAt ts k).2.2:=congrArg (·.2.2) e
   have eu:(u:Int)=(tieAt ts k).2.1:=by rw[e1];exact ua6 (udj (Int.lt_of_le_of_lt tk.1 tk.2.1))
   have ev:(v:Int)=(tieAt ts k).1:=by rw[e2];exact ua6 tk.1
   rw[eu,ev,Int.min_eq_right (udj tk.2.1),Int.max_eq_left (udj tk.2.1)]
   exact⟨by rw[decide_eq_true rfl,decide_eq_true rfl];rfl,e3.symm⟩
 cases e:tbN ts u v with
 | none =>
  have:=List.find?_eq_none.mp e k (uaq.mpr hkl)
  exact absurd isk.1 this
 | some k' =>
  have p:=List.find?_some e
  have hk':k'<ts.length:=uaq.mp (ugr e)
  refine⟨k',rfl,hk',?_⟩
  have same:k'=k:=by
   have q1:=p
   have q2:=isk.1
   unfold isTB at q1 q2
   rw[ucb] at q1 q2
   have a1:=of_decide_eq_true q1.1
   have a2:=of_decide_eq_true q1.2
   have b1:=of_decide_eq_true q2.1
   have b2:=of_decide_eq_true q2.2
   have ri:=ucg.mp ok.rise
   have g:∀ j (hj:j<ts.length),ts[j]=tieAt ts j:=λ j hj=>by
    have:=(za6 hj).1
    rw[uad hj] at this
    exact ubj this
   rcases uet k' k with z | z | z
   ·have:=ri k' k hk' hkl z
    rw[g k' hk',g k hkl] at this
    exact (this.elim (λ z=>uf6 z (a1.trans b1.symm)) λ z=>uf6 z.2 (a2.trans b2.symm)).elim
   ·exact z
   ·have:=ri k k' hkl hk' z
    rw[g k' hk',g k hkl] at this
    exact (this.elim (λ z=>uf6 z (b1.trans a1.symm)) λ z=>uf6 z.2 (b2.trans a2.symm)).elim
  rw[same];exact isk.2
def tlen (ts:List Tie)(u v:Nat):Int:=(tieAt ts ((tbN ts u v).getD 0)).2.2
def wl (ts:List Tie):List Nat->Int
 | u::v::r=>tlen ts u v+wl ts (v::r)
 | _=>0
def linked (ts:List Tie):List Nat->Prop
 | u::v::r=>(∃ k,tbN ts u v=some k/\k<ts.length)/\linked ts (v::r)
 | _=>True
theorem zss {A:List (Nat × Nat × Int)}{a v:Nat}{ws:List Nat}{x:Int}(h:Far.Tr A a ws v x):∃ r,ws=r++[v]:=by
 cases h with
 | one=>exact⟨[],rfl⟩
 | snoc _ _=>exact⟨_,rfl⟩
theorem znd (ts:List Tie)(u v:Nat):∀ r:List Nat,wl ts (r++[u]++[v])=wl ts (r++[u])+tlen ts u v
 | []=>by show tlen ts u v+0=0+tlen ts u v;left
 | [a]=>by show tlen ts a u+(tlen ts u v+0)=tlen ts a u+0+tlen ts u v;left
 | a::b::r=>by
  have:=znd ts u v (b::r)
  show tlen ts a b+wl ts ((b::r)++[u]++[v])=tlen ts a b+wl ts ((b::r)++[u])+tlen ts u v
  rw[this];left
theorem ze7 (ts:List Tie)(u v:Nat)(h:∃ k,tbN ts u v=some k/\k<ts.length):∀ r:List Nat,linked ts (r++[u])->linked ts (r++[u]++[v])
 | [],_=>⟨h,trivial⟩
 | [a],hl=>⟨hl.1,h,trivial⟩
 | a::b::r,hl=>⟨hl.1,ze7 ts u v h (b::r) hl.2⟩
theorem zsr {n:Int}{ts:List Tie}{ks:List Nat}(ok:WebOk n ts)(ko:KeepOk ts.length ks){a v:Nat}{ws:List Nat}{x:Int}(h:Far.Tr (arcs ts ks) a ws v x):wl ts ws=x/\linked ts ws:=by
 induction h with
 | one=>exact⟨rfl,trivial⟩
 | @snoc ws u v x l t m ih =>
  obtain⟨r,rfl⟩:=zss t
  obtain⟨k,e1,e2,e3⟩:=ztu ok ko m
  refine⟨?_,ze7 ts u v ⟨k,e1,e2⟩ r ih.2⟩
  rw[znd,ih.1]
  unfold tlen
  rw[e1]
  show x+(tieAt ts k).2.2=x+l
  rw[e3]
theorem ze8 {ts:List Tie}:∀ {ws:List Nat}{i u v:Nat},linked ts ws->ws[i]?=some u->ws[i+1]?=some v->∃ k,tbN ts u v=some k/\k<ts.length
 | a::b::r,0,u,v,h,e1,e2=>by cases e1;cases e2;exact h.1
 | a::b::r,i+1,u,v,h,e1,e2=>ze8 (ws:=b::r) (i:=i) h.2 (by simpa using e1) (by simpa using e2)
 | [a],0,u,v,_,_,e2=>by cases e2
 | [a],i+1,u,v,_,e1,_=>by cases e1
 | [],i,u,v,_,e1,_=>by cases e1
def alongN (ts:List Tie)(ws:List Nat):List Nat:=(uaf (ws.length-1)).map λ i=>(tbN ts (ws.getD i 0) (ws.getD (i+1) 0)).getD 0
theorem zna (ts:List Tie)(u v:Nat)(r:List Nat):alongN ts (u::v::r)=(tbN ts u v).getD 0::alongN ts (v::r):=by
 unfold alongN
 show (uaf (r.length+1)).map _=_
 rw[List.range_succ_eq_map,ubg,uby]
 rfl
theorem zj5 (ts:List Tie):∀ ws:List Nat,((alongN ts ws).map λ k=>(tieAt ts k).2.2).sum=wl ts ws
 | []=>rfl
 | [_]=>rfl
 | u::v::r=>by
  rw[zna,ubg,List.sum_cons,zj5 ts (v::r)];rfl
def spTB (K:uac):Sp:=λ vs H Q _=>∃ (n:Int)(ts:List Tie)(wv:V)(u v:Nat),vs=[wv,.int (u:Int),.int (v:Int)]/\Is K H (webD n ts) wv/\ts.length<=60/\∀ H',Same H H'->Q (oa (tbN ts u v)) H'
def spAlong (K:uac):Sp:=λ vs H Q _=>∃ (n:Int)(ts:List Tie)(wv:V)(t:Addr)(ws:List Nat),vs=[wv,.ref t]/\Is K H (webD n ts) wv/\ts.length<=60/\H t=some (.tup (natV ws))/\ws.length<=24/\linked ts ws/\∀ l H',Same H H'->H' l=some (.lst (natV (alongN ts ws)))->Q (.ref l) H'
def spWLen (K:uac):Sp:=λ vs H Q _=>∃ (n:Int)(ts:List Tie)(wv:V)(t:Addr)(ws:List Nat),vs=[wv,.ref t]/\Is K H (webD n ts) wv/\ts.length<=60/\H t=some (.tup (natV ws))/\ws.length<=24/\linked ts ws/\∀ H',Same H H'->Q (.int (wl ts ws)) H'
theorem zr5 {ts:List Tie}{ws:List Nat}(h:linked ts ws):∀ k∈alongN ts ws,k<ts.length:=λ k hk=>by
 unfold alongN at hk
 obtain⟨i,hi,rfl⟩:=ubx.mp hk
 have hi':=uaq.mp hi
 have e1:ws[i]?=some (ws.getD i 0):=by rw[uag,uad (by left)];rfl
 have e2:ws[i+1]?=some (ws.getD (i+1) 0):=by rw[uag,uad (by left)];rfl
 obtain⟨k,e,hk⟩:=ze8 h e1 e2
 rw[e];exact hk
theorem zq1 (a b x y:Int):PyData.eqv (.tuple (([a,b]:List Int).map .int)) (.tuple (([x,y]:List Int).map .int))=(decide (a=x)&&decide (b=y)):=by
 show (_&&(_&&true))=_
 rw[Bool.and_true]
 rfl
def but (ks:List Nat)(k:Nat):List Nat:=ks.filter λ j=>decide (j≠k)
def withinB (t l:Int):Option Int->Bool
 | none=>false
 | some x=>decide (x<=t*l)
def spNeed (K:uac):Sp:=λ vs H Q _=>∃ t:Int,vs=[.int t]/\1<=t/\t<=99/\∀ H',Same H H'->Q .non H'
def spWithin (K:uac):Sp:=λ vs H Q _=>∃ (n:Int)(ts:List Tie)(ks:List Nat)(wv:V)(k:Nat)(t:Int)(v:V),vs=[wv,.int (k:Int),.int t,v]/\Is K H (webD n ts) wv/\WebOk n ts/\KeepOk ts.length ks/\k<ts.length/\1<=t/\t<=99 /\
 WayV H (arcs ts ks) (tieAt ts k).1.toNat (tieAt ts k).2.1.toNat v/\∀ H',Same H H'->Q (.bl (withinB t (tieAt ts k).2.2 (gO ts ks k))) H'
end L3
namespace Far
def sumP:List Nat->Nat
 | []=>0
 | k::r=>2^k+sumP r
theorem zdi {S S':List Nat}(h:S.Perm S'):sumP S=sumP S':=by
 induction h with
 | nil=>rfl
 | cons x _ ih=>show _+_=_+_;rw[ih]
 | swap x y l=>show 2^y+(2^x+sumP l)=2^x+(2^y+sumP l);left
 | trans _ _ h1 h2=>exact h1.trans h2
theorem zkc (S:List Nat):∀ T:List Nat,sumP (S++T)=sumP S+sumP T:=by
 intro T
 induction S with
 | nil=>show sumP T=0+sumP T;left
 | cons k r ih=>show 2^k+sumP (r++T)=2^k+sumP r+sumP T;rw[ih];left
theorem zg0:∀ (m:Nat){S:List Nat},S.Nodup->(∀ k∈S,k<m)->sumP S<2^m
 | 0,S,_,h=>by
  cases S with
  | nil=>exact Nat.zero_lt_one
  | cons k r=>exact absurd (h k ual) (uej _)
 | m+1,S,nd,h=>by
  have e:2^(m+1)=2^m+2^m:=by rw[Nat.pow_succ];left
  by_cases c:m∈S
  ·have p:=uds c
   have nd':(m::S.erase m).Nodup:=p.nodup_iff.mp nd
   have:=zg0 m (S:=S.erase m) (ucl.mp nd').2 λ k hk=>by
    have h1:=h k (ue4 hk)
    have h2:k≠m:=λ z=>(ucl.mp nd').1 (z ▸ hk)
    left
   rw[zdi p,e]
   show 2^m+sumP (S.erase m)<_
   left
  ·have:=zg0 m nd λ k hk=>by
    have h1:=h k hk
    have h2:k≠m:=λ z=>c (z ▸ hk)
    left
   left
theorem zg1:∀ (m:Nat){S S':List Nat},S.Nodup->S'.Nodup->(∀ k∈S,k<m)->(∀ k∈S',k<m)->sumP S=sumP S'->∀ k,k∈S->k∈S'
 | 0,S,S',_,_,h,_,_,k,hk=>absurd (h k hk) (uej _)
 | m+1,S,S',nd,nd',h,h',e,k,hk=>by
  have lower:∀ {T:List Nat},T.Nodup->(∀ k∈T,k<m+1)->m∉T->sumP T<2^m:=λ {T} n1 n2 n3=>zg0 m n1 λ j hj=>by
   have h1:=n2 j hj
   have h2:j≠m:=λ z=>n3 (z ▸ hj)
   left
  by_cases c:m∈S
  ·have p:=uds c
   have ndp:(m::S.erase m).Nodup:=p.nodup_iff.mp nd
   have e1:sumP S=2^m+sumP (S.erase m):=zdi p
   by_cases c':m∈S'
   ·have p':=uds c'
    have ndp':(m::S'.erase m).Nodup:=p'.nodup_iff.mp nd'
    have e2:sumP S'=2^m+sumP (S'.erase m):=zdi p'
    by_cases z:k=m
    ·rw[z];exact c'
    ·have lt:∀ {T:List Nat},(m::T.erase m).Nodup->(∀ k∈T,k<m+1)->∀ j∈T.erase m,j<m:=λ {T} n1 n2 j hj=>by
      have h1:=n2 j (ue4 hj)
      have h2:j≠m:=λ y=>(ucl.mp n1).1 (y ▸ hj)
      left
     have:=zg1 m (ucl.mp ndp).2 (ucl.mp ndp').2 (lt ndp h) (lt ndp' h') (by left) k ((List.mem_erase_of_ne z).mpr hk)
     exact ue4 this
   ·have:=lower nd' h' c'
    left
  ·by_cases c':m∈S'
   ·have e2:sumP S'=2^m+sumP (S'.erase m):=zdi (uds c')
    have:=lower nd h c
    left
   ·have lt:∀ {T:List Nat},(∀ k∈T,k<m+1)->m∉T->∀ j∈T,j<m:=λ {T} n1 n2 j hj=>by
     have h1:=n1 j hj
     have h2:j≠m:=λ y=>n2 (y ▸ hj)
     left
    exact zg1 m nd nd' (lt h c) (lt h' c') e k hk
abbrev Arc:=Nat × Nat × Int × Nat
inductive Rt (B:List Arc)(a:Nat):List Nat->List Nat->Nat->Int->Int->Prop
 | one:Rt B a [a] [] a 0 0
 | snoc {ws S:List Nat} {u v:Nat} {x y l:Int} {k:Nat}:Rt B a ws S u x y->(u,v,l,k)∈B->v∉ws->Rt B a (ws++[v]) (S++[k]) v (x+l) (y+2^k)
structure Keys (B:List Arc):Prop where
 sym:∀ u v l k,(u,v,l,k)∈B->(v,u,l,k)∈B
 key:∀ u v l u' v' l' k,(u,v,l,k)∈B->(u',v',l',k)∈B->l'=l/\((u'=u/\v'=v)\/(u'=v/\v'=u))
 ne:∀ u v l k,(u,v,l,k)∈B->u≠v
 pos:∀ u v l k,(u,v,l,k)∈B->1<=l
 few:∀ u v l k,(u,v,l,k)∈B->k<60
variable {B:List Arc}{a b:Nat}{ws S:List Nat}{x y:Int}
theorem Rt.last (h:Rt B a ws S b x y):b∈ws:=by
 cases h with
 | one=>exact ua3.mpr rfl
 | snoc _ _ _=>exact ua8 _ (ua3.mpr rfl)
theorem Rt.ends (K:Keys B)(h:Rt B a ws S b x y):∀ k∈S,∃ u v l,(u,v,l,k)∈B/\u∈ws/\v∈ws:=by
 induction h with
 | one=>intro k hk;cases hk
 | @snoc ws S u v x y l k r m nv ih =>
  intro j hj
  rcases ubp.mp hj with hj | hj
  ·obtain⟨p,q,l',h1,h2,h3⟩:=ih j hj
   exact⟨p,q,l',h1,ucn _ h2,ucn _ h3⟩
  ·rw[ua3.mp hj]
   exact⟨u,v,l,m,ucn _ r.last,ua8 _ (ua3.mpr rfl)⟩
theorem Rt.fresh (K:Keys B)(h:Rt B a ws S b x y){u v:Nat}{l:Int}{k:Nat}(m:(u,v,l,k)∈B)(nv:v∉ws):k∉S:=λ hk=>by
 obtain⟨p,q,l',m',hp,hq⟩:=h.ends K k hk
 rcases (K.key _ _ _ _ _ _ _ m m').2 with ⟨e1,e2⟩ | ⟨e1,e2⟩
 ·exact nv (e2 ▸ hq)
 ·exact nv (e1 ▸ hp)
theorem Rt.nodup (K:Keys B)(h:Rt B a ws S b x y):S.Nodup:=by
 induction h with
 | one=>exact List.nodup_nil
 | @snoc ws S u v x y l k r m nv ih =>
  refine ues.mpr ⟨ih,by simp,λ p hp q hq z=>?_⟩
  rw[ua3.mp hq] at z
  exact r.fresh K m nv (z ▸ hp)
theorem Rt.small (K:Keys B)(h:Rt B a ws S b x y):∀ k∈S,k<60:=λ k hk=>let ⟨u,v,l,m,_⟩:=h.ends K k hk;K.few u v l k m
theorem Rt.sum (h:Rt B a ws S b x y):y=(sumP S:Nat):=by
 induction h with
 | one=>rfl
 | @snoc ws S u v x y l k r m nv ih =>
  rw[zkc,ih]
  show ((sumP S:Nat):Int)+2^k=((sumP S+(2^k+0):Nat):Int)
  have:((2^k:Nat):Int)=(2:Int)^k:=by norm_cast
  left
theorem Rt.lt (K:Keys B)(h:Rt B a ws S b x y):0<=y/\y<2^60:=by
 have e:=h.sum
 have:=zg0 60 (h.nodup K) (h.small K)
 have e2:((2^60:Nat):Int)=(2:Int)^60:=by norm_cast
 left
theorem Rt.unique (K:Keys B)(h:Rt B a ws S b x y):∀ {ws' S':List Nat}{x':Int},Rt B a ws' S' b x' y->ws'=ws/\x'=x:=by
 induction h with
 | one =>
  intro ws' S' x' r
  generalize ey:(0:Int)=yy at r
  cases r with
  | one=>exact⟨rfl,rfl⟩
  | @snoc ws0 S0 u _ x0 y0 l k r m nv =>
   have p:=r.lt K
   have:(0:Int)<2^k:=Int.pow_pos (by decide)
   left
 | @snoc ws0 S0 u v x0 y0 l k r m nv ih =>
  intro ws' S' x' r'
  have full:Rt B a (ws0++[v]) (S0++[k]) v (x0+l) (y0+2^k):=.snoc r m nv
  have se:sumP S'=sumP (S0++[k]):=by
   have e1:=r'.sum
   have e2:=full.sum
   left
  have sub:=zg1 60 (r'.nodup K) (full.nodup K) (r'.small K) (full.small K) se
  generalize ey:y0+2^k=yy at r'
  cases r' with
  | one =>
   have p:=r.lt K
   have:(0:Int)<2^k:=Int.pow_pos (by decide)
   left
  | @snoc ws1 S1 u1 _ x1 y1 l1 k1 r1 m1 nv1 =>
   have in1:=sub k1 (ua8 _ (ua3.mpr rfl))
   have k1k:k1=k:=by
    rcases ubp.mp in1 with z | z
    ·exact absurd z (r.fresh K m1 nv)
    ·exact ua3.mp z
   subst k1k
   obtain⟨el,eu⟩:=K.key _ _ _ _ _ _ _ m m1
   have uu:u1=u:=by
    rcases eu with ⟨e,_⟩ | ⟨e,e'⟩
    ·exact e
    ·exact absurd e' (K.ne _ _ _ _ m).symm
   subst uu
   have yy1:y1=y0:=by left
   subst yy1
   obtain⟨e1,e2⟩:=ih r1
   exact⟨by rw[e1],by rw[e2,el]⟩
theorem Rt.cons (K:Keys B){u:Nat}{l:Int}{k:Nat}(m:(u,a,l,k)∈B)(h:Rt B a ws S b x y):u∉ws->Rt B u (u::ws) (k::S) b (x+l) (y+2^k):=by
 induction h with
 | one =>
  intro nu
  have:Rt B u ([u]++[a]) ([]++[k]) a (0+l) (0+2^k):=.snoc .one m (λ z=>nu (by rw[ua3] at z ⊢;exact z.symm))
  exact this
 | @snoc ws S w v x y l' k' r m' nv ih =>
  intro nu
  have r2:=ih λ z=>nu (ucn _ z)
  have:Rt B u ((u::ws)++[v]) ((k::S)++[k']) v (x+l+l') (y+2^k+2^k'):=.snoc r2 m' λ z=>by
   rcases uam.mp z with z | z
   ·exact nu (ua8 _ (ua3.mpr z.symm))
   ·exact nv z
  rw[ufs x l l',ufs y] at this
  exact this
theorem Rt.back (K:Keys B)(h:Rt B a ws S b x y):Rt B b ws.reverse S.reverse a x y:=by
 induction h with
 | one=>exact .one
 | @snoc ws S u v x y l k r m nv ih =>
  rw[uef,uef]
  exact ih.cons K (K.sym _ _ _ _ m) (λ z=>nv (List.mem_reverse.mp z))
end Far
namespace Far
structure Best (B:List Arc)(n s:Nat)(cs:List (Option (Int × Int)))(as:List (Option Nat)):Prop where
 len:cs.length=n
 alen:as.length=n
 start:get cs s=some (0,0)
 root:get as s=none
 has:∀ v c,get cs v=some c->v≠s->get as v≠none
 nn:∀ v c,get cs v=some c->0<=c.1
 stab:∀ u v l k c,(u,v,l,k)∈B->get cs u=some c->∃ c',get cs v=some c'/\¬ lt2 (c.1+l,c.2+2^k) c'
 arc:∀ v u,get as v=some u->∃ l k cu,(u,v,l,k)∈B/\get cs u=some cu/\get cs v=some (cu.1+l,cu.2+2^k)
inductive TPw (as:List (Option Nat))(s:Nat):List Nat->Nat->Prop
 | root:TPw as s [s] s
 | step {ws:List Nat} {u v:Nat}:get as v=some u->TPw as s ws u->TPw as s (ws++[v]) v
section
variable {B:List Arc}{n s:Nat}{cs:List (Option (Int × Int))}{as:List (Option Nat)}
theorem Best.route (K:Keys B)(h:Best B n s cs as):∀ (m:Nat)(v:Nat)(c:Int × Int),get cs v=some c->c.1.toNat<=m->∃ ws S,Rt B s ws S v c.1 c.2/\TPw as s ws v/\∀ w∈ws,∃ cw,get cs w=some cw/\cw.1<=c.1:=by
 intro m
 induction m using ugl with
 | ind m ih =>
  intro v c e hm
  by_cases vs:v=s
  ·subst vs
   rw[h.start] at e;cases e
   exact⟨[v],[],.one,.root,λ w hw=>by rw[ua3.mp hw];exact⟨_,h.start,ubf _⟩⟩
  ·cases ea:get as v with
   | none=>exact absurd ea (h.has v c e vs)
   | some u =>
    obtain⟨l,k,cu,ma,eu,ev⟩:=h.arc v u ea
    rw[e] at ev;cases ev
    have l1:=K.pos _ _ _ _ ma
    have c0:=h.nn _ _ eu
    simp only at hm
    obtain⟨ws,S,r,tp,all⟩:=ih cu.1.toNat (by left) u cu eu (uai _)
    have nv:v∉ws:=λ z=>by
     obtain⟨cw,e1,h1⟩:=all v z
     rw[e] at e1;cases e1
     simp only at h1;left
    refine⟨ws++[v],S++[k],.snoc r ma nv,.step ea tp,λ w hw=>?_⟩
    rcases ubp.mp hw with hw | hw
    ·obtain⟨cw,e1,h1⟩:=all w hw
     exact⟨cw,e1,by show cw.1<=cu.1+l;left⟩
    ·rw[ua3.mp hw]
     exact⟨_,e,ubf _⟩
theorem Best.small (K:Keys B)(h:Best B n s cs as){v:Nat}{c:Int × Int}(e:get cs v=some c):0<=c.2/\c.2<2^60:=by
 obtain⟨ws,S,r,_⟩:=h.route K _ v c e (uai _)
 exact r.lt K
theorem Best.least (h:Best B n s cs as){ws S:List Nat}{v:Nat}{x y:Int}(r:Rt B s ws S v x y):∃ c,get cs v=some c/\¬ lt2 (x,y) c:=by
 induction r with
 | one=>exact⟨_,h.start,λ z=>by unfold lt2 at z;simp only at z;left⟩
 | @snoc ws S u v x y l k r m nv ih =>
  obtain⟨c,e,hc⟩:=ih
  obtain⟨c',e',hc'⟩:=h.stab _ _ _ _ _ m e
  refine⟨c',e',λ z=>?_⟩
  unfold lt2 at *
  simp only at *
  left
theorem Best.tree (K:Keys B)(h:Best B n s cs as){u v:Nat}{l:Int}{k:Nat}{cu:Int × Int}(m:(u,v,l,k)∈B)(eu:get cs u=some cu)(ev:get cs v=some (cu.1+l,cu.2+2^k)):get as v=some u:=by
 have l1:=K.pos _ _ _ _ m
 have c0:=h.nn _ _ eu
 have vs:v≠s:=λ z=>by
  rw[z,h.start] at ev
  have:(0:Int)=cu.1+l:=congrArg (λ o:Option (Int × Int)=>(o.getD (0,0)).1) ev
  left
 cases ea:get as v with
 | none=>exact absurd ea (h.has v _ ev vs)
 | some u0 =>
  obtain⟨l0,k0,c0',m0,e0,ev0⟩:=h.arc v u0 ea
  have mk:∀ {u:Nat}{l:Int}{k:Nat}{cu:Int × Int},(u,v,l,k)∈B->get cs u=some cu->get cs v=some (cu.1+l,cu.2+2^k)->∃ r S,Rt B s (r++[u]++[v]) S v (cu.1+l) (cu.2+2^k):=λ {u l k cu} m eu ev=>by
   obtain⟨ws,S,r,tp,all⟩:=h.route K _ u cu eu (uai _)
   have nv:v∉ws:=λ z=>by
    obtain⟨cw,e1,h1⟩:=all v z
    rw[ev] at e1;cases e1
    have:=K.pos _ _ _ _ m
    simp only at h1;left
   obtain⟨q,rfl⟩:∃ q,ws=q++[u]:=by
    cases tp with
    | root=>exact⟨[],rfl⟩
    | step _ _=>exact⟨_,rfl⟩
   exact⟨q,_,.snoc r m nv⟩
  obtain⟨r1,S1,t1⟩:=mk m eu ev
  obtain⟨r2,S2,t2⟩:=mk m0 e0 ev0
  have e2:c0'.2+2^k0=cu.2+2^k:=congrArg (λ o:Option (Int × Int)=>(o.getD (0,0)).2) (ev0.symm.trans ev)
  rw[e2] at t2
  have:=(t1.unique K t2).1
  have z1:(r2++[u0])=(r1++[u]):=List.append_cancel_right this
  have z2:=congrArg List.getLast? z1
  simp at z2
  rw[z2]
end
def comb (c:Int × Int):Int:=c.1*2^61+c.2
def arcsC (B:List Arc):List (Nat × Nat × Int):=B.map λ b=>(b.1,b.2.1,b.2.2.1*2^61+2^b.2.2.2)
theorem arcsC_mem {B:List Arc}{u v:Nat}{L:Int}:(u,v,L)∈arcsC B↔∃ l k,(u,v,l,k)∈B/\L=l*2^61+2^k:=by
 unfold arcsC
 rw[ubx]
 constructor
 ·rintro ⟨⟨a,b,l,k⟩,h,e⟩
  cases e
  exact⟨l,k,h,rfl⟩
 ·rintro ⟨l,k,h,rfl⟩
  exact⟨(u,v,l,k),h,rfl⟩
section
variable {B:List Arc}{n s:Nat}{cs:List (Option (Int × Int))}{as:List (Option Nat)}
theorem znh (k:Nat):(1:Int)<=2^k:=Int.pow_pos (by decide)
theorem zj4 (K:Keys B):Sym (arcsC B):=λ u v L h=>by
 obtain⟨l,k,m,rfl⟩:=arcsC_mem.mp h
 exact arcsC_mem.mpr ⟨l,k,K.sym _ _ _ _ m,rfl⟩
theorem Best.dst (K:Keys B)(h:Best B n s cs as)(v:Nat):Dst (arcsC B) s v ((get cs v).map comb):=by
 refine⟨λ y e=>?_,λ L w=>?_⟩
 ·cases ec:get cs v with
  | none=>rw[ec] at e;cases e
  | some c =>
   rw[ec] at e;cases e
   obtain⟨ws,S,r,_⟩:=h.route K _ v c ec (uai _)
   have go:∀ {ws S:List Nat}{v:Nat}{x y:Int},Rt B s ws S v x y->Walk (arcsC B) s v (comb (x,y)):=by
    intro ws S v x y r
    induction r with
    | one=>exact .nil
    | @snoc ws S u v x y l k r m nv ih =>
     have:=Walk.snoc ih (arcsC_mem.mpr ⟨l,k,m,rfl⟩)
     have e:comb (x+l,y+2^k)=comb (x,y)+(l*2^61+2^k):=by unfold comb;simp only;left
     rw[e];exact this
   exact go r
 ·have:∃ c,get cs v=some c/\comb c<=L:=by
   induction w with
   | nil=>exact⟨_,h.start,by decide⟩
   | @snoc u v l x w m ih =>
    obtain⟨c,e,hc⟩:=ih
    obtain⟨l',k,m',rfl⟩:=arcsC_mem.mp m
    obtain⟨c',e',hc'⟩:=h.stab _ _ _ _ _ m' e
    refine⟨c',e',?_⟩
    have s1:=h.small K e
    have s2:=h.small K e'
    have:=znh k
    unfold comb at *
    unfold lt2 at hc'
    simp only at hc'
    left
  obtain⟨c,e,hc⟩:=this
  exact⟨comb c,by rw[e];rfl,hc⟩
theorem zl9 {c d:Int × Int}(hc:0<=c.2/\c.2<2^61)(hd:0<=d.2/\d.2<2^61)(e:comb c=comb d):c=d:=by
 unfold comb at e
 exact Prod.ext (by left) (by left)
end
end Far
namespace Far
variable {B:List Arc}{A:List (Nat × Nat × Int)}{n s:Nat}
structure Run (B:List Arc)(s:Nat)(cs:List (Option (Int × Int)))(as:List (Option Nat)):Prop where
 len:as.length=cs.length
 start:get cs s=some (0,0)
 root:get as s=none
 has:∀ v c,get cs v=some c->v≠s->get as v≠none
 arc:∀ v u,get as v=some u->∃ l k cu cv,(u,v,l,k)∈B/\get cs u=some cu/\get cs v=some cv/\¬ lt2 cv (cu.1+l,cu.2+2^k)
theorem Run.step {u v:Nat}{l:Int}{k:Nat}{cs:List (Option (Int × Int))}{as:List (Option Nat)}{c:Int × Int}(P:Pos A)(g:Good A n s cs)(a:Run B s cs as)(m:(u,v,l)∈A)(mB:(u,v,l,k)∈B)(hv:v<n)(hu:get cs u=some c)
  (h:get cs v=none\/∃ c',get cs v=some c'/\lt2 (c.1+l,c.2+2^k) c'):Run B s (cs.set v (some (c.1+l,c.2+2^k))) (as.set v (some u)):=by
 have hc:v<cs.length:=by rw[g.len];exact hv
 have ha:v<as.length:=by rw[a.len];exact hc
 have l1:=P _ _ _ m
 have c0:=(g.walk _ _ hu).nonneg P
 have vs:v≠s:=λ z=>by
  rw[z] at h
  rcases h with h | ⟨c',h,hl⟩
  ·rw[a.start] at h;cases h
  ·rw[a.start] at h;cases h
   unfold lt2 at hl;simp only at hl;left
 have uv:u≠v:=λ z=>by
  rcases h with h | ⟨c',h,hl⟩
  ·rw[← z,hu] at h;cases h
  ·rw[← z,hu] at h;cases h
   unfold lt2 at hl;simp only at hl;left
 refine⟨by rw[uc2,uc2];exact a.len,by rw[za9 hc,if_neg (Ne.symm vs)];exact a.start,?_,λ x d e hx=>?_,λ x y e=>?_⟩
 ·rw[za9 ha,if_neg (Ne.symm vs)];exact a.root
 ·rw[za9 ha]
  split
  ·exact λ z=>by cases z
  ·rename_i xv
   rw[za9 hc,if_neg xv] at e
   exact a.has x d e hx
 ·rw[za9 ha] at e
  split at e
  ·rename_i z;subst z;cases e
   refine⟨l,k,c,_,mB,by rw[za9 hc,if_neg uv];exact hu,by rw[za9 hc,if_pos rfl],λ z=>?_⟩
   unfold lt2 at z;left
  ·rename_i xv
   obtain⟨l',k',cu,cv,m',e1,e2,hle⟩:=a.arc x y e
   by_cases yv:y=v
   ·subst yv
    refine⟨l',k',_,cv,m',by rw[za9 hc,if_pos rfl],by rw[za9 hc,if_neg xv];exact e2,λ z=>?_⟩
    rcases h with h | ⟨c',h,hl⟩
    ·rw[h] at e1;cases e1
    ·rw[h] at e1;cases e1
     unfold lt2 at hl hle z
     simp only at hl hle z
     left
   ·exact⟨l',k',cu,cv,m',by rw[za9 hc,if_neg yv];exact e1,by rw[za9 hc,if_neg xv];exact e2,hle⟩
theorem Run.first (hs:s<n):Run B s ((ua0 n none).set s (some (0,0))) (ua0 n none):=by
 have hl:s<(ua0 n (none:Option (Int × Int))).length:=by rw[ubq];exact hs
 refine⟨by rw[uc2,ubq,ubq],by rw[za9 hl,if_pos rfl],zd5 _ _,λ v c e hv=>?_,λ v u e=>?_⟩
 ·rw[za9 hl,if_neg hv,zd5] at e;cases e
 ·rw[zd5] at e;cases e
def Stab2 (B:List Arc)(cs:List (Option (Int × Int))):Prop:=∀ u v l k c,(u,v,l,k)∈B->get cs u=some c->∃ c',get cs v=some c'/\¬ lt2 (c.1+l,c.2+2^k) c'
def PS2 (c0:List (Option (Int × Int)))(R:Arc->Prop)(cs:List (Option (Int × Int)))(ag:Bool):Prop :=
 (ag=false/\cs=c0/\∀ u v l k c,R (u,v,l,k)->get c0 u=some c->∃ c',get c0 v=some c'/\¬ lt2 (c.1+l,c.2+2^k) c')\/(ag=true/\mu cs<mu c0)
def plusA (R:Arc->Prop)(a:Arc):Arc->Prop:=λ b=>R b\/b=a
section
variable {c0 cs:List (Option (Int × Int))}{R R':Arc->Prop}{ag:Bool}{u v k:Nat}{l:Int}
theorem PS2.less (h:PS2 c0 R cs ag)(z:∀ a,R' a->R a):PS2 c0 R' cs ag:=h.elim (λ ⟨a,b,c⟩=>.inl ⟨a,b,λ u v l k c' y=>c u v l k c' (z _ y)⟩) .inr
theorem PS2.no (h:PS2 c0 R cs ag)(hu:get cs u=none):PS2 c0 (plusA R (u,v,l,k)) cs ag:=by
 rcases h with ⟨a,b,c⟩ | h
 ·refine .inl ⟨a,b,λ u' v' l' k' c' z e=>?_⟩
  rcases z with z | z
  ·exact c _ _ _ _ _ z e
  ·cases z;rw[← b,hu] at e;cases e
 ·exact .inr h
theorem PS2.old (h:PS2 c0 R cs ag){c d:Int × Int}(hu:get cs u=some c)(hv:get cs v=some d)(hn:¬ lt2 (c.1+l,c.2+2^k) d):PS2 c0 (plusA R (u,v,l,k)) cs ag:=by
 rcases h with ⟨a,b,z⟩ | h
 ·refine .inl ⟨a,b,λ u' v' l' k' c' y e=>?_⟩
  rcases y with y | y
  ·exact z _ _ _ _ _ y e
  ·cases y
   subst b
   rw[hu] at e;cases e
   exact⟨d,hv,hn⟩
 ·exact .inr h
theorem PS2.put (h:PS2 c0 R cs ag){cs':List (Option (Int × Int))}(hm:mu cs'<mu cs):PS2 c0 (plusA R (u,v,l,k)) cs' true:=by
 rcases h with ⟨a,b,c⟩ | h
 ·exact .inr ⟨rfl,by rw[← b];exact hm⟩
 ·exact .inr ⟨rfl,ue8 hm h.2⟩
end
theorem Run.best {cs:List (Option (Int × Int))}{as:List (Option Nat)}(P:Pos A)(g:Good A n s cs)(r:Run B s cs as)(st:Stab2 B cs):Best B n s cs as:=by
 refine⟨g.len,by rw[r.len];exact g.len,r.start,r.root,r.has,λ v c e=>(g.walk v c e).nonneg P,st,λ v u e=>?_⟩
 obtain⟨l,k,cu,cv,m,e1,e2,n1⟩:=r.arc v u e
 obtain⟨c',e3,n2⟩:=st _ _ _ _ _ m e1
 rw[e2] at e3;cases e3
 refine⟨l,k,cu,m,e1,?_⟩
 rw[e2]
 congr 1
 unfold lt2 at n1 n2
 simp only at n1 n2
 exact Prod.ext (by show cv.1=cu.1+l;left) (by show cv.2=cu.2+2^k;left)
end Far
namespace Far
def arcsF (B:List Arc):List (Nat × Nat × Int):=B.map λ b=>(b.1,b.2.1,b.2.2.1)
theorem arcsF_mem {B:List Arc}{u v:Nat}{l:Int}:(u,v,l)∈arcsF B↔∃ k,(u,v,l,k)∈B:=by
 unfold arcsF
 rw[ubx]
 constructor
 ·rintro ⟨⟨a,b,l',k⟩,h,e⟩
  cases e
  exact⟨k,h⟩
 ·rintro ⟨k,h⟩
  exact⟨(u,v,l,k),h,rfl⟩
section
variable {B:List Arc}{n s:Nat}{cs:List (Option (Int × Int))}{as:List (Option Nat)}{a b:Nat}{ws S:List Nat}{x y:Int}
theorem znn {v:Nat}{ws ws':List Nat}(hr:get as s=none)(t:TPw as s ws v):TPw as s ws' v->ws'=ws:=by
 induction t generalizing ws' with
 | root =>
  intro t'
  cases t' with
  | root=>rfl
  | step e _=>rw[hr] at e;cases e
 | step e t ih =>
  intro t'
  cases t' with
  | root=>rw[hr] at e;cases e
  | step e' t'=>rw[e] at e';cases e';rw[ih t']
theorem Best.rt (K:Keys B)(h:Best B n s cs as){v:Nat}{c:Int × Int}(t:TPw as s ws v)(e:get cs v=some c):∃ S,Rt B s ws S v c.1 c.2:=by
 obtain⟨w1,S1,r1,p1,_⟩:=h.route K _ v c e (uai _)
 rw[znn h.root p1 t]
 exact⟨S1,r1⟩
theorem Rt.walk (r:Rt B a ws S b x y):Walk (arcsF B) a b x:=by
 induction r with
 | one=>exact .nil
 | snoc r m nv ih=>exact .snoc ih (arcsF_mem.mpr ⟨_,m⟩)
theorem Rt.tr (r:Rt B a ws S b x y):Tr (arcsF B) a ws b x:=by
 induction r with
 | one=>exact .one
 | snoc r m nv ih=>exact .snoc ih (arcsF_mem.mpr ⟨_,m⟩)
theorem Best.dst1 (K:Keys B)(h:Best B n s cs as)(v:Nat):Dst (arcsF B) s v ((get cs v).map (·.1)):=by
 refine⟨λ y e=>?_,λ L w=>?_⟩
 ·cases ec:get cs v with
  | none=>rw[ec] at e;cases e
  | some c =>
   rw[ec] at e;cases e
   obtain⟨ws,S,r,_⟩:=h.route K _ v c ec (uai _)
   exact r.walk
 ·have:∃ c,get cs v=some c/\c.1<=L:=by
   induction w with
   | nil=>exact⟨_,h.start,ubf _⟩
   | @snoc u v l x w m ih =>
    obtain⟨c,e,hc⟩:=ih
    obtain⟨k,m'⟩:=arcsF_mem.mp m
    obtain⟨c',e',hc'⟩:=h.stab _ _ _ _ _ m' e
    refine⟨c',e',?_⟩
    unfold lt2 at hc'
    simp only at hc'
    left
  obtain⟨c,e,hc⟩:=this
  exact⟨c.1,by rw[e];rfl,hc⟩
structure Uni (B:List Arc)(a b:Nat)(ws S:List Nat)(x y:Int):Prop where
 rt:Rt B a ws S b x y
 least:∀ ws' S' x' y',Rt B a ws' S' b x' y'->¬ lt2 (x',y') (x,y)
theorem Best.uni (K:Keys B)(h:Best B n s cs as){v:Nat}{c:Int × Int}(t:TPw as s ws.reverse v)(e:get cs v=some c):∃ S,Uni B v s ws S c.1 c.2:=by
 obtain⟨S,r⟩:=h.rt K t e
 have rb:=r.back K
 rw[List.reverse_reverse] at rb
 refine⟨_,rb,λ ws' S' x' y' r' z=>?_⟩
 obtain⟨c',e',n'⟩:=h.least (r'.back K)
 rw[e] at e';cases e'
 exact n' z
end
end Far
namespace L3
open PySem PySem.Spec PyProof.Rows L2
def arcs2B (t:Tie)(k:Nat):List Far.Arc:=[(t.1.toNat,t.2.1.toNat,t.2.2,k),(t.2.1.toNat,t.1.toNat,t.2.2,k)]
def arcsB (ts:List Tie)(ks:List Nat):List Far.Arc:=ks.flatMap λ k=>arcs2B (tieAt ts k) k
theorem arcsB_mem {ts:List Tie}{ks:List Nat}{a:Far.Arc}:a∈arcsB ts ks↔∃ k,k∈ks/\a∈arcs2B (tieAt ts k) k:=by
 unfold arcsB;rw[uey]
theorem arcs2B_mem {t:Tie}{k:Nat}{a:Far.Arc}:a∈arcs2B t k↔a=(t.1.toNat,t.2.1.toNat,t.2.2,k)\/a=(t.2.1.toNat,t.1.toNat,t.2.2,k):=by
 unfold arcs2B;simp
theorem zm9 {ts:List Tie}{ks:List Nat}{i k:Nat}(h:ks[i]?=some k){a:Far.Arc}(m:a∈arcsB ts (ks.take (i+1))):a∈arcsB ts (ks.take i)\/a∈arcs2B (tieAt ts k) k:=by
 obtain⟨j,hj,m⟩:=arcsB_mem.mp m
 rw[zdh h] at hj
 rcases ubp.mp hj with hj | hj
 ·exact .inl (arcsB_mem.mpr ⟨j,hj,m⟩)
 ·rw[ua3.mp hj] at m;exact .inr m
theorem zbi {n:Int}{ts:List Tie}{ks:List Nat}(ok:WebOk n ts)(ko:KeepOk ts.length ks):Far.Keys (arcsB ts ks):=by
 have at_:∀ {u v l k},(u,v,l,k)∈arcsB ts ks->k<ts.length/\((u=(tieAt ts k).1.toNat/\v=(tieAt ts k).2.1.toNat)\/(u=(tieAt ts k).2.1.toNat/\v=(tieAt ts k).1.toNat))/\l=(tieAt ts k).2.2/\k∈ks:=λ {u v l k} h=>by
  obtain⟨j,hj,m⟩:=arcsB_mem.mp h
  rcases arcs2B_mem.mp m with e | e <;> cases e
  ·exact⟨ko.2 _ hj,.inl ⟨rfl,rfl⟩,rfl,hj⟩
  ·exact⟨ko.2 _ hj,.inr ⟨rfl,rfl⟩,rfl,hj⟩
 refine⟨λ u v l k h=>?_,λ u v l u' v' l' k h h'=>?_,λ u v l k h=>?_,λ u v l k h=>?_,λ u v l k h=>?_⟩
 ·obtain⟨_,e,rfl,hk⟩:=at_ h
  refine arcsB_mem.mpr ⟨k,hk,arcs2B_mem.mpr ?_⟩
  rcases e with ⟨rfl,rfl⟩ | ⟨rfl,rfl⟩
  ·exact .inr rfl
  ·exact .inl rfl
 ·obtain⟨_,e,rfl,_⟩:=at_ h
  obtain⟨_,e',rfl,_⟩:=at_ h'
  refine⟨rfl,?_⟩
  rcases e with ⟨rfl,rfl⟩ | ⟨rfl,rfl⟩ <;> rcases e' with ⟨rfl,rfl⟩ | ⟨rfl,rfl⟩
  ·exact .inl ⟨rfl,rfl⟩
  ·exact .inr ⟨rfl,rfl⟩
  ·exact .inr ⟨rfl,rfl⟩
  ·exact .inl ⟨rfl,rfl⟩
 ·obtain⟨hk,e,_,_⟩:=at_ h
  have:=ok.tie _ (za6 hk).2
  rcases e with ⟨rfl,rfl⟩ | ⟨rfl,rfl⟩ <;> left
 ·obtain⟨hk,_,e,_⟩:=at_ h
  have:=ok.tie _ (za6 hk).2
  left
 ·obtain⟨hk,_⟩:=at_ h
  have:=ok.few
  left
theorem zc0 {n:Int}{ts:List Tie}{ks:List Nat}(ok:WebOk n ts)(ko:KeepOk ts.length ks){u v k:Nat}{l:Int}(h:(u,v,l,k)∈arcsB ts ks):u<n.toNat/\v<n.toNat:=by
 obtain⟨j,hj,m⟩:=arcsB_mem.mp h
 have:=ok.tie _ (za6 (ko.2 j hj)).2
 rcases arcs2B_mem.mp m with e | e <;> cases e <;> left
def spReachedB (K:uac):Sp:=λ vs H Q _=>∃ n ts ks wv kv r,vs=[wv,kv,.int r]/\WK K H n ts ks wv kv/\0<=r/\r<n /\
 ∀ (p lc la:Addr)(cvs:List V)(as:List (Option Nat))(cs:List (Option (Int × Int)))(H':Hp),Same H H'->H' p=some (.tup [.ref lc,.ref la])->H' lc=some (.lst cvs)->H' la=some (.lst (as.map oa))->CostL H' cvs cs->Far.Best (arcsB ts ks) n.toNat r.toNat cs as->Q (.ref p) H'
def spTreeB (K:uac):Sp:=λ vs H Q _=>∃ n ts ks wv kv r,vs=[wv,kv,.int r]/\WK K H n ts ks wv kv/\0<=r/\r<n /\
 ∀ (p:Addr)(as:List (Option Nat))(cs:List (Option (Int × Int)))(H':Hp),Same H H'->H' p=some (.tup (as.map oa))->Far.Best (arcsB ts ks) n.toNat r.toNat cs as->Q (.ref p) H'
def WayB (H:Hp)(B:List Far.Arc)(n a b:Nat)(v:V):Prop:=∃ cs as,Far.Best B n b cs as/\((v=.non/\Far.get cs a=none)\/∃ t ws c,v=.ref t/\H t=some (.tup (natV ws))/\ws.length<=24/\Far.get cs a=some c/\Far.TPw as b ws.reverse a)
def spWayB (K:uac):Sp:=λ vs H Q _=>∃ n ts ks wv kv a b,vs=[wv,kv,.int a,.int b]/\WK K H n ts ks wv kv/\0<=a/\a<n/\0<=b/\b<n/\∀ v H',Same H H'->WayB H' (arcsB ts ks) n.toNat a.toNat b.toNat v->Q v H'
def oaD:Option Nat->PyData
 | none=>.none
 | some u=>.int (u:Int)
theorem zo1 {K:uac}{H:Hp}:∀ as:List (Option Nat),IsAll K H (as.map oaD) (as.map oa)
 | []=>rfl
 | none::r=>⟨_,_,rfl,rfl,zo1 r⟩
 | some u::r=>⟨_,_,rfl,rfl,zo1 r⟩
end L3
namespace HT
open PySem PyProof.Rows
section
variable {prog:Program}{w:World}{A:Around}{E:Value->Shared->Prop}{s:Shared}
abbrev setS (ns:List Int)(m:Nat):Int->Bool:=λ x=>(firstMet (λ i=>ns.getD i 0) m).any λ y=>y==x
abbrev setN (ns:List Int)(m:Nat):Nat:=(firstMet (λ i=>ns.getD i 0) m).length
theorem zqf {h:Heap}{t:Addr}{xs:Array Value}(it:h.IsTuple t xs)(o:Obj):(h.push o).IsTuple t xs:=let ⟨ob,e,r⟩:=it;⟨ob,Heap.get?_push_of_some _ e,r⟩
abbrev seto (led:Bool):Obj:={ cls:=.type "set",dict:=none,data:=.set #[] 0 (.fresh 0 0 led) }
theorem zjm {t:Addr}{xs:Array Value}{ns:List Int}{Q:Value->Shared->Prop}(hh:A.handled=none)(ht:s.heap.IsTuple t xs)(hi:IntsAre xs.toList ns)(hb:xs.size+1<scanBound)
  (h:∀ (h':Heap)(tk:Nat),h'.SetOf (intKind prog w) s.heap.objs.size (setS ns xs.size) (setN ns xs.size)->(∀ b o,b<s.heap.objs.size->s.heap.get? b=some o->h'.get? b=some o)->Q (.ref s.heap.objs.size) { s with heap:=h',toks:=tk }) :
  wpAny (model prog w) A (call (.type "set") [.ref t]) Q E s:=by
 obtain⟨c,tl,hmro⟩:=ubc.mro
 have hmade:=ubc.made;have hsub:=ubc.sub
 refine wpAny_call (codeAny_of_tree ?_);show wpAny _ _ (callAny (.type "set") _) _ _ _
 refine uah ⟨Code.quiet_builtin _ (by symm),ubn ugi ?_⟩
 rw[Around.under_plain (uf9 "set" [.ref t] []) rfl]
 have h1:=ubc.notType;have h2:=ubc.canCreate;have hct:=ugp (.ref t)
 repeat (any_goals (first | assumption | wp_step))
 refine ud7 (PySem.code_set_new_1 (.ref t) (E:=E) (Q₁:=λ obj s₁=>∃ led:Bool,obj=.ref s.heap.objs.size/\s₁={ s with heap:=s.heap.push (seto led) }) λ led=>⟨led,rfl,rfl⟩) λ r s₁ hr=>?_
 match r,hr with
 | .error e,hr=>exact hr
 | .ok .next,hr=>exact hr.elim
 | .ok .brk,hr=>exact hr.elim
 | .ok .cont,hr=>exact hr.elim
 | .ok (.ret obj),hr =>
  obtain⟨led,rfl,rfl⟩:=hr
  have gS:(s.heap.push (seto led)).get? s.heap.objs.size=some (seto led):=Heap.get?_push_size _ rfl
  have hT:Shared.TypeIs { s with heap:=s.heap.push (seto led) } (.ref s.heap.objs.size) "set":=⟨_,gS,rfl⟩
  have hli:=ubc.init.lookup;have hbi:=ubc.init.bind (.ref s.heap.objs.size)
  repeat (any_goals (first | assumption | wp_step))
  refine ud7 (ufp (R:=wants (λ r s₂=>r=.none/\∃ h' tk,s₂={ s with heap:=h',toks:=tk }/\h'.SetOf (intKind prog w) s.heap.objs.size (setS ns xs.size) (setN ns xs.size)/\(∀ b o,b<s.heap.objs.size->s.heap.get? b=some o->h'.get? b=some o)) E) ubc.init.plain ugq (ug0 hT ?_)) λ r₂ s₂ hr₂=>?_
  ·obtain⟨ot,ho,hc,m,hd⟩:=id ht
   obtain⟨ocls,odict,odata,oslots⟩:=ot
   simp only at hc hd;subst hc hd
   have ho':(s.heap.push (seto led)).get? t=some { cls:=.type "tuple",dict:=odict,data:=.seq xs m,slots:=oslots }:=Heap.get?_push_of_some _ ho
   have f1:=PySem.F.sub_tuple_set;have f2:=PySem.F.sub_tuple_frozenset
   have f3:(Value.type "tuple"==Value.type "dict")=false:=by decide
   have it1:(s.heap.push (seto led)).IsTuple t xs:=⟨_,ho',rfl,m,rfl⟩
   unfold Builtin.«set.__init__» noKeywords Builtin.Frozenset.updateFrom
   generalize hPI:pyIter=PI
   wp_walk;subst hPI
   refine uev it1 (uab (uft ?_))
   have lt:t<s.heap.objs.size:=Heap.lt_size ho
   have hh3:A.in1.in1.in1.handled=none:=by simp [hh]
   have sz1:(s.heap.push (seto led)).objs.size=s.heap.objs.size+1:=Heap.size_push ..
   have tI:t≠(s.heap.push (seto led)).objs.size:=by rw[sz1];exact uas (ubz lt)
   have Sfp:s.heap.objs.size∉[(s.heap.push (seto led)).objs.size,t]:=by
    rw[sz1];simp only [uam,ua1,or_false,not_or];exact⟨uas (ub2 _),(uas lt).symm⟩
   have vals:∀ (i:Nat)(v:Value),xs[i]?=some v->∃ u,v=.int ((λ i=>ns.getD i 0) i) u:=λ i v hv=>IntsAre.int_at hi i v (by rw[ucs];exact hv)
   refine codeAny_set_update_loopS ((Walks.tuple hh3 _ t tI xs).toS) s.heap.objs.size Sfp (λ i=>ns.getD i 0) vals hb (xs.size-0) 0 _ (by left) (ube _) ?st ?s0 ?fin
   case st=>exact⟨⟨_,Heap.get?_push_size _ rfl,rfl,rfl⟩,zqf it1 _⟩
   case s0=>exact SetOf_congr ((setObjOf_fresh (knd:=intKind prog w) led).setOf (Heap.get?_push_of_some _ gS) (by unfold scanBound;left)) (λ _=>rfl) rfl
   case fin =>
    rintro ⟨h',g',d',tk',os'⟩ hm hS'
    obtain rfl:g'=s.gens:=hm.gens
    obtain rfl:d'=s.drawn:=hm.drawn
    obtain rfl:os'=s.os:=hm.os
    refine uah (uah ⟨rfl,h',tk',rfl,hS',λ b o hlt e=>hm.heap b o ?_ (Heap.get?_push_of_some _ (Heap.get?_push_of_some _ e))⟩)
    rw[sz1];simp only [uam,ua1,or_false,not_or]
    exact⟨uas hlt,uas (ubz hlt)⟩
  ·match r₂,hr₂ with
   | .error e,hr₂=>exact hr₂
   | .ok .next,hr₂=>exact hr₂.elim
   | .ok .brk,hr₂=>exact hr₂.elim
   | .ok .cont,hr₂=>exact hr₂.elim
   | .ok (.ret v),hr₂ =>
    obtain⟨rfl,h',tk,rfl,hS',hk⟩:=hr₂
    repeat (any_goals (first | assumption | wp_step))
    exact h h' tk hS' hk
end
end HT
namespace L3
open PySem PySem.Spec PyProof.Rows L2
theorem zdq (val:Nat->Int):∀ i,(firstMet val i).length=i↔((uaf i).map val).Nodup
 | 0=>by rw[firstMet_zero];simp
 | i+1=>by
  have ih:=zdq val i
  have le:=firstMet_length_le val i
  have an:=firstMet_any val i (val i)
  rw[firstMet_succ,ucf,ucm,ues]
  unfold step_dedup
  by_cases c:(firstMet val i).any (λ y=>y==val i)=true
  ·rw[if_pos c]
   constructor
   ·intro z;left
   ·rintro ⟨_,_,z⟩
    rw[an,ucu] at c
    obtain⟨y,hy,e⟩:=c
    exact absurd (by simpa using e) (z y hy (val i) (by simp))
  ·rw[if_neg c,uar,uax]
   constructor
   ·intro z
    refine⟨ih.mp (by left),by simp,λ a ha b hb e=>c ?_⟩
    rw[an,ucu]
    have:b=val i:=by simpa using hb
    exact⟨a,ha,by rw[e,this];simp⟩
   ·rintro ⟨z,_⟩
    rw[ih.mpr z]
theorem zgn (ns:List Int):HT.setN ns ns.length=ns.length↔ns.Nodup:=by
 have:=zdq (λ i=>ns.getD i 0) ns.length
 rw[zba] at this
 exact this
section
variable {X:Cx}
inductive call_setT_i  (xs:List V) (H:Hp) (Q:VK):Prop
 | mk:∀ (p:Addr)(ns:List Int),(xs=[.ref p])->(H p=some (.tup (ns.map V.int)))->(ns.length<=1000)->(∀ q H',Same H H'->H q=none->H' q=some (.set (HT.setS ns ns.length) (HT.setN ns ns.length))->Q (.ref q) H')->call_setT_i xs H Q
theorem zpq (hh:X.calm=true):CallR X (.type "set") (call_setT_i):=by
 intro pins s σ H xs us Q I r h
 obtain⟨p,ns,rfl,hp,hl,q⟩:=h
 obtain⟨u,rfl,rx⟩:=vals1 r
 cases rx
 obtain⟨its,rv,pt,hz⟩:=I.tuple (SqT.of hp)
 have hlen:=rv.length
 rw[uae] at hlen
 have fr:H s.heap.objs.size=none:=I.hok.fresh (uai _)
 have esz:its.toArray.size=ns.length:=by rw[uap,← hlen]
 refine HT.zjm (ns:=ns) (I.ok.hd hh) (show s.heap.IsTuple p its.toArray from pt) (by simpa using zbd rv) (by rw[esz];unfold scanBound;left) λ h' tk hS hk=>?_
 rw[esz] at hS
 exact⟨.ref s.heap.objs.size,_,I.laid (a:=s.heap.objs.size) (o:=.set (HT.setS ns ns.length) (HT.setN ns ns.length)) (t':=tk) (λ b o e=>hk b o (Heap.lt_size e) e) (uai _) hS,rfl,q _ _ (zam fr) fr zai⟩
inductive call_lenS_i  (xs:List V) (H:Hp) (Q:VK):Prop
 | mk:∀ (p:Addr)(S:Int->Bool)(n:Nat),(xs=[.ref p])->(H p=some (.set S n))->(Q (.int (n:Int)) H)->call_lenS_i xs H Q
theorem zpu:CallR X (.builtin "len") (call_lenS_i):=by
 intro pins s σ H xs us Q I r h
 obtain⟨p,S,n,rfl,hp,q⟩:=h
 obtain⟨u,rfl,rx⟩:=vals1 r
 cases rx
 obtain⟨o,es,ep,t,ho,hex,hd,_,_,hb,hf,hn⟩:=(show ObjOk X.prog X.w H s.heap p (.set S n) from I.hok p _ hp)
 refine call_len_set ho hex hd hf (by unfold scanBound at hb;left) ⟨.int (n:Int),H,I.tok _,⟨s.toks+1,by rw[hn]⟩,q⟩
end
theorem zbo (ts:List Tie)(ks:List Nat):Far.arcsF (arcsB ts ks)=arcs ts ks:=by
 unfold arcs Far.arcsF arcsB
 rw[List.map_flatMap]
 rfl
theorem zbk {n:Int}{ts:List Tie}{ks:List Nat}(ok:WebOk n ts)(ko:KeepOk ts.length ks):Far.Sym (arcs ts ks):=λ u v l h=>by
 rw[← zbo] at h ⊢
 obtain⟨k,m⟩:=Far.arcsF_mem.mp h
 exact Far.arcsF_mem.mpr ⟨k,(zbi ok ko).sym _ _ _ _ m⟩
def spReachedC (K:uac):Sp:=λ vs H Q _=>∃ n ts ks wv kv r,vs=[wv,kv,.int r]/\WK K H n ts ks wv kv/\0<=r/\r<n /\
 ∀ (p lc la:Addr)(cvs:List V)(as:List (Option Nat))(cs:List (Option (Int × Int)))(H':Hp),Same H H'->H' p=some (.tup [.ref lc,.ref la])->H' lc=some (.lst cvs)->H' la=some (.lst (as.map oa))->CostL H' cvs cs->Far.Best (arcsB ts ks) n.toNat r.toNat cs as->Far.Good (arcs ts ks) n.toNat r.toNat cs->Far.Stab (arcs ts ks) cs->Q (.ref p) H'
theorem znw {K:uac}(vs:List V)(H:Hp)(Q:VK)(E:XK)(h:spReachedB K vs H Q E):spReachedC K vs H Q E:=by
 obtain⟨n,ts,ks,wv,kv,r,e,wk,r0,r1,q⟩:=h
 exact⟨n,ts,ks,wv,kv,r,e,wk,r0,r1,λ p lc la cvs as cs H' S h1 h2 h3 cl B _ _=>q p lc la cvs as cs H' S h1 h2 h3 cl B⟩
theorem znv {K:uac}(vs:List V)(H:Hp)(Q:VK)(E:XK)(h:spReached K vs H Q E):spReachedC K vs H Q E:=by
 obtain⟨n,ts,ks,wv,kv,r,e,wk,r0,r1,q⟩:=h
 exact⟨n,ts,ks,wv,kv,r,e,wk,r0,r1,λ p lc la cvs as cs H' S h1 h2 h3 cl _ g st=>q p lc la cvs _ cs H' S h1 h2 h3 cl g st⟩
theorem zsx {ts:List Tie}{ks:List Nat}{cs:List (Option (Int × Int))}(h:Far.Stab2 (arcsB ts ks) cs):Far.Stab (arcs ts ks) cs:=λ u v l c m e=>by
 rw[← zbo] at m
 obtain⟨k,m⟩:=Far.arcsF_mem.mp m
 obtain⟨c',e',n'⟩:=h _ _ _ _ _ m e
 refine⟨c',e',?_⟩
 unfold Far.lt2 at n'
 simp only at n'
 left
theorem zsu {n:Int}{ts:List Tie}{ks:List Nat}(ok:WebOk n ts)(ko:KeepOk ts.length ks){u v k:Nat}{l:Int}(h:(u,v,l,k)∈arcsB ts ks):ks.filter (isTB ts u v)=[k]:=by
 have hk:k∈ks/\isTB ts u v k=true:=by
  obtain⟨j,hj,m⟩:=arcsB_mem.mp h
  have tk:=ok.tie _ (za6 (ko.2 j hj)).2
  unfold isTB
  rcases arcs2B_mem.mp m with e | e <;> cases e
  ·exact⟨hj,by rw[decide_eq_true (by left),decide_eq_true (by left)];rfl⟩
  ·exact⟨hj,by rw[decide_eq_true (by left),decide_eq_true (by left)];rfl⟩
 have one:∀ j∈ks,isTB ts u v j=true->j=k:=λ j hj p=>by
  have q:=hk.2
  have hjl:=ko.2 j hj
  have hkl:=ko.2 k hk.1
  unfold isTB at p q
  rw[ucb] at p q
  have a1:=of_decide_eq_true p.1
  have a2:=of_decide_eq_true p.2
  have b1:=of_decide_eq_true q.1
  have b2:=of_decide_eq_true q.2
  exact zqm ok hjl hkl (a1.trans b1.symm) (a2.trans b2.symm)
 have nd:ks.Nodup:=ko.1.imp λ h=>uas h
 have nf:(ks.filter (isTB ts u v)).Nodup:=nd.sublist List.filter_sublist
 have mk:k∈ks.filter (isTB ts u v):=ubl.mpr hk
 have all:∀ j∈ks.filter (isTB ts u v),j=k:=λ j hj=>one j (ubl.mp hj).1 (ubl.mp hj).2
 match e:ks.filter (isTB ts u v) with
 | []=>rw[e] at mk;cases mk
 | [j]=>rw[all j (by rw[e];exact ual)]
 | i::j::r =>
  rw[e] at nf all
  have h1:=all i ual
  have h2:=all j (uan _ ual)
  exact absurd (h1.trans h2.symm) (λ z=>(ucl.mp nf).1 (by rw[z];exact ual))
section
variable {own:List Str}{js:List Nat}{g:TG}{te:TE}{σ:L2.St}{Q:VK}{H1:Hp}
end
theorem zlw {ws:List Nat}{i u:Nat}(h:ws[i]?=some u):(natV ws)[i]?=some (.int (u:Int)):=by unfold natV;rw[uaj,h];rfl
theorem zks {ws:List Nat}(h:ws.Nodup):(keepI ws).Nodup:=by
 unfold keepI
 exact udx _ (λ a b h z=>h (by left)) h
end L3
namespace HT
open PySem PyProof.Rows
section
variable {prog:Program}{w:World}{A:Around}{R:Result->Shared->Prop}{I:Addr}{fp wr:List Addr}{G:Array GenState->Array GenState->Prop}{St:Nat->Shared->Prop}{its:List Value}{ns:List Int}
abbrev two8 (b:Int)(t:Tok)(c:Nat):Obj:={ cls:=.type "list",dict:=none,data:=.seq #[.int b t,.int b t] c,slots:=#[] }
def BotOf (ns:List Int)(j:Nat)(b:Int):Prop:=b∈ns/\∀ i,i<=j->i<ns.length->b<=ns.getD i 0
theorem zoo (W:WalksS prog w A.in1 I fp wr G its.length (λ i v=>its[i]?=some v) St)(hI:IntsAre its ns)(S:Addr)(hSf:S∉fp)(kw:List (Str × Value)):∀ (k j:Nat)(s:Shared)(b:Int)(t:Tok)(c:Nat),
  its.length-(j+1)=k->j+1<=its.length->St (j+1) s->BotOf ns j b->s.heap.get? S=some (two8 b t c) ->
  (∀ (b:Int)(t:Tok)(s':Shared),b∈ns->(∀ x∈ns,b<=x)->Moved (S::wr) G s s'->R (.ok (.ret (.int b t))) s')->codeAny (model prog w) A (.builtin "min.loop" ⟨[.ref I,.none,.ref S],kw⟩) R s:=by
 have nw:S∉wr:=λ h=>hSf (W.sub _ h)
 have up:∀ b∈wr,b∈S::wr:=λ b hb=>.tail _ hb
 have nm:(toString "min"++toString ".loop":String)="min.loop":=by decide
 have off:∀ {b:Addr},b∉S::wr->S≠b:=λ hb h=>hb (h ▸ ual)
 have hl:=hI.length
 intro k
 induction k with
 | zero =>
  intro j s b t c hk hj hst top hS hR
  have hin:j+1=its.length:=by left
  refine ubn ucy ?_;rw[Around.under_plainId ua9 _]
  show wpAny _ A.in1 (seqItems? (.ref S) >>= _) _ _ _;refine uab (ubv hS rfl ?_)
  show wpAny _ A.in1 (tryCatch (pyNext (.ref I)) _ >>= _) _ _ _;refine uab (uc7 (W.done s _ _ (hin ▸ hst) λ s1 hm=>?_))
  have hS1:=hm.heap S _ nw hS
  show wpAny _ A.in1 (updateSeq S (λ _=>#[]) >>= _) _ _ s1;refine uab (udk hS1 rfl (uab (udf (uah ?_))))
  refine hR b t _ top.1 (λ x hx=>?_) ((hm.mono up).then_heap (tk:=s1.toks) (uai _) λ b o hb e=>(Heap.get?_update_other _ _ (off hb)).trans e)
  obtain⟨i,hi,e⟩:=uc3 hx
  have:=top.2 i (by left) hi
  rw[uag,uad hi] at this
  rw[← e];exact this
 | succ k ih =>
  intro j s b t c hk hj hst top hS hR
  have hlt:j+1<its.length:=by left
  refine ubn ucy ?_;rw[Around.under_plainId ua9 _]
  show wpAny _ A.in1 (seqItems? (.ref S) >>= _) _ _ _;refine uab (ubv hS rfl ?_)
  show wpAny _ A.in1 (tryCatch (pyNext (.ref I)) _ >>= _) _ _ _;refine uab (uc7 (W.item (j+1) s _ _ hlt hst λ v s1 hP hst1 hm=>?_))
  have hS1:=hm.heap S _ nw hS
  obtain⟨u,rfl⟩:=IntsAre.int_at hI (j+1) v hP
  show wpAny _ A.in1 (tryCatch (holding [_,_] (richCompare .Lt _ _ >>= _)) _ >>= _) _ _ s1
  refine uab (uc7 (ubd (uab (lt_int (A:=A.in1) (uab (ubd (ub6 (uab (udf (uah ?_))))))))))
  have next:∀ m,m<=ns.getD (j+1) 0->m<=b->m∈ns->BotOf ns (j+1) m:=λ m h1 h2 h3=>⟨h3,λ i hi hi2=>by
   rcases ucz i (j+1) with z | z
   ·exact ufc h2 (top.2 i (by left) hi2)
   ·have:i=j+1:=by left
    subst this;exact h1⟩
  by_cases hb:ns.getD (j+1) 0<b
  ·rw[decide_eq_true hb];simp only [if_true]
   refine uab (udk hS1 rfl (uab (udf ?_)));rw[nm]
   have mem:ns.getD (j+1) 0∈ns:=by
    have:j+1<ns.length:=by left
    rw[uag,uad this];exact udb this
   refine uah ⟨ucd ua9 _,ih (j+1) _ _ u _ (by left) hlt (W.frame _ s1 _ s1.toks hst1 (uai _) λ b hbf o e=>(Heap.get?_update_other _ _ (λ h:S=b=>hSf (h ▸ hbf))).trans e) (next _ (ubf _) (by left) mem) (Heap.get?_update_self _ hS1 rfl) λ b' t' s2 h1 h2 hm2=>?_⟩
   exact hR b' t' s2 h1 h2 (Moved.trans W.gtrans ((hm.mono up).then_heap (tk:=s1.toks) (uai _) λ b o hb e=>(Heap.get?_update_other _ _ (off hb)).trans e) hm2)
  ·rw[decide_eq_false hb];simp only [ub5,if_false]
   refine uab (udf ?_);rw[nm]
   refine uah ⟨ucd ua9 _,ih (j+1) _ b t c (by left) hlt hst1 (next b (by left) (ubf _) top.1) hS1 λ b' t' s2 h1 h2 hm2=>?_⟩
   exact hR b' t' s2 h1 h2 (Moved.trans W.gtrans (hm.mono up) hm2)
end
section
variable {prog:Program}{w:World}{A:Around}{E:Value->Shared->Prop}{s:Shared}
theorem zqk {id:String}{b:Builtin}{args:Args}{Q:Value->Shared->Prop}(hk:builtinKind id=none)(hp:plainId id=true)(hb:entryFor table id=some b)(ha:argsOk id args)
  (hc:wpAny (model prog w) A.in1 (b args) (λ fin s'=>match fin with
   | .done f=>(match (Except.ok f:Result) with | .ok (.ret v)=>Q v s' | .ok _=>False | .error e=>E e s')
   | .again c'=>c'.quiet=true/\codeAny (model prog w) A c' (λ r s'=>match r with | .ok (.ret v)=>Q v s' | .ok _=>False | .error e=>E e s') s') E s):wpAny (model prog w) A (call (.builtin id) args.pos args.kw) Q E s:=by
 refine wpAny_call (ufp hp hb ?_);simp only [checkBuiltinCall,hk]
 cases hsig:Manifest.signature? id with
 | none=>exact uah hc
 | some sig =>
  have z:Bind.checkArgs id sig args=pure ():=by simpa only [argsOk,hsig] using ha
  simp only [z];exact uah hc
theorem zol (a v:Value):argsOk "min" ⟨[a],[(Str.ofString "default",v)]⟩:=by unfold argsOk;kernel_rfl
theorem zps {l:Addr}{its:List Value}{ns:List Int}{d:Value}{Q:Value->Shared->Prop}(hh:A.in1.handled=none)(hl:s.heap.IsList l its.toArray)(hI:IntsAre its ns)
  (h0:ns=[]->∀ (h':Heap)(tk:Nat),(∀ b o,s.heap.get? b=some o->h'.get? b=some o)->Q d { s with heap:=h',toks:=tk })
  (h1:∀ (b:Int)(t:Tok)(h':Heap)(tk:Nat),b∈ns->(∀ x∈ns,b<=x)->(∀ b o,s.heap.get? b=some o->h'.get? b=some o)->Q (.int b t) { s with heap:=h',toks:=tk }) :
  wpAny (model prog w) A (call (.builtin "min") [.ref l] [(Str.ofString "default",d)]) Q E s:=by
 have nm:(toString "min"++toString ".loop":String)="min.loop":=by decide
 refine zqk (args:=⟨[.ref l],[(Str.ofString "default",d)]⟩) PySem.F.kind_min PySem.F.plain_min PySem.F.entry_min (zol _ _) ?_
 show wpAny _ A.in1 (Builtin.Builtins.bindParams "min" ["key","default"] 0 ⟨[],[(Str.ofString "default",d)]⟩ >>= _) _ _ s
 refine uab (ufw (show Builtin.Builtins.bindParams "min" ["key","default"] 0 ⟨[],[(Str.ofString "default",d)]⟩=pure [none,some d] from rfl) (uab (uah ?_)))
 refine uab (uct hl ?_)
 have lt:l<s.heap.objs.size:=by obtain⟨o,e,_⟩:=hl;exact Heap.lt_size e
 have ne:l≠s.heap.objs.size:=uas lt
 have W:=(Walks.list (prog:=prog) (w:=w) (A:=A.in1) hh s.heap.objs.size l ne its.toArray).toS
 have nS:s.heap.objs.size+1∉[s.heap.objs.size,l]:=by
  simp only [uam,ua1,or_false,not_or];exact⟨ucq (ub2 _),ucq (ubz lt)⟩
 have esz:its.toArray.size=its.length:=uap
 rw[esz] at W
 have eP:(λ (i:Nat) (v:Value)=>its.toArray[i]?=some v)=λ i v=>its[i]?=some v:=by funext i v;simp
 rw[eP] at W
 refine uab (uel ?_ (ube _));rw[nm]
 have sz:∀ o:Obj,(s.heap.push o).objs.size=s.heap.objs.size+1:=λ o=>Heap.size_push ..
 refine uah ⟨ucd ua9 _,?_⟩
 rw[sz]
 generalize hg:((s.heap.push { cls:=Value.type "list_iterator",data:=Data.fields #[.ref l,.int 0 0] }).push { cls:=Value.type "list",data:=Data.seq #[] })=g
 have kg:∀ b o,s.heap.get? b=some o->g.get? b=some o:=λ b o e=>by rw[← hg];exact Heap.get?_push_of_some _ (Heap.get?_push_of_some _ e)
 have hS:g.get? (s.heap.objs.size+1)=some { cls:=.type "list",dict:=none,data:=.seq #[] 0,slots:=#[] }:=by rw[← hg,← sz];exact Heap.get?_push_size _ rfl
 have st0:g.IsListIter s.heap.objs.size l 0/\g.IsList l its.toArray:=by
  rw[← hg];exact⟨⟨_,Heap.get?_push_of_some _ (Heap.get?_push_size _ rfl),rfl,rfl⟩,(hl.push _).push _⟩
 have keep:∀ {s':Shared},Moved ((s.heap.objs.size+1)::[s.heap.objs.size]) (λ a b=>b=a) { s with heap:=g } s'->∀ b o,s.heap.get? b=some o->s'.heap.get? b=some o:=λ hm b o e=>by
  have lb:=Heap.lt_size e
  refine hm.heap b o (λ z=>?_) (kg b o e)
  simp only [uam,ua1,or_false] at z
  rcases z with z | z
  ·exact absurd lb (by rw[z];exact Nat.not_lt.mpr (uc5 _))
  ·exact absurd lb (by rw[z];exact ubs _)
 have hIl:=hI.length
 show codeAny (model prog w) A (.builtin "min.loop" ⟨[.ref s.heap.objs.size,.none,.ref (s.heap.objs.size+1)],[(Str.ofString "default",d)]⟩) _ { s with heap:=g }
 refine ubn ucy ?_;rw[Around.under_plainId ua9 _]
 show wpAny _ A.in1 (seqItems? (.ref (s.heap.objs.size+1)) >>= _) _ _ _;refine uab (ubv hS rfl ?_)
 show wpAny _ A.in1 (tryCatch (pyNext (.ref s.heap.objs.size)) _ >>= _) _ _ _
 by_cases e:its.length=0
 ·refine uab (uc7 (W.done { s with heap:=g } _ _ (by rw[e];exact st0) λ s1 hm=>?_))
  have en:ns=[]:=ucx.mp (by left)
  rw[Moved.eq_with hm]
  refine uab (udl (uah ?_))
  exact h0 en _ _ (keep (hm.mono λ b hb=>.tail _ hb))
 ·refine uab (uc7 (W.item 0 { s with heap:=g } _ _ (by left) st0 λ v s1 hP hst1 hm=>?_))
  have nw:s.heap.objs.size+1∉[s.heap.objs.size]:=λ z=>absurd (ua3.mp z) (ucq (ub2 _))
  have hS1:=hm.heap _ _ nw hS
  obtain⟨u,rfl⟩:=IntsAre.int_at hI 0 v hP
  show wpAny _ A.in1 (updateSeq (s.heap.objs.size+1) _ >>= _) _ _ s1
  refine uab (udk hS1 rfl ?_);rw[nm]
  have off:∀ {b:Addr},b∉(s.heap.objs.size+1)::[s.heap.objs.size]->s.heap.objs.size+1≠b:=λ hb h=>hb (h ▸ ual)
  have mem:ns.getD 0 0∈ns:=by
   have:0<ns.length:=by left
   rw[uag,uad this];exact udb this
  refine uah ⟨ucd ua9 _,zoo W hI _ nS _ _ 0 _ (ns.getD 0 0) u _ rfl (by left) (W.frame _ s1 _ s1.toks hst1 (uai _) λ b hbf o e=>(Heap.get?_update_other _ _ (λ h:s.heap.objs.size+1=b=>nS (by rw[h];exact hbf))).trans e) ⟨mem,λ i hi _=>?_⟩ (Heap.get?_update_self _ hS1 rfl) λ b t s2 q1 q2 hm2=>?_⟩
  ·have:i=0:=by left
   subst this;exact ubf _
  ·have hm3:=Moved.trans W.gtrans ((hm.mono λ b hb=>.tail _ hb).then_heap (tk:=s1.toks) (uai _) λ b o hb e=>(Heap.get?_update_other _ _ (off hb)).trans e) hm2
   rw[Moved.eq_with hm3]
   exact h1 b t _ _ q1 q2 (keep hm3)
end
end HT
namespace L3
open PySem PySem.Spec PyProof.Rows L2
def tMinD (t tk:TA):TE:=λ σ H Q=>t σ H λ vs H1=>tk σ H1 λ ws H2=>∃ (p:Addr)(ns:List Int)(y:V),vs=[.ref p]/\ws=[y]/\H2 p=some (.lst (ns.map V.int))/\(ns=[]->Q y H2)/\∀ b,b∈ns->(∀ x∈ns,b<=x)->Q (.int b) H2
theorem zs9 {X:Cx}{p pos kpos:Pos}{e d:Expr}{t tk:TA}(hc:X.calm=true)(hg:Gl X "min")(hm:X.mg "min"=none)(he:PA X [e] t)(hd:PK X [⟨some (Str.ofString "default"),d,kpos⟩] tk)(hs:starEach [e] X.env=[(false,eval e X.env)]:=by rfl)
  (hall:(backToKw pos (keywordEach [⟨some (Str.ofString "default"),d,kpos⟩] X.env)).filterMap (·.1)=[Str.ofString "default"]:=by rfl):PE X (.Call (.Name "min" p) [e] [⟨some (Str.ofString "default"),d,kpos⟩] pos) (tMinD t tk):=by
 intro pins s σ H Q I h
 refine uew (zfb I hg hm (u:=.builtin "min") (by symm) ?_)
 refine callWith_kw (e:=e) (rest:=[]) (thn (he pos pins s σ H _ I h) λ us s1 ⟨vs,H1,I1,r1,q1⟩=>?_) ?a ?b ?c ?d
 case a=>rw[hs];rfl
 case b=>rw[hs];rfl
 case c=>rfl
 case d=>rfl
 refine thn (hd pos pins s1 σ H1 _ I1 q1) λ ws s2 ⟨zs,H2,I2,r2,q2⟩=>?_
 obtain⟨p,ns,y,rfl,rfl,hp,q0,q1⟩:=q2
 obtain⟨u,rfl,ru⟩:=r1.one
 obtain⟨v,rfl,rv⟩:=r2.one
 cases ru
 rw[hall]
 obtain⟨its,rI,pl,hz⟩:=I2.list (SqL.of hp)
 refine HT.zps (show X.A.in1.handled=none from I2.ok.hd hc) pl.isList (zbd rI) (λ e h' tk hk=>?_) (λ b t h' tk h1 h2 hk=>?_)
 ·exact⟨y,H2,I2.kept (t':=tk) hk,rv,q0 e⟩
 ·exact⟨.int b,H2,I2.kept (t':=tk) hk,⟨t,rfl⟩,q1 b h1 h2⟩
theorem zjs (val:Nat->Int):∀ k,argBest (λ i j=>decide (val i>val j)) k<=k/\∀ i,i<=k->val i<=val (argBest (λ i j=>decide (val i>val j)) k)
 | 0=>⟨uai _,λ i hi=>by rw[show i=0 by left];exact ubf _⟩
 | k+1=>by
  obtain⟨h1,h2⟩:=zjs val k
  show (if decide (val (k+1)>val (argBest _ k))=true then k+1 else argBest _ k)<=k+1/\∀ i,i<=k+1->val i<=val (if decide (val (k+1)>val (argBest _ k))=true then k+1 else argBest _ k)
  by_cases c:val (k+1)>val (argBest (λ i j=>decide (val i>val j)) k)
  ·rw[if_pos (decide_eq_true c)]
   refine⟨uai _,λ i hi=>?_⟩
   rcases ucz i (k+1) with z | z
   ·have:=h2 i (by left);left
   ·rw[show i=k+1 by left];exact ubf _
  ·rw[if_neg (λ z=>c (of_decide_eq_true z))]
   refine⟨by left,λ i hi=>?_⟩
   rcases ucz i (k+1) with z | z
   ·exact h2 i (by left)
   ·rw[show i=k+1 by left];left
inductive call_maxL_i  (xs:List V) (H:Hp) (Q:VK):Prop
 | mk:∀ (p:Addr)(ns:List Int),(xs=[.ref p])->(H p=some (.lst (ns.map V.int)))->(ns≠[])->(∀ b,b∈ns->(∀ x∈ns,x<=b)->Q (.int b) H)->call_maxL_i xs H Q
theorem zpt {X:Cx}(hh:X.calm=true):CallR X (.builtin "max") (call_maxL_i):=by
 intro pins s σ H xs us Q I r h
 obtain⟨p,ns,rfl,hq,hne,q⟩:=h
 obtain⟨u,rfl,rx⟩:=vals1 r
 cases rx
 obtain⟨its,rv,pl,hz⟩:=I.list (SqL.of hq)
 have hl:=rv.length
 rw[uae] at hl
 have hI:IntsAre its ns:=zbd rv
 have lt:p≠s.heap.objs.size:=by obtain⟨o,e,_⟩:=pl.isList;exact uas (Heap.lt_size e)
 refine call_max_walkS (uct pl.isList ?_)
 have W:=(Walks.list (prog:=X.prog) (w:=X.w) (A:=X.A.in1) (show X.A.in1.handled=none from I.ok.hd hh) s.heap.objs.size p lt its.toArray).toS
 have npos:0<ns.length:=udy.mpr hne
 have esz:its.toArray.size=ns.length:=by rw[uap,← hl]
 have hv:∀ (i:Nat)(v:Value),its.toArray[i]?=some v->∃ t,v=Value.int (ns.getD i 0) t:=λ i v hv=>IntsAre.int_at hI i v (by simpa using hv)
 refine⟨s.heap.objs.size,_,_,_,_,_,_,(λ i j=>decide (ns.getD i 0>ns.getD j 0)),rfl,W,⟨⟨_,Heap.get?_push_size _ rfl,rfl,rfl⟩,pl.isList.push _⟩,λ b hb=>?_,by rw[esz];exact npos,CmpOf.ints_gt (λ i=>ns.getD i 0) hv,λ v s' hP hm=>?_⟩
 ·obtain⟨o,e,_⟩:=pl.isList
  have hlt:p<s.heap.objs.size:=Heap.lt_size e
  show b<(s.heap.push _).objs.size
  rw[Heap.size_push]
  simp only [uam,ua1,or_false] at hb
  rcases hb with z | z
  ·rw[z];exact ub2 _
  ·rw[z];exact ubz hlt
 ·obtain⟨t,rfl⟩:=hv _ _ hP
  obtain⟨b1,b2⟩:=zjs (λ i=>ns.getD i 0) (its.toArray.size-1)
  rw[Moved.eq_with hm]
  refine⟨.int _,H,I.kept (t':=s'.toks) λ b o e=>hm.heap b o (λ z=>?_) (Heap.get?_push_of_some _ e),⟨t,rfl⟩,q _ ?_ λ x hx=>?_⟩
  ·have:b=s.heap.objs.size:=by simpa using z
   exact absurd (Heap.lt_size e) (by rw[this];exact ubs _)
  ·have:argBest (λ i j=>decide (ns.getD i 0>ns.getD j 0)) (its.toArray.size-1)<ns.length:=by left
   rw[uag,uad this];exact udb this
  ·obtain⟨i,hi,e⟩:=uc3 hx
   have:=b2 i (by left)
   have g:ns.getD i 0=ns[i]:=by rw[uag,uad hi];rfl
   rw[← e,← g];exact this
theorem IsAll.at_ {K:uac}{H:Hp}:∀ {ds:List PyData}{vs:List V}{i:Nat}{d:PyData},IsAll K H ds vs->ds[i]?=some d->∃ v,vs[i]?=some v/\Is K H d v
 | [],vs,i,d,_,h=>by cases h
 | d0::ds,vs,0,d,⟨v,r,e,h1,_⟩,h=>by
  cases h
  exact⟨v,by rw[e];rfl,h1⟩
 | d0::ds,vs,i+1,d,⟨v,r,e,_,h2⟩,h=>by
  obtain⟨u,e1,e2⟩:=IsAll.at_ (i:=i) h2 h
  exact⟨u,by rw[e];exact e1,e2⟩
theorem IsAll.from_ {K:uac}{H:Hp}:∀ {ds:List PyData}{vs:List V}{i:Nat}{v:V},IsAll K H ds vs->vs[i]?=some v->∃ d,ds[i]?=some d/\Is K H d v
 | [],vs,i,v,h,e=>by
  have:vs=[]:=h
  rw[this] at e;cases e
 | d0::ds,vs,0,v,⟨u,r,e0,h1,_⟩,e=>by
  rw[e0] at e;cases e
  exact⟨d0,rfl,h1⟩
 | d0::ds,vs,i+1,v,⟨u,r,e0,_,h2⟩,e=>by
  rw[e0] at e
  exact IsAll.from_ (i:=i) h2 e
theorem znf {xs:List V}{us:List Value}(r:Vals xs us):∀ {u:Value},u∈us->∃ (i:Nat)(x:V),xs[i]?=some x/\RelV x u:=by
 induction r with
 | nil=>intro u hu;cases hu
 | cons r _ ih =>
  intro u hu
  rcases uam.mp hu with rfl | hu
  ·exact⟨0,_,rfl,r⟩
  ·obtain⟨i,x,e,q⟩:=ih hu
   exact⟨i+1,x,e,q⟩
theorem zsn {xs:List V}{us:List Value}(r:Vals xs us):∀ {i:Nat}{x:V},xs[i]?=some x->∃ u,u∈us/\RelV x u:=by
 induction r with
 | nil=>intro i x e;cases e
 | cons r _ ih =>
  intro i x e
  cases i with
  | zero=>cases e;exact⟨_,ual,r⟩
  | succ i =>
   obtain⟨u,hu,q⟩:=ih (i:=i) e
   exact⟨u,uan _ hu,q⟩
inductive op_notInD_i (K:uac)(uu:Nat)(x:V)(y:V)(H:Hp)(Q:VK):Prop
 | mk:∀ (p:Addr)(ds:List PyData)(vs:List V)(dx d:PyData),(y=.ref p)->(H p=some (.tup vs))->(IsAll K H ds vs)->(Is K H dx x)->((∀ d∈ds,d.canLay0=true))->(dx.canLay0=true)->(uu+1+dx.depth<cLine)->(d∈ds)->(PyData.eqv d dx=true)->(Q (.bl false) H)->op_notInD_i K uu x y H Q
theorem zob {X:Cx}:OpR X (compareOp .NotIn) (op_notInD_i X.K X.A.units):=by
 intro pins s σ H x y v u Q I rx ry h
 obtain⟨p,ds,vs,dx,d0,rfl,hp,hA,hx,lay,layx,hu,hd0,he0,q⟩:=h
 cases ry
 obtain⟨its,r,pl,hz⟩:=I.tuple (SqT.of hp)
 obtain⟨xs,rdx⟩:=zb4 I dx hx rx
 have room:∀ d:PyData,X.A.in1.units+min d.depth dx.depth<cLine:=λ d=>by
  have:X.A.in1.units=X.A.units+1:=rfl
  have:=Nat.min_le_right d.depth dx.depth
  left
 let e:Value->Bool:=λ w=>@decide (∃ (d:PyData)(as:List Addr),Reads s.heap w d as/\d.canLay0=true/\PyData.eqv d dx=true) (Classical.propDecidable _)
 have dat:∀ w∈its,∃ (d:PyData)(as:List Addr),Reads s.heap w d as/\d.canLay0=true:=λ w hw=>by
  obtain⟨i,x',hi,rel⟩:=znf r hw
  obtain⟨d,hd,hI⟩:=IsAll.from_ hA hi
  obtain⟨as,ra⟩:=zb4 I d hI rel
  exact⟨d,as,ra,lay d (ua2 hd)⟩
 refine SeqAt.notIn_tupleAt e pl (λ w hw=>?_) ⟨.bl _,H,I,rfl,?_⟩
 ·have hw':w∈its:=by simpa using hw
  by_cases c:∃ (d:PyData)(as:List Addr),Reads s.heap w d as/\d.canLay0=true/\PyData.eqv d dx=true
  ·have ec:e w=true:=@decide_eq_true _ (Classical.propDecidable _) c
   obtain⟨d,as,ra,ld,eq⟩:=c
   rw[ec,← eq]
   exact SeqAt.eqAt_reads d dx _ s _ _ _ _ ra rdx ld layx (room d)
  ·have ec:e w=false:=@decide_eq_false _ (Classical.propDecidable _) c
   obtain⟨d,as,ra,ld⟩:=dat w hw'
   have eq:PyData.eqv d dx=false:=ucr.mpr λ z=>c ⟨d,as,ra,ld,z⟩
   rw[ec,← eq]
   exact SeqAt.eqAt_reads d dx _ s _ _ _ _ ra rdx ld layx (room d)
 ·have any:its.toArray.any e=true:=by
   obtain⟨i,hi⟩:=uff hd0
   obtain⟨v',hv',hI⟩:=IsAll.at_ hA hi
   obtain⟨w,hw,rel⟩:=zsn r hv'
   obtain⟨as,ra⟩:=zb4 I d0 hI rel
   have:e w=true:=@decide_eq_true _ (Classical.propDecidable _) ⟨d0,as,ra,lay d0 hd0,he0⟩
   simp only [List.any_toArray]
   exact ucu.mpr ⟨w,hw,this⟩
  rw[any];exact q
section
variable {own:List Str}{js:List Nat}{g:TG}{tt:TT}{te:TE}{σ:L2.St}{Q:VK}{H1:Hp}
theorem zmw {K K':uac}{a:Addr}{xs:List V}(hx:H1 a=some (.lst xs))(Sg:L2.St->Prop)(sel:Nat->Option PyData)(tup:∀ i d,sel i=some d->tupD d=true)(hn:xs.length<=1000)(h0:Sg (start3 own js σ))
  (step:∀ i x T σ' H',xs[i]?=some x->Same H1 H'->H' T=none->Sg σ'->∀ (C:L2.St->V->Hp->Prop)(L:L2.St->Hp->Prop),(∀ σ3 v d H5,Sg σ3->Same H' H5->sel i=some d->Is K' H5 d v->C σ3 v H5)->(∀ σ3 H5,Sg σ3->Same H' H5->sel i=none->L σ3 H5) ->
   g (.ref T) σ' (upd H' T (.tup [.int (i:Nat),x])) λ σ3 H3=>tt σ3 H3 λ b H4=>if b=true then te σ3 H4 λ v H5=>C σ3 v H5 else L σ3 H4)
  (fin:∀ D ys H',H1 D=none->Same H1 H'->H' D=some (.lst ys)->ys.length<=xs.length->IsAll K' H' ((uaf xs.length).filterMap sel) ys->Q (.ref D) H'):CompGo own js g tt te σ Q (Itn false K a) H1:=by
 intro D hD
 have s1:∀ H',Same H1 H'->SqX false K H' a xs:=λ H' s=>SqX.of (s _ _ hx)
 have tupI:∀ i,tupAll ((uaf i).filterMap sel)=true:=λ i=>by
  have go:∀ is:List Nat,tupAll (is.filterMap sel)=true:=λ is=>by
   induction is with
   | nil=>rfl
   | cons j r ih =>
    rw[uca]
    cases e:sel j with
    | none=>exact ih
    | some d=>show (tupD d&&tupAll (r.filterMap sel))=true;rw[tup j d e,ih];rfl
  exact go _
 refine⟨λ i m ys σ' H'=>m=xs.length-i/\i<=xs.length/\Sg σ'/\Same H1 H'/\ys.length<=i/\IsAll K' H' ((uaf i).filterMap sel) ys,⟨xs.length,rfl,ube _,h0,zam hD,uai _,rfl⟩,?_⟩
 rintro i m ys σ' H' ⟨rfl,hi,sg,sm,ly,ia⟩ hd
 by_cases hlt:i<xs.length
 ·refine .inr ⟨⟨xs,xs[i],s1 H' sm,by simp [hlt]⟩,λ x H2 hy=>?_⟩
  obtain⟨T,y,hT,rfl,rfl,e⟩:=hy
  refine step i y T σ' H' (e _ (s1 H' sm)) sm hT sg
   (λ σ3 v H5=>H5 D=some (.lst ys)/\ys.length<sizeLine/\∃ m',m'<xs.length-i/\(m'=xs.length-(i+1)/\i+1<=xs.length/\Sg σ3/\Same H1 (upd H5 D (.lst (ys++[v])))/\(ys++[v]).length<=i+1/\IsAll K' (upd H5 D (.lst (ys++[v]))) ((uaf (i+1)).filterMap sel) (ys++[v])))
   (λ σ3 H5=>H5 D=some (.lst ys)/\∃ m',m'<xs.length-i/\(m'=xs.length-(i+1)/\i+1<=xs.length/\Sg σ3/\Same H1 H5/\ys.length<=i+1/\IsAll K' H5 ((uaf (i+1)).filterMap sel) ys)) (λ σ3 v d H5 sg3 s5 e hv=>?_) (λ σ3 H5 sg3 s5 e=>?_)
  ·have hd5:=s5 _ _ hd
   have b5:But D H5 (upd H5 D (.lst (ys++[v]))):=λ b o hb z=>by rw[zan hb];exact z
   refine⟨hd5,ubr (by left:ys.length<=1000) (by decide),xs.length-(i+1),by left,rfl,hlt,sg3,λ b o z=>?_,by rw[uar,uax];left,?_⟩
   ·rw[zan (zak z hD)];exact s5 _ _ (sm _ _ z)
   ·rw[ucf,ucj,show [i].filterMap sel=[d] by simp [e]]
    exact IsAll.snoc (Is.but b5 hd5 _ (tup i d e) hv) (IsAll.but b5 hd5 _ (tupI i) (IsAll.same s5 _ ia))
  ·refine⟨s5 _ _ hd,xs.length-(i+1),by left,rfl,hlt,sg3,sm.trans s5,by left,?_⟩
   rw[ucf,ucj,show [i].filterMap sel=[] by simp [e],ud4]
   exact IsAll.same s5 _ ia
 ·have e:i=xs.length:=by left
  subst e
  exact .inl ⟨⟨xs,s1 H' sm,uai _⟩,fin D ys H' hD sm hd ly ia⟩
end
def lvl (ls:List (List Nat))(i:Nat):List Nat:=ls.getD i []
structure LevOk (n:Nat)(ls:List (List Nat)):Prop where
 one:1<=ls.length
 six:ls.length<=6
 first:lvl ls 0=uaf n
 rise:∀ i,(lvl ls i).Pairwise (·<·)
 inn:∀ i,∀ p∈lvl ls i,p<n
 down:∀ i,∀ p∈lvl ls (i+1),p∈lvl ls i
theorem ze6 {ls:List (List Nat)}{i:Nat}(h:ls.length<=i):lvl ls i=[]:=by unfold lvl;rw[uag,uat h];rfl
theorem LevOk.len {n:Nat}{ls:List (List Nat)}(h:LevOk n ls)(i:Nat):(lvl ls i).length<=n:=KeepOk.len (m:=n) (ks:=lvl ls i) ⟨h.rise i,h.inn i⟩
def IsTop (ls:List (List Nat))(w b:Nat):Prop:=b<ls.length/\w∈lvl ls b/\∀ i,i<ls.length->w∈lvl ls i->i<=b
theorem IsTop.unique {ls:List (List Nat)}{w b b':Nat}(h:IsTop ls w b)(h':IsTop ls w b'):b'=b:=by
 have:=h.2.2 b' h'.1 h'.2.1
 have:=h'.2.2 b h.1 h.2.1
 left
structure IsNear (ls:List (List Nat))(m:Nat)(D:List (Option Int))(o:Option Int):Prop where
 has:∀ y,o=some y->∃ p,p∈lvl ls m/\Far.get D p=some y
 least:∀ p x,p∈lvl ls m->Far.get D p=some x->∃ y,o=some y/\y<=x
def Bun (ls:List (List Nat))(D:List (Option Int))(w:Nat):Prop:=∃ x,Far.get D w=some x/\∀ b p y,IsTop ls w b->p∈lvl ls (b+1)->Far.get D p=some y->x<y
noncomputable def bunB (ls:List (List Nat))(D:List (Option Int))(w:Nat):Bool:=@decide (Bun ls D w) (Classical.propDecidable _)
theorem bunB_iff {ls:List (List Nat)}{D:List (Option Int)}{w:Nat}:bunB ls D w=true↔Bun ls D w:=by unfold bunB;exact @decide_eq_true_iff _ (Classical.propDecidable _)
theorem zr1 {ls:List (List Nat)}{D:List (Option Int)}{w:Nat}(h:Far.get D w=none):bunB ls D w=false:=ucr.mpr λ z=>by
 obtain⟨x,e,_⟩:=bunB_iff.mp z
 rw[h] at e;cases e
def nearB (x:Int):Option Int->Bool
 | none=>true
 | some y=>decide (x<y)
theorem zux {ls:List (List Nat)}{D:List (Option Int)}{w b:Nat}{x:Int}{o:Option Int}(t:IsTop ls w b)(nr:IsNear ls (b+1) D o)(e:Far.get D w=some x):bunB ls D w=nearB x o:=by
 rw[uc4,bunB_iff]
 constructor
 ·rintro ⟨x',e',h⟩
  rw[e] at e';cases e'
  cases o with
  | none=>rfl
  | some y =>
   obtain⟨p,hp,ep⟩:=nr.has y rfl
   exact decide_eq_true (h b p y t hp ep)
 ·intro h
  refine⟨x,e,λ b' p y t' hp ep=>?_⟩
  rw[t.unique t'] at hp
  obtain⟨y',e',le⟩:=nr.least p y hp ep
  subst e'
  have:x<y':=of_decide_eq_true h
  left
def bunD (D:List (Option Int))(w:Nat):PyData:=.tuple (([(w:Int),(Far.get D w).getD 0]:List Int).map .int)
noncomputable def bunSel (ls:List (List Nat))(D:List (Option Int))(w:Nat):Option PyData:=if bunB ls D w=true then some (bunD D w) else none
noncomputable def bunchL (ls:List (List Nat))(D:List (Option Int))(n:Nat):List PyData:=(uaf n).filterMap (bunSel ls D)
theorem zm3 {ls:List (List Nat)}{D:List (Option Int)}(i:Nat)(d:PyData)(h:bunSel ls D i=some d):tupD d=true:=by
 unfold bunSel at h
 split at h
 ·cases h;rfl
 ·cases h
theorem zq8 (D:List (Option Int))(w:Nat):(bunD D w).canLay0=true:=zb8 _
theorem zeo {K:uac}{H:Hp}{ls:List (List Nat)}{v:V}(h:Is K H (piecesD ls) v):∃ p vs,v=.ref p/\H p=some (.tup vs)/\vs.length=ls.length/\∀ i,i<ls.length->∃ t,vs[i]?=some (.ref t)/\H t=some (.tup (natV (lvl ls i))):=by
 obtain⟨p,vs,rfl,hp,ia⟩:=h
 have hl:=ia.length
 rw[uae] at hl
 refine⟨p,vs,rfl,hp,hl,λ i hi=>?_⟩
 have e:(ls.map pieceD)[i]?=some (pieceD (lvl ls i)):=by
  rw[uaj,uad hi]
  unfold lvl
  rw[uag,uad hi];rfl
 obtain⟨x,e1,h1⟩:=IsAll.at_ ia e
 obtain⟨t,rfl,ht⟩:=zeu h1
 exact⟨t,e1,ht⟩
abbrev Lv (K:uac)(H:Hp)(n:Nat)(ls:List (List Nat))(v:V):Prop:=Is K H (piecesD ls) v/\LevOk n ls/\n<=24
def FarsOf (ts:List Tie)(n s:Nat)(D:List (Option Int)):Prop:=D.length=n/\∀ u,u<n->Far.Dst (arcs ts (uaf ts.length)) s u (Far.get D u)
theorem FarsOf.unique {ts:List Tie}{n s:Nat}{D D':List (Option Int)}(h:FarsOf ts n s D)(h':FarsOf ts n s D'):D'=D:=ucc λ i=>by
 by_cases hi:i<n
 ·have z:=(h'.2 i hi).unique (h.2 i hi)
  have l1:=h.1
  have l2:=h'.1
  unfold Far.get at z
  rw[uag,uad (by left),uag,uad (by left)] at z
  rw[uad (by left),uad (by left)]
  exact congrArg some z
 ·have l1:=h.1
  have l2:=h'.1
  rw[uat (by left),uat (by left)]
def spIsLevel (K:uac):Sp:=λ vs H Q _=>∃ (n:Int)(ts:List Tie)(wv:V)(p:Addr)(l:List Nat),vs=[wv,.ref p]/\Is K H (webD n ts) wv/\H p=some (.tup (natV l))/\l.length<=24/\l.Pairwise (·<·)/\(∀ x∈l,x<n.toNat)/\∀ H',Same H H'->Q (.bl true) H'
def spLies (K:uac):Sp:=λ vs H Q _=>∃ (p q:Addr)(l m:List Nat),vs=[.ref p,.ref q]/\H p=some (.tup (natV l))/\H q=some (.tup (natV m))/\l.length<=24/\(∀ x∈l,x∈m)/\∀ H',Same H H'->Q (.bl true) H'
def spAreLev (K:uac):Sp:=λ vs H Q _=>∃ (n:Int)(ts:List Tie)(ls:List (List Nat))(wv lv:V),vs=[wv,lv]/\Is K H (webD n ts) wv/\1<=n/\Lv K H n.toNat ls lv/\∀ H',Same H H'->Q (.bl true) H'
def spNeedLev (K:uac):Sp:=λ vs H Q _=>∃ (n:Int)(ts:List Tie)(ls:List (List Nat))(wv lv:V),vs=[wv,lv]/\Is K H (webD n ts) wv/\1<=n/\Lv K H n.toNat ls lv/\∀ H',Same H H'->Q .non H'
def spTop (K:uac):Sp:=λ vs H Q _=>∃ (n:Nat)(ls:List (List Nat))(lv:V)(w:Nat),vs=[lv,.int (w:Int)]/\Lv K H n ls lv/\w<n/\∀ b H',Same H H'->IsTop ls w b->Q (.int (b:Int)) H'
def spNearL (K:uac):Sp:=λ vs H Q _=>∃ (n:Nat)(ls:List (List Nat))(lv:V)(m:Nat)(l:Addr)(D:List (Option Int)),vs=[lv,.int (m:Int),.ref l]/\Lv K H n ls lv/\m<=ls.length/\H l=some (.lst (D.map ov))/\D.length=n/\∀ o H',Same H H'->IsNear ls m D o->Q (ov o) H'
def spBunched (K:uac):Sp:=λ vs H Q _=>∃ (n:Nat)(ls:List (List Nat))(lv:V)(l:Addr)(D:List (Option Int))(w:Nat),vs=[lv,.ref l,.int (w:Int)]/\Lv K H n ls lv/\H l=some (.lst (D.map ov))/\D.length=n/\w<n/\∀ H',Same H H'->Q (.bl (bunB ls D w)) H'
def spWebFars (K:uac):Sp:=λ vs H Q _=>∃ (n:Int)(ts:List Tie)(wv:V)(s:Int),vs=[wv,.int s]/\Is K H (webD n ts) wv/\WebOk n ts/\0<=s/\s<n/\∀ l D H',Same H H'->H l=none->H' l=some (.lst (D.map ov))->FarsOf ts n.toNat s.toNat D->Q (.ref l) H'
def spBunch (K:uac):Sp:=λ vs H Q _=>∃ (n:Int)(ts:List Tie)(ls:List (List Nat))(wv lv:V)(s:Int),vs=[wv,lv,.int s]/\Is K H (webD n ts) wv/\WebOk n ts/\Lv K H n.toNat ls lv/\0<=s/\s<n/\∀ t ys D H',Same H H'->FarsOf ts n.toNat s.toNat D->H' t=some (.tup ys)->IsAll K H' (bunchL ls D n.toNat) ys->Q (.ref t) H'
def spLevels (K:uac):Sp:=λ vs H Q _=>∃ (p:Addr)(n:Int),vs=[.ref p,.int n]/\Pot H p/\1<=n/\n<=24/\∀ v H' ls,But p H H'->Pot H' p->Lv K H' n.toNat ls v->Q v H'
def FarsT (H:Hp)(p lf:Addr)(n:Nat)(ts:List Tie):Prop:=∃ ys,H lf=some (.lst ys)/\lf≠p/\ys.length=n/\∀ i v,ys[i]?=some v->∃ l D,v=.ref l/\l≠p/\H l=some (.lst (D.map ov))/\FarsOf ts n i D
def spMost:Sp:=λ vs H Q _=>∃ (p:Addr)(k:Int),vs=[.ref p,.int k]/\Pot H p/\∀ m H',But p H H'->Pot H' p->1<=m->m<=24->Q (.int m) H'
theorem zr0 {n:Int}{ts:List Tie}{ls:List (List Nat)}{D:List (Option Int)}{s:Nat}(ok:WebOk n ts)(hs:s<n.toNat)(F:FarsOf ts n.toNat s D)(lo:LevOk n.toNat ls):bunB ls D s=true/\Far.get D s=some 0:=by
 have P:=zbh ok (⟨ubw,λ k hk=>uaq.mp hk⟩:KeepOk ts.length (uaf ts.length))
 have e0:Far.get D s=some 0:=by
  obtain⟨y,e,le⟩:=(F.2 s hs).2 0 .nil
  have:=((F.2 s hs).1 y e).nonneg P
  rw[e,show y=0 by left]
 refine⟨bunB_iff.mpr ⟨0,e0,λ b p y t hp ep=>?_⟩,e0⟩
 have hpn:=lo.inn _ p hp
 have w:=(F.2 p hpn).1 y ep
 cases hw:w with
 | nil =>
  have bl:b+1<ls.length:=by
   rcases ucz (b+1) ls.length with z | z
   ·exact z
   ·rw[ze6 z] at hp;cases hp
  have:=t.2.2 (b+1) bl hp
  left
 | @snoc u _ l x w' m =>
  have:=P _ _ _ m
  have:=w'.nonneg P
  left
theorem znt {l:List Nat}(h:l.Pairwise (·<·)):risI (keepI l)=true:=by
 unfold risI
 rw[uec]
 refine uci.mpr λ i hi=>?_
 have hi':=uaq.mp hi
 have ll:(keepI l).length=l.length:=by unfold keepI;rw[uae]
 rw[udm,ll] at hi'
 have g:∀ j (hj:j<l.length),(keepI l).getD j 0=((l[j]:Nat):Int):=λ j hj=>by
  unfold keepI;rw[uag,uaj,uad hj];rfl
 have g2:((keepI l).drop 1).getD i 0=(keepI l).getD (i+1) 0:=by rw[uag,uag,uen,ufb]
 show decide ((keepI l).getD i 0<((keepI l).drop 1).getD i 0)=true
 rw[g2,g i (by left),g (i+1) (by left)]
 have:=ucg.mp h i (i+1) (by left) (by left) (by left)
 exact decide_eq_true (by left)
end L3
namespace HT
open PySem PyProof.Rows
theorem ze9:∀ {a b c:List Int},lexLt a b=true->lexLt b c=true->lexLt a c=true
 | [],[],_,h,_=>by cases h
 | [],_::_,[],_,h=>by cases h
 | [],_::_,_::_,_,_=>rfl
 | _::_,[],_,h,_=>by cases h
 | _::_,_::_,[],_,h=>by cases h
 | x::xs,y::ys,z::zs,h1,h2=>by
  rw[zby] at h1 h2 ⊢
  by_cases e1:x=y
  ·subst e1
   rw[if_pos rfl] at h1
   by_cases e2:x=z
   ·rw[if_pos e2] at h2 ⊢;exact ze9 h1 h2
   ·rw[if_neg e2] at h2 ⊢;exact h2
  ·rw[if_neg e1] at h1
   have l1:=of_decide_eq_true h1
   by_cases e2:y=z
   ·subst e2
    rw[if_neg e1];exact h1
   ·rw[if_neg e2] at h2
    have l2:=of_decide_eq_true h2
    rw[if_neg (by left)];exact decide_eq_true (by left)
section
variable {prog:Program}{w:World}{A:Around}{R:Result->Shared->Prop}{I:Addr}{fp wr:List Addr}{G:Array GenState->Array GenState->Prop}{St:Nat->Shared->Prop}{its:List Value}{ks:List (List Int)}
abbrev twoV (v:Value)(c:Nat):Obj:={ cls:=.type "list",dict:=none,data:=.seq #[v,v] c,slots:=#[] }
def TupAt (h:Heap)(v:Value)(k:List Int):Prop:=∃ a xs,v=.ref a/\h.IsTuple a xs/\IntsAre xs.toList k
def TupsAt (h:Heap)(its:List Value)(ks:List (List Int)):Prop:=∀ i v,its[i]?=some v->TupAt h v (ks.getD i [])
theorem TupsAt.move {h h':Heap}(t:TupsAt h its ks)(k:∀ (i:Nat) (a:Addr) (o:Obj),its[i]?=some (Value.ref a)->h.get? a=some o->h'.get? a=some o):TupsAt h' its ks:=λ i v e=>by
 obtain⟨a,xs,rfl,⟨o,ho,hx⟩,hi⟩:=t i v e
 exact⟨a,xs,rfl,⟨o,k i a o e ho,hx⟩,hi⟩
theorem zon (W:WalksS prog w A.in1 I fp wr G its.length (λ i v=>its[i]?=some v) St)(hu:A.in1.units<cLine)(S:Addr)(hSf:S∉fp)(off:∀ (i:Nat) (a:Addr),its[i]?=some (Value.ref a)->a∉S::wr):∀ (k j:Nat)(s:Shared)(b:Nat)(v:Value)(c:Nat),
  its.length-(j+1)=k->j+1<=its.length->St (j+1) s->b<=j->its[b]?=some v->(∀ i,i<=j->lexLt (ks.getD i []) (ks.getD b [])=false)->s.heap.get? S=some (twoV v c)->TupsAt s.heap its ks ->
  (∀ (b:Nat)(v:Value)(s':Shared),its[b]?=some v->(∀ i,i<its.length->lexLt (ks.getD i []) (ks.getD b [])=false)->Moved (S::wr) G s s'->R (.ok (.ret v)) s')->codeAny (model prog w) A (.builtin "min.loop" ⟨[.ref I,.none,.ref S],[]⟩) R s:=by
 have nw:S∉wr:=λ h=>hSf (W.sub _ h)
 have up:∀ b∈wr,b∈S::wr:=λ b hb=>.tail _ hb
 have nm:(toString "min"++toString ".loop":String)="min.loop":=by decide
 have offS:∀ {b:Addr},b∉S::wr->S≠b:=λ hb h=>hb (h ▸ ual)
 intro k
 induction k with
 | zero =>
  intro j s b v c hk hj hst hbj hv top hS hT hR
  have hin:j+1=its.length:=by left
  refine ubn ucy ?_;rw[Around.under_plainId ua9 _]
  show wpAny _ A.in1 (seqItems? (.ref S) >>= _) _ _ _;refine uab (ubv hS rfl ?_)
  show wpAny _ A.in1 (tryCatch (pyNext (.ref I)) _ >>= _) _ _ _;refine uab (uc7 (W.done s _ _ (hin ▸ hst) λ s1 hm=>?_))
  have hS1:=hm.heap S _ nw hS
  show wpAny _ A.in1 (updateSeq S (λ _=>#[]) >>= _) _ _ s1;refine uab (udk hS1 rfl (uab (udf (uah ?_))))
  exact hR b v _ hv (λ i hi=>top i (by left)) ((hm.mono up).then_heap (tk:=s1.toks) (uai _) λ b o hb e=>(Heap.get?_update_other _ _ (offS hb)).trans e)
 | succ k ih =>
  intro j s b v c hk hj hst hbj hv top hS hT hR
  have hlt:j+1<its.length:=by left
  refine ubn ucy ?_;rw[Around.under_plainId ua9 _]
  show wpAny _ A.in1 (seqItems? (.ref S) >>= _) _ _ _;refine uab (ubv hS rfl ?_)
  show wpAny _ A.in1 (tryCatch (pyNext (.ref I)) _ >>= _) _ _ _;refine uab (uc7 (W.item (j+1) s _ _ hlt hst λ u s1 hP hst1 hm=>?_))
  have hS1:=hm.heap S _ nw hS
  have hT1:TupsAt s1.heap its ks:=hT.move λ i a o ei ho=>hm.heap a o (λ z=>off i a ei (up _ z)) ho
  obtain⟨a1,xs1,rfl,t1,i1⟩:=hT1 _ _ hP
  obtain⟨a2,xs2,rfl,t2,i2⟩:=hT1 _ _ hv
  show wpAny _ A.in1 (tryCatch (holding [_,_] (richCompare .Lt _ _ >>= _)) _ >>= _) _ _ s1
  refine uab (uc7 (ubd (uab (zgt (A:=A.in1) t1 t2 i1 i2 hu (uab (ubd (ub6 (uab (udf (uah ?_))))))))))
  by_cases hb:lexLt (ks.getD (j+1) []) (ks.getD b [])=true
  ·rw[hb];simp only [if_true]
   refine uab (udk hS1 rfl (uab (udf ?_)));rw[nm]
   refine uah ⟨ucd ua9 _,ih (j+1) _ (j+1) _ _ (by left) hlt (W.frame _ s1 _ s1.toks hst1 (uai _) λ b hbf o e=>(Heap.get?_update_other _ _ (λ h:S=b=>hSf (h ▸ hbf))).trans e) (uai _) hP (λ i hi=>?_) (Heap.get?_update_self _ hS1 rfl) (hT1.move λ i a o ei ho=>(Heap.get?_update_other _ _ (offS (off i a ei))).trans ho) λ b' v' s2 h1 h2 hm2=>?_⟩
   ·rcases ucz i (j+1) with z | z
    ·exact ucr.mpr λ y=>by
      have:=ze9 y hb
      rw[top i (by left)] at this;cases this
    ·rw[show i=j+1 by left]
     exact ucr.mpr λ y=>by
      have irr:∀ l:List Int,lexLt l l=false:=λ l=>by
       induction l with
       | nil=>rfl
       | cons x r ih=>rw[zby,if_pos rfl];exact ih
      rw[irr] at y;cases y
   ·exact hR b' v' s2 h1 h2 (Moved.trans W.gtrans ((hm.mono up).then_heap (tk:=s1.toks) (uai _) λ b o hb e=>(Heap.get?_update_other _ _ (offS hb)).trans e) hm2)
  ·have hb':=ucr.mpr hb
   rw[hb'];simp only [ub5,if_false]
   refine uab (udf ?_);rw[nm]
   refine uah ⟨ucd ua9 _,ih (j+1) _ b _ c (by left) hlt hst1 (by left) hv (λ i hi=>?_) hS1 hT1 λ b' v' s2 h1 h2 hm2=>?_⟩
   ·rcases ucz i (j+1) with z | z
    ·exact top i (by left)
    ·rw[show i=j+1 by left];exact hb'
   ·exact hR b' v' s2 h1 h2 (Moved.trans W.gtrans (hm.mono up) hm2)
end
section
variable {prog:Program}{w:World}{A:Around}{E:Value->Shared->Prop}{s:Shared}
theorem zpr {l:Addr}{its:List Value}{ks:List (List Int)}{Q:Value->Shared->Prop}(hh:A.in1.handled=none)(hu:A.in1.units<cLine)(hl:s.heap.IsList l its.toArray)(hT:TupsAt s.heap its ks)(hne:its≠[])
  (h1:∀ (b:Nat)(v:Value)(h':Heap)(tk:Nat),its[b]?=some v->(∀ i,i<its.length->lexLt (ks.getD i []) (ks.getD b [])=false)->(∀ b o,s.heap.get? b=some o->h'.get? b=some o)->Q v { s with heap:=h',toks:=tk }) :
  wpAny (model prog w) A (call (.builtin "min") [.ref l]) Q E s:=by
 have nm:(toString "min"++toString ".loop":String)="min.loop":=by decide
 refine call_function_tree PySem.F.kind_min PySem.F.plain_min PySem.F.entry_min (PySem.F.args_min1 _) ?_
 show wpAny _ A.in1 (Builtin.Builtins.bindParams "min" ["key","default"] 0 ⟨[],[]⟩ >>= _) _ _ s
 refine uab (ufw (show Builtin.Builtins.bindParams "min" ["key","default"] 0 ⟨[],[]⟩=pure [none,none] from rfl) (uab (uah ?_)))
 refine uab (uct hl ?_)
 have lt:l<s.heap.objs.size:=by obtain⟨o,e,_⟩:=hl;exact Heap.lt_size e
 have ne:l≠s.heap.objs.size:=uas lt
 have W:=(Walks.list (prog:=prog) (w:=w) (A:=A.in1) hh s.heap.objs.size l ne its.toArray).toS
 have nS:s.heap.objs.size+1∉[s.heap.objs.size,l]:=by
  simp only [uam,ua1,or_false,not_or];exact⟨ucq (ub2 _),ucq (ubz lt)⟩
 have esz:its.toArray.size=its.length:=uap
 rw[esz] at W
 have eP:(λ (i:Nat) (v:Value)=>its.toArray[i]?=some v)=λ i v=>its[i]?=some v:=by funext i v;simp
 rw[eP] at W
 refine uab (uel ?_ (ube _));rw[nm]
 have sz:∀ o:Obj,(s.heap.push o).objs.size=s.heap.objs.size+1:=λ o=>Heap.size_push ..
 refine uah ⟨ucd ua9 _,?_⟩
 rw[sz]
 generalize hg:((s.heap.push { cls:=Value.type "list_iterator",data:=Data.fields #[.ref l,.int 0 0] }).push { cls:=Value.type "list",data:=Data.seq #[] })=g
 have kg:∀ b o,s.heap.get? b=some o->g.get? b=some o:=λ b o e=>by rw[← hg];exact Heap.get?_push_of_some _ (Heap.get?_push_of_some _ e)
 have hS:g.get? (s.heap.objs.size+1)=some { cls:=.type "list",dict:=none,data:=.seq #[] 0,slots:=#[] }:=by rw[← hg,← sz];exact Heap.get?_push_size _ rfl
 have st0:g.IsListIter s.heap.objs.size l 0/\g.IsList l its.toArray:=by
  rw[← hg];exact⟨⟨_,Heap.get?_push_of_some _ (Heap.get?_push_size _ rfl),rfl,rfl⟩,(hl.push _).push _⟩
 have notin:∀ b o,s.heap.get? b=some o->b∉(s.heap.objs.size+1)::[s.heap.objs.size]:=λ b o e z=>by
  have lb:=Heap.lt_size e
  simp only [uam,ua1,or_false] at z
  rcases z with z | z
  ·exact absurd lb (by rw[z];exact Nat.not_lt.mpr (uc5 _))
  ·exact absurd lb (by rw[z];exact ubs _)
 have keep:∀ {s':Shared},Moved ((s.heap.objs.size+1)::[s.heap.objs.size]) (λ a b=>b=a) { s with heap:=g } s'->∀ b o,s.heap.get? b=some o->s'.heap.get? b=some o:=λ hm b o e=>hm.heap b o (notin b o e) (kg b o e)
 have off:∀ (i:Nat)(a:Addr),its[i]?=some (Value.ref a)->a∉(s.heap.objs.size+1)::[s.heap.objs.size]:=λ i a e=>by
  obtain⟨a',xs,ea,⟨o,ho,_⟩,_⟩:=hT i _ e
  cases ea
  exact notin a o ho
 have hTg:TupsAt g its ks:=hT.move λ i a o _ ho=>kg a o ho
 show codeAny (model prog w) A (.builtin "min.loop" ⟨[.ref s.heap.objs.size,.none,.ref (s.heap.objs.size+1)],[]⟩) _ { s with heap:=g }
 refine ubn ucy ?_;rw[Around.under_plainId ua9 _]
 show wpAny _ A.in1 (seqItems? (.ref (s.heap.objs.size+1)) >>= _) _ _ _;refine uab (ubv hS rfl ?_)
 show wpAny _ A.in1 (tryCatch (pyNext (.ref s.heap.objs.size)) _ >>= _) _ _ _
 have npos:0<its.length:=udy.mpr hne
 refine uab (uc7 (W.item 0 { s with heap:=g } _ _ npos st0 λ v s1 hP hst1 hm=>?_))
 have nw:s.heap.objs.size+1∉[s.heap.objs.size]:=λ z=>absurd (ua3.mp z) (ucq (ub2 _))
 have hS1:=hm.heap _ _ nw hS
 show wpAny _ A.in1 (updateSeq (s.heap.objs.size+1) _ >>= _) _ _ s1
 refine uab (udk hS1 rfl ?_);rw[nm]
 have offS:∀ {b:Addr},b∉(s.heap.objs.size+1)::[s.heap.objs.size]->s.heap.objs.size+1≠b:=λ hb h=>hb (h ▸ ual)
 have hT1:TupsAt s1.heap its ks:=hTg.move λ i a o ei ho=>hm.heap a o (λ z=>off i a ei (.tail _ z)) ho
 refine uah ⟨ucd ua9 _,zon W hu _ nS off _ 0 _ 0 v _ rfl (by left) (W.frame _ s1 _ s1.toks hst1 (uai _) λ b hbf o e=>(Heap.get?_update_other _ _ (λ h:s.heap.objs.size+1=b=>nS (by rw[h];exact hbf))).trans e) (uai _) hP (λ i hi=>?_) (Heap.get?_update_self _ hS1 rfl) (hT1.move λ i a o ei ho=>(Heap.get?_update_other _ _ (offS (off i a ei))).trans ho) λ b v s2 q1 q2 hm2=>?_⟩
 ·rw[show i=0 by left]
  have irr:∀ l:List Int,lexLt l l=false:=λ l=>by
   induction l with
   | nil=>rfl
   | cons x r ih=>rw[zby,if_pos rfl];exact ih
  exact irr _
 ·have hm3:=Moved.trans W.gtrans ((hm.mono λ b hb=>.tail _ hb).then_heap (tk:=s1.toks) (uai _) λ b o hb e=>(Heap.get?_update_other _ _ (offS hb)).trans e) hm2
  rw[Moved.eq_with hm3]
  exact h1 b v _ _ q1 q2 (keep hm3)
end
end HT
namespace L3
open PySem PySem.Spec PyProof.Rows L2
theorem zlg {xs:List V}{us:List Value}(r:Vals xs us):∀ {i:Nat}{u:Value},us[i]?=some u->∃ x,xs[i]?=some x/\RelV x u:=by
 induction r with
 | nil=>intro i u e;cases e
 | cons r _ ih =>
  intro i u e
  cases i with
  | zero=>cases e;exact⟨_,rfl,r⟩
  | succ i=>exact ih (i:=i) e
inductive call_minTs_i  (xs:List V) (H:Hp) (Q:VK):Prop
 | mk:∀ (p:Addr)(vs:List V)(ks:List (List Int)),(xs=[.ref p])->(H p=some (.lst vs))->(vs≠[])->((∀ i v,vs[i]?=some v->∃ a,v=.ref a/\H a=some (.tup ((ks.getD i []).map V.int))))->(∀ b v,vs[b]?=some v->(∀ i,i<vs.length->HT.lexLt (ks.getD i []) (ks.getD b [])=false)->Q v H)->call_minTs_i xs H Q
theorem zgx {X:Cx}(hh:X.calm=true)(hu:X.A.units+1<cLine):CallR X (.builtin "min") (call_minTs_i):=by
 intro pins s σ H xs us Q I r h
 obtain⟨p,vs,ks,rfl,hq,hne,hT,q⟩:=h
 obtain⟨u,rfl,rx⟩:=vals1 r
 cases rx
 obtain⟨its,rv,pl,hz⟩:=I.list (SqL.of hq)
 have hl:=rv.length
 have hT':HT.TupsAt s.heap its ks:=λ i v e=>by
  obtain⟨x,ex,rel⟩:=zlg rv e
  obtain⟨a,rfl,ha⟩:=hT i x ex
  cases rel
  obtain⟨its2,r2,p2,_⟩:=I.tuple (SqT.of ha)
  exact⟨a,its2.toArray,rfl,p2,zbd r2⟩
 refine HT.zpr (show X.A.in1.handled=none from I.ok.hd hh) (show X.A.units+1<cLine from hu) pl.isList hT' (λ z=>hne (ucx.mp (by rw[hl,z];rfl))) λ b v h' tk hv top hk=>?_
 obtain⟨x,ex,rel⟩:=zlg rv hv
 exact⟨x,H,I.kept (t':=tk) hk,rel,q b x ex λ i hi=>top i (by left)⟩
noncomputable def topN (ls:List (List Nat))(w:Nat):Nat:=@dite _ (∃ b,IsTop ls w b) (Classical.propDecidable _) (λ h=>Classical.choose h) (λ _=>0)
theorem zes {ls:List (List Nat)}{w b:Nat}(h:IsTop ls w b):topN ls w=b:=by
 unfold topN
 rw[dif_pos ⟨b,h⟩]
 exact h.unique (Classical.choose_spec (⟨b,h⟩:∃ b,IsTop ls w b))
theorem zbm {n:Nat}{ls:List (List Nat)}(lo:LevOk n ls){w:Nat}(hw:w<n):IsTop ls w (topN ls w):=by
 have ex:∃ b,IsTop ls w b:=by
  have go:∀ m,m<ls.length->∃ b,b<=m/\w∈lvl ls b/\∀ i,i<=m->w∈lvl ls i->i<=b:=λ m=>by
   induction m with
   | zero=>intro _;exact⟨0,uai _,by rw[lo.first];exact uaq.mpr hw,λ i hi _=>hi⟩
   | succ m ih =>
    intro hm
    obtain⟨b,h1,h2,h3⟩:=ih (by left)
    by_cases c:w∈lvl ls (m+1)
    ·exact⟨m+1,uai _,c,λ i hi _=>hi⟩
    ·refine⟨b,by left,h2,λ i hi hm=>?_⟩
     rcases ucz i (m+1) with z | z
     ·exact h3 i (by left) hm
     ·rw[show i=m+1 by left] at hm;exact absurd hm c
  have one:=lo.one
  obtain⟨b,h1,h2,h3⟩:=go (ls.length-1) (by left)
  exact⟨b,by left,h2,λ i hi hm=>h3 i (by left) hm⟩
 obtain⟨b,hb⟩:=ex
 rw[zes hb];exact hb
structure IsPiv (ls:List (List Nat))(m:Nat)(D:List (Option Int))(o:Option Nat):Prop where
 no:o=none->∀ q∈lvl ls m,Far.get D q=none
 yes:∀ p,o=some p->p∈lvl ls m/\∃ x,Far.get D p=some x/\∀ q∈lvl ls m,∀ y,Far.get D q=some y->x<=y/\(y=x->topN ls q<=topN ls p/\(topN ls q=topN ls p->p<=q))
theorem IsPiv.unique {ls:List (List Nat)}{m:Nat}{D:List (Option Int)}{o o':Option Nat}(h:IsPiv ls m D o)(h':IsPiv ls m D o'):o'=o:=by
 cases o with
 | none =>
  cases o' with
  | none=>rfl
  | some p =>
   obtain⟨hp,x,ex,_⟩:=h'.yes p rfl
   rw[h.no rfl p hp] at ex;cases ex
 | some p =>
  obtain⟨hp,x,ex,a⟩:=h.yes p rfl
  cases o' with
  | none=>rw[h'.no rfl p hp] at ex;cases ex
  | some p' =>
   obtain⟨hp',x',ex',a'⟩:=h'.yes p' rfl
   have h1:=a p' hp' x' ex'
   have h2:=a' p hp x ex
   have e:x'=x:=by left
   obtain⟨t1,l1⟩:=h1.2 e
   obtain⟨t2,l2⟩:=h2.2 e.symm
   have e2:topN ls p'=topN ls p:=by left
   have:=l1 e2
   have:=l2 e2.symm
   rw[show p'=p by left]
theorem zly {n:Nat}{ls:List (List Nat)}(lo:LevOk n ls):∀ {j m:Nat},m<=j->∀ p∈lvl ls j,p∈lvl ls m
 | 0,m,h,p,hp=>by rw[show m=0 by left];exact hp
 | j+1,m,h,p,hp=>by
  rcases ucz m (j+1) with z | z
  ·exact zly lo (j:=j) (by left) p (lo.down j p hp)
  ·rw[show m=j+1 by left];exact hp
theorem zs6 {n:Nat}{ls:List (List Nat)}{m p:Nat}{D:List (Option Int)}(lo:LevOk n ls)(hm:m<ls.length)(h:IsPiv ls m D (some p)):bunB ls D p=true:=by
 obtain⟨hp,x,ex,a⟩:=h.yes p rfl
 have tp:=zbm lo (lo.inn m p hp)
 refine bunB_iff.mpr ⟨x,ex,λ b q y t hq ey=>?_⟩
 have eb:=zes t
 have mb:m<=b:=t.2.2 m hm hp
 have hqm:=zly lo (show m<=b+1 by left) q hq
 obtain⟨h1,h2⟩:=a q hqm y ey
 have tq:=zbm lo (lo.inn _ q hq)
 have bl:b+1<ls.length:=by
  rcases ucz (b+1) ls.length with z | z
  ·exact z
  ·rw[ze6 z] at hq;cases hq
 have:=tq.2.2 (b+1) bl hq
 by_cases c:y=x
 ·have:=(h2 c).1;left
 ·left
noncomputable def pivK (ls:List (List Nat))(D:List (Option Int))(p:Nat):List Int:=[(Far.get D p).getD 0,0-(topN ls p:Int),(p:Int)]
noncomputable def pivKs (ls:List (List Nat))(D:List (Option Int))(l:List Nat):List (List Int):=(l.filter λ p=>(Far.get D p).isSome).map (pivK ls D)
def tupI (k:List Int):PyData:=.tuple (k.map .int)
noncomputable def pivSel (ls:List (List Nat))(D:List (Option Int))(l:List Nat)(i:Nat):Option PyData:=if (Far.get D (l.getD i 0)).isSome=true then some (tupI (pivK ls D (l.getD i 0))) else none
theorem zgz (k:List Int):tupD (tupI k)=true:=by
 have go:∀ k:List Int,tupAll (k.map PyData.int)=true:=λ k=>by
  induction k with
  | nil=>rfl
  | cons i r ih=>show (true&&tupAll (r.map PyData.int))=true;rw[ih];rfl
 exact go k
theorem zmo {ls:List (List Nat)}{D:List (Option Int)}{l:List Nat}(i:Nat)(d:PyData)(h:pivSel ls D l i=some d):tupD d=true:=by
 unfold pivSel at h
 split at h
 ·cases h;exact zgz _
 ·cases h
theorem zmp (ls:List (List Nat))(D:List (Option Int))(l:List Nat):(uaf l.length).filterMap (pivSel ls D l)=(pivKs ls D l).map tupI:=by
 have e:=congrArg (List.filterMap λ p:Nat=>if (Far.get D p).isSome=true then some (tupI (pivK ls D p)) else none) (L3.zba l 0)
 rw[ueo] at e
 have e':(uaf l.length).filterMap (pivSel ls D l)=l.filterMap λ p:Nat=>if (Far.get D p).isSome=true then some (tupI (pivK ls D p)) else none:=e
 rw[e']
 unfold pivKs
 clear e e'
 induction l with
 | nil=>rfl
 | cons p r ih =>
  rw[uca,uf3]
  cases c:(Far.get D p).isSome with
  | true=>simp [ih]
  | false=>simp [ih]
theorem zj9 {K:uac}{H:Hp}{ks:List (List Int)}{vs:List V}(h:IsAll K H (ks.map tupI) vs){i:Nat}{v:V}(e:vs[i]?=some v):∃ a,v=.ref a/\H a=some (.tup ((ks.getD i []).map V.int)):=by
 obtain⟨d,hd,isd⟩:=IsAll.from_ h e
 rw[uaj] at hd
 obtain⟨k,hk,rfl⟩:=uba.mp hd
 obtain⟨a,xs,rfl,ha,ia⟩:=isd
 have:=IsAll.of_ints ia
 subst this
 refine⟨a,rfl,?_⟩
 rw[uag,hk];exact ha
theorem zt4 {n:Nat}{ls:List (List Nat)}{m:Nat}{D:List (Option Int)}{b:Nat}(hb:b<(pivKs ls D (lvl ls m)).length)(top:∀ i,i<(pivKs ls D (lvl ls m)).length->HT.lexLt ((pivKs ls D (lvl ls m)).getD i []) ((pivKs ls D (lvl ls m)).getD b [])=false):∃ p,(pivKs ls D (lvl ls m)).getD b []=pivK ls D p/\IsPiv ls m D (some p):=by
 obtain⟨p,ep,hp⟩:∃ p,(pivKs ls D (lvl ls m)).getD b []=pivK ls D p/\p∈(lvl ls m).filter λ p=>(Far.get D p).isSome:=by
  unfold pivKs at hb ⊢
  rw[uae] at hb
  rw[uag,uaj,uad hb]
  exact⟨_,rfl,udb hb⟩
 rw[ubl] at hp
 obtain⟨x,ex⟩:=ugk.mp hp.2
 refine⟨p,ep,λ e=>(by cases e),λ p' e=>?_⟩
 cases e
 refine⟨hp.1,x,ex,λ q hq y ey=>?_⟩
 have hqf:q∈(lvl ls m).filter λ p=>(Far.get D p).isSome:=ubl.mpr ⟨hq,by rw[ey];rfl⟩
 obtain⟨i,hi,ei⟩:=uc3 hqf
 have hi':i<(pivKs ls D (lvl ls m)).length:=by unfold pivKs;rw[uae];exact hi
 have ek:(pivKs ls D (lvl ls m)).getD i []=pivK ls D q:=by
  unfold pivKs
  rw[uag,uaj,uad hi,ei];rfl
 have t:=top i hi'
 rw[ek,ep] at t
 unfold pivK at t
 rw[ex,ey] at t
 simp only [HT.lexLt,Option.getD_some] at t
 split at t
 ·rename_i c
  refine⟨by left,λ _=>?_⟩
  split at t
  ·rename_i c2
   refine⟨by left,λ _=>?_⟩
   split at t
   ·left
   ·have:=of_decide_eq_false t;left
  ·have:=of_decide_eq_false t
   refine⟨by left,λ z=>by left⟩
 ·have:=of_decide_eq_false t
  exact⟨by left,λ z=>by left⟩
theorem zt5 {ls:List (List Nat)}{m:Nat}{D:List (Option Int)}(h:pivKs ls D (lvl ls m)=[]):IsPiv ls m D none:=by
 refine⟨λ _ q hq=>?_,λ p e=>(by cases e)⟩
 cases e:Far.get D q with
 | none=>rfl
 | some y =>
  have z:pivK ls D q∈pivKs ls D (lvl ls m):=ubx.mpr ⟨q,ubl.mpr ⟨hq,by rw[e];rfl⟩,rfl⟩
  rw[h] at z;cases z
section
variable {own:List Str}{js:List Nat}{g:TG}{tt:TT}{te:TE}{σ:L2.St}{Q:VK}{H1:Hp}
theorem zmv {K K':uac}{a:Addr}{xs:List V}(hx:H1 a=some (.tup xs))(Sg:L2.St->Prop)(sel:Nat->Option PyData)(tup:∀ i d,sel i=some d->tupD d=true)(hn:xs.length<=1000)(h0:Sg (start3 own js σ))
  (step:∀ i x σ' H',xs[i]?=some x->Same H1 H'->Sg σ'->∀ (C:L2.St->V->Hp->Prop)(L:L2.St->Hp->Prop),(∀ σ3 v d H5,Sg σ3->Same H' H5->sel i=some d->Is K' H5 d v->C σ3 v H5)->(∀ σ3 H5,Sg σ3->Same H' H5->sel i=none->L σ3 H5) ->
   g x σ' H' λ σ3 H3=>tt σ3 H3 λ b H4=>if b=true then te σ3 H4 λ v H5=>C σ3 v H5 else L σ3 H4)
  (fin:∀ D ys H',H1 D=none->Same H1 H'->H' D=some (.lst ys)->ys.length<=xs.length->IsAll K' H' ((uaf xs.length).filterMap sel) ys->Q (.ref D) H'):CompGo own js g tt te σ Q (Itt K a) H1:=by
 intro D hD
 have tupI:∀ i,tupAll ((uaf i).filterMap sel)=true:=λ i=>by
  have go:∀ is:List Nat,tupAll (is.filterMap sel)=true:=λ is=>by
   induction is with
   | nil=>rfl
   | cons j r ih =>
    rw[uca]
    cases e:sel j with
    | none=>exact ih
    | some d=>show (tupD d&&tupAll (r.filterMap sel))=true;rw[tup j d e,ih];rfl
  exact go _
 refine⟨λ i m ys σ' H'=>m=xs.length-i/\i<=xs.length/\Sg σ'/\Same H1 H'/\ys.length<=i/\IsAll K' H' ((uaf i).filterMap sel) ys,⟨xs.length,rfl,ube _,h0,zam hD,uai _,rfl⟩,?_⟩
 rintro i m ys σ' H' ⟨rfl,hi,sg,sm,ly,ia⟩ hd
 have sq:SqT K H' a xs:=SqT.of (sm _ _ hx)
 by_cases hlt:i<xs.length
 ·refine .inr ⟨⟨xs,xs[i],sq,by simp [hlt]⟩,λ x H2 hy=>?_⟩
  obtain⟨rfl,hy⟩:=hy
  refine step i x σ' _ (hy xs sq) sm sg
   (λ σ3 v H5=>H5 D=some (.lst ys)/\ys.length<sizeLine/\∃ m',m'<xs.length-i/\(m'=xs.length-(i+1)/\i+1<=xs.length/\Sg σ3/\Same H1 (upd H5 D (.lst (ys++[v])))/\(ys++[v]).length<=i+1/\IsAll K' (upd H5 D (.lst (ys++[v]))) ((uaf (i+1)).filterMap sel) (ys++[v])))
   (λ σ3 H5=>H5 D=some (.lst ys)/\∃ m',m'<xs.length-i/\(m'=xs.length-(i+1)/\i+1<=xs.length/\Sg σ3/\Same H1 H5/\ys.length<=i+1/\IsAll K' H5 ((uaf (i+1)).filterMap sel) ys)) (λ σ3 v d H5 sg3 s5 e hv=>?_) (λ σ3 H5 sg3 s5 e=>?_)
  ·have hd5:=s5 _ _ hd
   have b5:But D H5 (upd H5 D (.lst (ys++[v]))):=λ b o hb z=>by rw[zan hb];exact z
   refine⟨hd5,ubr (by left:ys.length<=1000) (by decide),xs.length-(i+1),by left,rfl,hlt,sg3,λ b o z=>?_,by rw[uar,uax];left,?_⟩
   ·rw[zan (zak z hD)];exact s5 _ _ (sm _ _ z)
   ·rw[ucf,ucj,show [i].filterMap sel=[d] by simp [e]]
    exact IsAll.snoc (Is.but b5 hd5 _ (tup i d e) hv) (IsAll.but b5 hd5 _ (tupI i) (IsAll.same s5 _ ia))
  ·refine⟨s5 _ _ hd,xs.length-(i+1),by left,rfl,hlt,sg3,sm.trans s5,by left,?_⟩
   rw[ucf,ucj,show [i].filterMap sel=[] by simp [e],ud4]
   exact IsAll.same s5 _ ia
 ·have e:i=xs.length:=by left
  subst e
  exact .inl ⟨⟨xs,sq,uai _⟩,fin D ys H' hD sm hd ly ia⟩
end
def spPivBy (K:uac):Sp:=λ vs H Q _=>∃ (n:Nat)(ls:List (List Nat))(lv:V)(m:Nat)(l:Addr)(D:List (Option Int)),vs=[lv,.int (m:Int),.ref l]/\Lv K H n ls lv/\m<ls.length/\H l=some (.lst (D.map ov))/\D.length=n/\∀ o H',Same H H'->IsPiv ls m D o->Q (oa o) H'
noncomputable def pivN (ls:List (List Nat))(m:Nat)(D:List (Option Int)):Nat:=@dite _ (∃ p,IsPiv ls m D (some p)) (Classical.propDecidable _) (λ h=>Classical.choose h) (λ _=>0)
theorem zs7 {ls:List (List Nat)}{m p:Nat}{D:List (Option Int)}(h:IsPiv ls m D (some p)):pivN ls m D=p:=by
 unfold pivN
 rw[dif_pos ⟨p,h⟩]
 exact ubj (h.unique (Classical.choose_spec (⟨p,h⟩:∃ p,IsPiv ls m D (some p))))
noncomputable def clN (ls:List (List Nat)):Nat->Nat->Nat->Nat->List (Option Int)->List (Option Int)->Int->List (List Int)
 | 0,w,a,b,_,_,x=>[[(w:Int),(a:Int),(b:Int),x]]
 | f+1,w,a,b,Da,Db,x=>[(w:Int),(a:Int),(b:Int),x]::(if bunB ls Db w=true then [] else clN ls f (pivN ls (topN ls w+1) Db) b a Db Da ((Far.get Db (pivN ls (topN ls w+1) Db)).getD 0))
theorem zmd {ls:List (List Nat)}{f w a b:Nat}{Da Db:List (Option Int)}{x:Int}(h:bunB ls Db w=true):clN ls (f+1) w a b Da Db x=[[(w:Int),(a:Int),(b:Int),x]]:=by
 rw[clN,if_pos h]
theorem zmc {ls:List (List Nat)}{f w a b p:Nat}{Da Db:List (Option Int)}{x x':Int}(h:bunB ls Db w=false)(pv:IsPiv ls (topN ls w+1) Db (some p))(e:Far.get Db p=some x'):clN ls (f+1) w a b Da Db x=[(w:Int),(a:Int),(b:Int),x]::clN ls f p b a Db Da x':=by
 rw[clN,if_neg (by rw[h];decide),zs7 pv,e];rfl
structure Cs (ts:List Tie)(n:Nat)(ls:List (List Nat))(d:Int)(j w a b:Nat)(Da Db:List (Option Int))(x:Int):Prop where
 fa:FarsOf ts n a Da
 fb:FarsOf ts n b Db
 wn:w<n
 an:a<n
 bn:b<n
 xa:Far.get Da w=some x
 lim:x<=j*d
 ab:Far.get Da b=some d
 ba:Far.get Db a=some d
 yb:∃ y,Far.get Db w=some y
 tp:j<=topN ls w
 bu:bunB ls Da w=true
section
variable {n:Int}{ts:List Tie}{ls:List (List Nat)}{d x:Int}{j w a b:Nat}{Da Db:List (Option Int)}
theorem allOk (ts:List Tie):KeepOk ts.length (uaf ts.length):=⟨ubw,λ k hk=>uaq.mp hk⟩
theorem Cs.start (ok:WebOk n ts)(lo:LevOk n.toNat ls)(fa:FarsOf ts n.toNat a Da)(fb:FarsOf ts n.toNat b Db)(an:a<n.toNat)(bn:b<n.toNat)(ab:Far.get Da b=some d):Cs ts n.toNat ls d 0 a a b Da Db 0:=by
 obtain⟨bs,e0⟩:=zr0 ok an fa lo
 have ba:Far.get Db a=some d:=by
  have h1:=(fa.2 b bn).back (zbk ok (allOk ts))
  rw[ab] at h1
  exact (fb.2 a an).unique h1
 exact⟨fa,fb,an,an,bn,e0,by simp,ab,ba,⟨d,ba⟩,ube _,bs⟩
theorem Cs.more (lo:LevOk n.toNat ls)(h:Cs ts n.toNat ls d j w a b Da Db x)(nb:bunB ls Db w=false):topN ls w+1<ls.length/\∃ q y y',q∈lvl ls (topN ls w+1)/\Far.get Db w=some y/\Far.get Db q=some y'/\y'<=y:=by
 obtain⟨y,ey⟩:=h.yb
 have ex:∃ b' p z,IsTop ls w b'/\p∈lvl ls (b'+1)/\Far.get Db p=some z/\z<=y:=by
  apply Classical.byContradiction
  intro c
  have:bunB ls Db w=true:=bunB_iff.mpr ⟨y,ey,λ b' p z t hp ez=>by
   rcases Int.lt_or_le y z with l | l
   ·exact l
   ·exact absurd ⟨b',p,z,t,hp,ez,l⟩ c⟩
  rw[nb] at this;cases this
 obtain⟨b',p,z,t,hp,ez,le⟩:=ex
 rw[← zes t] at hp
 refine⟨?_,p,y,z,hp,ey,ez,le⟩
 rcases ucz (topN ls w+1) ls.length with z | z
 ·exact z
 ·rw[ze6 z] at hp;cases hp
theorem Cs.step (ok:WebOk n ts)(lo:LevOk n.toNat ls)(h:Cs ts n.toNat ls d j w a b Da Db x)(nb:bunB ls Db w=false){o:Option Nat}(pv:IsPiv ls (topN ls w+1) Db o):∃ p x',o=some p/\Far.get Db p=some x'/\Cs ts n.toNat ls d (j+1) p b a Db Da x':=by
 obtain⟨ml,q,y,y',hq,ey,ez,le⟩:=h.more lo nb
 cases o with
 | none=>rw[pv.no rfl q hq] at ez;cases ez
 | some p =>
  obtain⟨hp,x',ex',al⟩:=pv.yes p rfl
  have pn:=lo.inn _ p hp
  have sy:=zbk ok (allOk ts)
  have P:=zbh ok (allOk ts)
  have w1:=(h.fa.2 w h.wn).1 x h.xa
  have w2:=(h.fb.2 a h.an).1 d h.ba
  obtain⟨y2,e2,l2⟩:=(h.fb.2 w h.wn).2 _ (w2.trans w1)
  rw[ey] at e2;cases e2
  have l1:=(al q hq y' ez).1
  have w3:=(h.fb.2 p pn).1 x' ex'
  have w4:=(h.fa.2 b h.bn).1 d h.ab
  obtain⟨z,ez',_⟩:=(h.fa.2 p pn).2 _ (w4.trans w3)
  have tp:=zbm lo pn
  have t1:=tp.2.2 _ ml hp
  have:=h.tp
  have lim:=h.lim
  refine⟨p,x',rfl,ex',h.fb,h.fa,pn,h.bn,h.an,ex',?_,h.ba,h.ab,⟨z,ez'⟩,by left,zs6 lo ml pv⟩
  have e:((j+1:Nat):Int)*d=j*d+d:=by rw[Int.natCast_add,ufk];simp
  left
end
structure RowsOk (ls:List (List Nat))(n:Nat)(d:Int)(Du Dv:List (Option Int))(rows:List (List Int)):Prop where
 few:rows.length<=ls.length
 lim:∀ (i:Nat)(r:List Int),rows[i]?=some r->∃ p a b x:Int,r=[p,a,b,x]/\x<=i*d
 last:∃ (pre:List (List Int))(w:Nat)(a b x:Int),rows=pre++[[(w:Int),a,b,x]]/\w<n/\bunB ls Du w=true/\bunB ls Dv w=true
def ClimbV (K:uac)(H:Hp)(ls:List (List Nat))(n u v:Nat)(Du Dv:List (Option Int))(r:V):Prop:=(r=.non/\Far.get Du v=none)\/∃ t ys d,r=.ref t/\Far.get Du v=some d/\H t=some (.tup ys)/\IsAll K H ((clN ls ls.length u u v Du Dv 0).map tupI) ys/\RowsOk ls n d Du Dv (clN ls ls.length u u v Du Dv 0)
def spClimb (K:uac):Sp:=λ vs H Q _=>∃ (n:Int)(ts:List Tie)(ls:List (List Nat))(wv lv:V)(u v:Nat),vs=[wv,lv,.int (u:Int),.int (v:Int)]/\Is K H (webD n ts) wv/\WebOk n ts/\Lv K H n.toNat ls lv/\u<n.toNat/\v<n.toNat/\∀ r Du Dv H',Same H H'->FarsOf ts n.toNat u Du->FarsOf ts n.toNat v Dv->ClimbV K H' ls n.toNat u v Du Dv r->Q r H'
def FarsM (H:Hp)(lf:Addr)(n:Nat)(ts:List Tie):Prop:=∃ ys,H lf=some (.lst ys)/\ys.length=n/\∀ i v,ys[i]?=some v->∃ l D,v=.ref l/\H l=some (.lst (D.map ov))/\FarsOf ts n i D
theorem zra {K:uac}{H:Hp}{pre:List (List Int)}{r:List Int}{ys:List V}(ia:IsAll K H ((pre++[r]).map tupI) ys):ys.length=pre.length+1/\∃ t,atI ys (-1)=some (.ref t)/\H t=some (.tup (r.map V.int)):=by
 have ly:=ia.length
 rw[uae,uar,uax] at ly
 have e:ys[pre.length]?=some ys[pre.length]:=uad (by left)
 obtain⟨t,et,ht⟩:=zj9 ia e
 refine⟨ly,t,?_,?_⟩
 ·unfold atI ixN
  rw[if_neg (by decide),if_pos (by left)]
  show ys[(-1+(ys.length:Int)).toNat]?=some (.ref t)
  rw[show (-1+(ys.length:Int)).toNat=pre.length by left,e,et]
 ·rw[ht,uag,ubb (uai _),uf1];rfl
theorem zeq:∀ ks:List (List Int),tupAll (ks.map tupI)=true
 | []=>rfl
 | k::r=>by show (tupD (tupI k)&&tupAll (r.map tupI))=true;rw[zgz,zeq r];rfl
structure Clb (ts:List Tie)(n:Int)(ls:List (List Nat))(d:Int)(u v:Nat)(Du Dv:List (Option Int))(pre:List (List Int))(w a b:Nat)(Da Db:List (Option Int))(x:Int):Prop where
 cs:Cs ts n.toNat ls d pre.length w a b Da Db x
 sides:(Da=Du/\Db=Dv)\/(Da=Dv/\Db=Du)
 lim:∀ (i:Nat)(r:List Int),(pre++[[(w:Int),(a:Int),(b:Int),x]])[i]?=some r->∃ p a b x:Int,r=[p,a,b,x]/\x<=i*d
 rest:pre++clN ls (ls.length-pre.length) w a b Da Db x=clN ls ls.length u u v Du Dv 0
section
variable {n:Int}{ts:List Tie}{ls:List (List Nat)}{d x:Int}{u v w a b:Nat}{Du Dv Da Db:List (Option Int)}{pre:List (List Int)}
theorem Clb.first (ok:WebOk n ts)(lo:LevOk n.toNat ls)(fa:FarsOf ts n.toNat u Du)(fb:FarsOf ts n.toNat v Dv)(an:u<n.toNat)(bn:v<n.toNat)(ab:Far.get Du v=some d):Clb ts n ls d u v Du Dv [] u u v Du Dv 0:=by
 refine⟨Cs.start ok lo fa fb an bn ab,.inl ⟨rfl,rfl⟩,λ i r e=>?_,rfl⟩
 cases i with
 | zero=>cases e;exact⟨_,_,_,_,rfl,by simp⟩
 | succ i=>cases e
theorem Clb.lt (lo:LevOk n.toNat ls)(h:Clb ts n ls d u v Du Dv pre w a b Da Db x):pre.length<ls.length:=by
 have t:=(zbm lo h.cs.wn).1
 have:=h.cs.tp
 left
theorem Clb.next (ok:WebOk n ts)(lo:LevOk n.toNat ls)(h:Clb ts n ls d u v Du Dv pre w a b Da Db x)(nb:bunB ls Db w=false){o:Option Nat}(pv:IsPiv ls (topN ls w+1) Db o):∃ p x',o=some p/\p<n.toNat/\Far.get Db p=some x'/\Clb ts n ls d u v Du Dv (pre++[[(w:Int),(a:Int),(b:Int),x]]) p b a Db Da x':=by
 obtain⟨p,x',rfl,ex,c'⟩:=h.cs.step ok lo nb pv
 have lt:=h.lt lo
 have le:(pre++[[(w:Int),(a:Int),(b:Int),x]]).length=pre.length+1:=by rw[uar,uax]
 refine⟨p,x',rfl,c'.wn,ex,by rw[le];exact c',h.sides.elim (λ ⟨e1,e2⟩=>.inr ⟨e2,e1⟩) (λ ⟨e1,e2⟩=>.inl ⟨e2,e1⟩),λ i r e=>?_,?_⟩
 ·by_cases hi:i<pre.length+1
  ·rw[uch (by left)] at e
   exact h.lim i r e
  ·rw[ubb (by left)] at e
   have hi2:=(uak.mp e).1
   rw[uax] at hi2
   have ei:i=pre.length+1:=by left
   subst ei
   rw[le,uf1] at e
   cases e
   exact⟨_,_,_,_,rfl,c'.lim⟩
 ·rw[le,← h.rest]
  rw[show ls.length-pre.length=(ls.length-(pre.length+1))+1 by left,zmc nb pv ex,ueb]
  rfl
theorem Clb.done (lo:LevOk n.toNat ls)(h:Clb ts n ls d u v Du Dv pre w a b Da Db x)(bd:bunB ls Db w=true):pre++[[(w:Int),(a:Int),(b:Int),x]]=clN ls ls.length u u v Du Dv 0/\RowsOk ls n.toNat d Du Dv (clN ls ls.length u u v Du Dv 0):=by
 have lt:=h.lt lo
 have e:pre++[[(w:Int),(a:Int),(b:Int),x]]=clN ls ls.length u u v Du Dv 0:=by
  rw[← h.rest,show ls.length-pre.length=(ls.length-(pre.length+1))+1 by left,zmd bd]
 refine⟨e,?_⟩
 rw[← e]
 refine⟨by rw[uar,uax];left,h.lim,pre,w,_,_,_,rfl,h.cs.wn,?_⟩
 rcases h.sides with ⟨e1,e2⟩ | ⟨e1,e2⟩
 ·rw[← e1,← e2];exact⟨h.cs.bu,bd⟩
 ·rw[← e1,← e2];exact⟨bd,h.cs.bu⟩
end
theorem seqB {t u:TS}{D:Ends}{σ:L2.St}{H:Hp}(h:∀ N C M:L2.St->Hp->Prop,(∀ σ' H',D.nx σ' H'->N σ' H')->(∀ σ' H',D.ct σ' H'->C σ' H')->(∀ σ' H',u { D with nx:=N,ct:=C } σ' H'->M σ' H')->t { D with nx:=M,ct:=C } σ H):tSeq t u D σ H:=h D.nx D.ct (u D) (λ _ _ h=>h) (λ _ _ h=>h) λ _ _ h=>h
theorem seqN {t u:TS}{D:Ends}{σ:L2.St}{H:Hp}(h:∀ N:L2.St->Hp->Prop,(∀ σ' H',u D σ' H'->N σ' H')->t { D with nx:=N } σ H):tSeq t u D σ H:=h (u D) λ _ _ h=>h
section
variable {K:uac}{J J':Hp}{ls:List (List Nat)}{n u v:Nat}{Du Dv:List (Option Int)}{r r1 r2:V}
end
end L3
namespace PySem.SeqAt
open PySem.Spec PySem.MeetsSeq PySem.MeetsSeq2 PySem.MeetsSeq3 PySem.SeqRoads2
open AutoSeq1 (wpAny_loadPart')
end PySem.SeqAt
namespace L3
open PySem PySem.Spec PyProof.Rows L2
section
variable {X:Cx}{o e:Expr}{es:List Expr}{to:TE}{t:TA}{name:Str}{apos cpos:Pos}{id:String}{r:V->List V->Hp->VK->Prop}
end
def bk (hi:Option Int)(n j:Nat):Prop:=(hi=none/\j=0)\/(hi=some 0/\j=1/\1<=n)
section
variable {prog:Program}{w:World}{A:Around}{E:Value->Shared->Prop}{s:Shared}
end
section
variable {X:Cx}{e st:Expr}{te ts:TE}{lo hi:Option Expr}{th:TO}{pos p2:Pos}
end
end L3
namespace Far
section
variable {B:List Arc}{n s a b:Nat}{ws S:List Nat}{x y:Int}{cs:List (Option (Int × Int))}{as:List (Option Nat)}
theorem Rt.walkC (r:Rt B a ws S b x y):Walk (arcsC B) a b (comb (x,y)):=by
 induction r with
 | one=>exact .nil
 | @snoc ws S u v x y l k r m nv ih =>
  have:=Walk.snoc ih (arcsC_mem.mpr ⟨l,k,m,rfl⟩)
  have e:comb (x+l,y+2^k)=comb (x,y)+(l*2^61+2^k):=by unfold comb;simp only;left
  rw[e];exact this
def MinW (B:List Arc)(a b:Nat)(ws:List Nat):Prop:=∃ S x y,Rt B a ws S b x y/\∀ L,Walk (arcsC B) a b L->comb (x,y)<=L
theorem MinW.unique (K:Keys B){ws':List Nat}(h:MinW B a b ws)(h':MinW B a b ws'):ws'=ws:=by
 obtain⟨S,x,y,r,l⟩:=h
 obtain⟨S',x',y',r',l'⟩:=h'
 have e1:=l _ r'.walkC
 have e2:=l' _ r.walkC
 have b1:=r.lt K
 have b2:=r'.lt K
 have e:=zl9 (c:=(x,y)) (d:=(x',y')) ⟨b1.1,uf7 b1.2 (by decide)⟩ ⟨b2.1,uf7 b2.2 (by decide)⟩ (by left)
 injection e with ex ey
 subst ey
 exact (r.unique K r').1
theorem MinW.back (K:Keys B)(h:MinW B a b ws):MinW B b a ws.reverse:=by
 obtain⟨S,x,y,r,l⟩:=h
 exact⟨S.reverse,x,y,r.back K,λ L w=>l L (w.back (zj4 K))⟩
theorem Best.minw (K:Keys B)(h:Best B n s cs as){v:Nat}{c:Int × Int}(t:TPw as s ws.reverse v)(e:get cs v=some c):MinW B v s ws:=by
 obtain⟨S,r⟩:=h.rt K t e
 have rb:=r.back K
 rw[List.reverse_reverse] at rb
 refine⟨_,_,_,rb,λ L w=>?_⟩
 obtain⟨z,ez,le⟩:=(h.dst K v).2 L (w.back (zj4 K))
 rw[e] at ez
 cases ez
 exact le
end
def Shr (W1 W2:List Nat):Prop:=(∀ x∈W1,x∉W2)\/∃ p m q p2 q2,W1=p++m++q/\m≠[]/\(∀ x∈p,x∉W2)/\(∀ x∈q,x∉W2)/\(W2=p2++m++q2\/W2=p2++m.reverse++q2)
end Far
namespace L3
open PySem PySem.Spec PyProof.Rows L2
def WayM (H:Hp)(ts:List Tie)(ks:List Nat)(a b:Nat)(v:V):Prop:=(v=.non/\Far.Dst (arcs ts ks) a b none)\/∃ t ws x,v=.ref t/\H t=some (.tup (natV ws))/\ws.length<=24/\Far.MinW (arcsB ts ks) a b ws/\Far.Tr (arcs ts ks) a ws b x/\Far.Dst (arcs ts ks) a b (some x)
theorem ztr {H:Hp}{n:Int}{m:Nat}{ts:List Tie}{ks:List Nat}{a b:Nat}{v:V}(ok:WebOk n ts)(ko:KeepOk ts.length ks)(h:WayB H (arcsB ts ks) m a b v):WayM H ts ks a b v:=by
 obtain⟨cs,as,B,h⟩:=h
 have KB:=zbi ok ko
 have d:=B.dst1 KB a
 rw[zbo] at d
 rcases h with ⟨rfl,e⟩ | ⟨t,ws,c,rfl,ht,l24,e,tp⟩
 ·rw[e] at d
  exact .inl ⟨rfl,d.back (zbk ok ko)⟩
 ·rw[e] at d
  obtain⟨S,u⟩:=B.uni KB tp e
  have tr:=u.rt.tr
  rw[zbo] at tr
  exact .inr ⟨t,ws,c.1,rfl,ht,l24,B.minw KB tp e,tr,d.back (zbk ok ko)⟩
def spWayM (K:uac):Sp:=λ vs H Q _=>∃ n ts ks wv kv a b,vs=[wv,kv,.int a,.int b]/\WK K H n ts ks wv kv/\0<=a/\a<n/\0<=b/\b<n/\∀ v H',Same H H'->WayM H' ts ks a.toNat b.toNat v->Q v H'
theorem zu1 {K:uac}(vs:List V)(H:Hp)(Q:VK)(E:XK)(h:spWayM K vs H Q E):spWayB K vs H Q E:=by
 obtain⟨n,ts,ks,wv,kv,a,b,e,wk,a0,a1,b0,b1,q⟩:=h
 exact⟨n,ts,ks,wv,kv,a,b,e,wk,a0,a1,b0,b1,λ v H' S h=>q v H' S (ztr wk.2.1 wk.2.2.2 h)⟩
theorem zkb {n:Int}{ts:List Tie}{ks:List Nat}(ok:WebOk n ts)(ko:KeepOk ts.length ks){u v k:Nat}{l:Int}(h:(u,v,l,k)∈arcsB ts ks):tbN ts u v=some k:=by
 have h2:(u,v,l,k)∈arcsB ts (uaf ts.length):=by
  obtain⟨k',hk',m⟩:=arcsB_mem.mp h
  exact arcsB_mem.mpr ⟨k',uaq.mpr (ko.2 k' hk'),m⟩
 have e:=zsu ok (allOk ts) h2
 unfold tbN
 rw[← List.head?_filter,e];rfl
def WaysL (J:Hp)(ts:List Tie)(ks:List Nat)(ys:List V):Prop:=∀ v∈ys,∃ t W a b,v=.ref t/\J t=some (.tup (natV W))/\W.length<=24/\Far.MinW (arcsB ts ks) a b W
end L3
namespace Far
inductive W2 (B:List Arc)(s:Nat):Nat->Int->Int->Prop
 | nil:W2 B s s 0 0
 | snoc {u v:Nat} {x y l:Int} {k:Nat}:W2 B s u x y->(u,v,l,k)∈B->W2 B s v (x+l) (y+2^k)
theorem W2.nonneg {B:List Arc}(K:Keys B){s v:Nat}{x y:Int}(h:W2 B s v x y):0<=x/\0<=y:=by
 induction h with
 | nil=>exact⟨ubf _,ubf _⟩
 | @snoc u v x y l k h m ih =>
  have h1:=K.pos _ _ _ _ m
  have h2:=znh k
  left
theorem zja {P:Nat->Prop}:∀ n,P n->∃ m,P m/\∀ i,P i->m<=i:=by
 intro n
 induction n using ugl with
 | ind n ih =>
  intro h
  by_cases c:∃ i,P i/\i<n
  ·obtain⟨i,hi,lt⟩:=c
   exact ih i lt hi
  ·exact⟨n,h,λ i hi=>Nat.le_of_not_lt λ z=>c ⟨i,hi,z⟩⟩
theorem zor {P:Int->Int->Prop}(nn:∀ x y,P x y->0<=x/\0<=y){x y:Int}(h:P x y):∃ x y,P x y/\∀ x' y',P x' y'->¬ lt2 (x',y') (x,y):=by
 obtain⟨m,⟨y0,hm⟩,lm⟩:=zja (P:=λ m=>∃ y,P (m:Int) y) x.toNat ⟨y,by rw[ua6 (nn x y h).1];exact h⟩
 obtain⟨k,hk,lk⟩:=zja (P:=λ k=>P (m:Int) (k:Int)) y0.toNat (by rw[ua6 (nn _ _ hm).2];exact hm)
 refine⟨m,k,hk,λ x' y' h' z=>?_⟩
 have n':=nn x' y' h'
 have h1:=lm x'.toNat ⟨y',by rw[ua6 n'.1];exact h'⟩
 unfold lt2 at z
 simp only at z
 rcases z with z | ⟨z1,z2⟩
 ·left
 ·have h2:=lk y'.toNat (by rw[← z1,ua6 n'.2];exact h')
  left
theorem zk7 {B:List Arc}(K:Keys B){n s:Nat}(inn:∀ u v l k,(u,v,l,k)∈B->u<n/\v<n)(hs:s<n):∃ cs as,Best B n s cs as:=by
 have ex:∀ v,∃ o:Option (Int × Int),(o=none->∀ x y,¬ W2 B s v x y)/\∀ c,o=some c->W2 B s v c.1 c.2/\∀ x' y',W2 B s v x' y'->¬ lt2 (x',y') c:=λ v=>by
  by_cases c:∃ x y,W2 B s v x y
  ·obtain⟨x,y,h⟩:=c
   obtain⟨x,y,h,l⟩:=zor (P:=W2 B s v) (λ x y h=>h.nonneg K) h
   exact⟨some (x,y),(λ e=>by cases e),λ c e=>by cases e;exact⟨h,l⟩⟩
  ·exact⟨none,λ _ x y h=>c ⟨x,y,h⟩,λ c e=>by cases e⟩
 let f:Nat->Option (Int × Int):=λ v=>Classical.choose (ex v)
 have hf:∀ v,(f v=none->∀ x y,¬ W2 B s v x y)/\∀ c,f v=some c->W2 B s v c.1 c.2/\∀ x' y',W2 B s v x' y'->¬ lt2 (x',y') c:=λ v=>Classical.choose_spec (ex v)
 have eA:∀ v,∃ o:Option Nat,(v=s->o=none)/\(v≠s->f v≠none->o≠none)/\∀ u,o=some u->∃ l k cu,(u,v,l,k)∈B/\f u=some cu/\f v=some (cu.1+l,cu.2+2^k):=λ v=>by
  by_cases c1:v=s
  ·exact⟨none,λ _=>rfl,λ z=>absurd c1 z,λ u e=>by cases e⟩
  ·cases ev:f v with
   | none=>exact⟨none,λ z=>absurd z c1,λ _ z=>absurd rfl z,λ u e=>by cases e⟩
   | some c =>
    obtain⟨w,lw⟩:=(hf v).2 c ev
    obtain⟨cx,cy⟩:=c
    have w':W2 B s v cx cy:=w
    cases w' with
    | nil=>exact absurd rfl c1
    | @snoc u _ x y l k w1 m =>
     cases eu:f u with
     | none=>exact absurd w1 ((hf u).1 eu x y)
     | some cu =>
      obtain⟨wu,lu⟩:=(hf u).2 cu eu
      have n1:=lu x y w1
      have n2:=lw _ _ (wu.snoc m)
      refine⟨some u,λ z=>absurd z c1,(λ _ _ z=>by cases z),λ u' e=>?_⟩
      cases e
      refine⟨l,k,cu,m,eu,?_⟩
      unfold lt2 at n1 n2
      simp only at n1 n2
      have:cu=(x,y):=Prod.ext (by simp only;left) (by simp only;left)
      rw[this]
 let g:Nat->Option Nat:=λ v=>Classical.choose (eA v)
 have hg:∀ v,(v=s->g v=none)/\(v≠s->f v≠none->g v≠none)/\∀ u,g v=some u->∃ l k cu,(u,v,l,k)∈B/\f u=some cu/\f v=some (cu.1+l,cu.2+2^k):=λ v=>Classical.choose_spec (eA v)
 have wn:∀ {v x y},W2 B s v x y->v<n:=λ {v x y} h=>by
  cases h with
  | nil=>exact hs
  | snoc _ m=>exact (inn _ _ _ _ m).2
 have fo:∀ v,n<=v->f v=none:=λ v hv=>by
  cases e:f v with
  | none=>rfl
  | some c=>exact absurd (wn ((hf v).2 c e).1) (by left)
 have getf:∀ v,get ((uaf n).map f) v=f v:=λ v=>by
  unfold get
  by_cases hv:v<n
  ·simp [hv]
  ·rw[fo v (by left)]
   simp [hv]
 have go:∀ v,n<=v->g v=none:=λ v hv=>by
  cases e:g v with
  | none=>rfl
  | some u =>
   obtain⟨l,k,cu,m,_⟩:=(hg v).2.2 u e
   exact absurd (inn _ _ _ _ m).2 (by left)
 have getg:∀ v,get ((uaf n).map g) v=g v:=λ v=>by
  unfold get
  by_cases hv:v<n
  ·simp [hv]
  ·rw[go v (by left)]
   simp [hv]
 refine⟨(uaf n).map f,(uaf n).map g,by simp,by simp,?_,?_,?_,?_,?_,?_⟩
 ·rw[getf]
  cases e:f s with
  | none=>exact absurd W2.nil ((hf s).1 e 0 0)
  | some c =>
   obtain⟨w,l⟩:=(hf s).2 c e
   have nn:=w.nonneg K
   have:=l 0 0 .nil
   unfold lt2 at this
   simp only at this
   have:c=(0,0):=Prod.ext (by simp only;left) (by simp only;left)
   rw[this]
 ·rw[getg];exact (hg s).1 rfl
 ·intro v c e ne
  rw[getf] at e
  rw[getg]
  exact (hg v).2.1 ne (by rw[e];exact λ z=>by cases z)
 ·intro v c e
  rw[getf] at e
  exact (((hf v).2 c e).1.nonneg K).1
 ·intro u v l k c m e
  rw[getf] at e
  have w:=((hf u).2 c e).1.snoc m
  cases ev:f v with
  | none=>exact absurd w ((hf v).1 ev _ _)
  | some c' =>
   refine⟨c',by rw[getf,ev],((hf v).2 c' ev).2 _ _ w⟩
 ·intro v u e
  rw[getg] at e
  obtain⟨l,k,cu,m,e1,e2⟩:=(hg v).2.2 u e
  exact⟨l,k,cu,m,by rw[getf];exact e1,by rw[getf];exact e2⟩
end Far
namespace L3
open PySem PySem.Spec PyProof.Rows L2
def WKL (K:uac)(H:Hp)(n:Int)(ts:List Tie)(ks:List Nat)(wv:V)(kp:Addr):Prop:=Is K H (webD n ts) wv/\WebOk n ts/\H kp=some (.lst ((keepI ks).map V.int))/\KeepOk ts.length ks
end L3
namespace Far
def chn (R:Nat->Nat->Prop):List Nat->Prop
 | []=>True
 | [_]=>True
 | a::b::r=>R a b/\chn R (b::r)
section
variable {R:Nat->Nat->Prop}
theorem zcy:∀ {l m:List Nat}{x y:Nat},chn R (l++[x])->R x y->chn R (y::m)->chn R (l++[x]++y::m)
 | [],m,x,y,_,r,h=>⟨r,h⟩
 | [a],m,x,y,h1,r,h=>⟨h1.1,zcy (l:=[]) (x:=x) (y:=y) h1.2 r h⟩
 | a::b::l,m,x,y,h1,r,h=>⟨h1.1,zcy (l:=b::l) (x:=x) (y:=y) h1.2 r h⟩
theorem zcp:∀ {l m:List Nat}{x:Nat},chn R (l++x::m)->chn R (l++[x])/\chn R (x::m)
 | [],m,x,h=>⟨trivial,h⟩
 | [a],m,x,h=>⟨⟨h.1,trivial⟩,h.2⟩
 | a::b::l,m,x,h=>⟨⟨h.1,(zcp (l:=b::l) (x:=x) h.2).1⟩,(zcp (l:=b::l) (x:=x) h.2).2⟩
theorem zh7 (sy:∀ u v,R u v->R v u):∀ {l:List Nat},chn R l->chn R l.reverse
 | [],_=>trivial
 | [_],_=>trivial
 | a::b::r,h=>by
  have ih:=zh7 sy h.2
  rw[ud9] at ih
  rw[ud9,ud9]
  exact zcy (l:=r.reverse) (m:=[]) ih (sy _ _ h.1) trivial
theorem zme:∀ {l:List Nat}{i u v:Nat},chn R l->l[i]?=some u->l[i+1]?=some v->R u v
 | [],i,u,v,_,e,_=>by cases e
 | [a],i,u,v,_,_,e=>by cases e
 | a::b::r,0,u,v,h,e1,e2=>by cases e1;cases e2;exact h.1
 | a::b::r,i+1,u,v,h,e1,e2=>zme (l:=b::r) h.2 e1 e2
def RingOf (ws:List Nat)(h:Nat)(tl:List Nat):Prop:=∃ p q,ws=p++h::q/\(tl=q++p\/tl=(q++p).reverse)
end
end Far
namespace L3
open PySem PySem.Spec PyProof.Rows L2
def adjK (ts:List Tie)(ks:List Nat)(u v:Nat):Prop:=∃ k,k∈ks/\tbN ts u v=some k
theorem zka (ts:List Tie)(u v:Nat):tbN ts u v=tbN ts v u:=by
 unfold tbN
 congr 1
 funext k
 unfold isTB
 rw[Int.min_comm,Int.max_comm]
def Turn (h:Nat)(tl:List Nat):Prop:=(∀ x∈tl,h<=x)/\∀ u v p q,tl=u::p->tl=q++[v]->u<=v
end L3
namespace Stb
open PySem
def Asc (xs:Array Nat):Prop:=∀ i j,i<j->j<xs.size->xs.getD i 0<xs.getD j 0
theorem zkx (xs:Array Nat)(j:Nat)(asc:Asc xs):∀ (fuel lo hi:Nat),lo<=hi->hi<=xs.size->hi-lo<=fuel->(∀ i,i<lo->xs.getD i 0<j)->(∀ i,hi<=i->i<xs.size->j<=xs.getD i 0) ->
  (∀ i,i<SetTable.below.go xs j fuel lo hi->xs.getD i 0<j)/\(∀ i,SetTable.below.go xs j fuel lo hi<=i->i<xs.size->j<=xs.getD i 0)/\SetTable.below.go xs j fuel lo hi<=xs.size
 | 0,lo,hi,h1,h2,h3,a,b=>by
  have e:lo=hi:=by left
  subst e
  exact⟨a,b,h2⟩
 | fuel+1,lo,hi,h1,h2,h3,a,b=>by
  unfold SetTable.below.go
  by_cases c:lo<hi
  ·rw[if_pos c]
   have hm:(lo+hi) / 2<xs.size:=by left
   have eg:xs.getD ((lo+hi) / 2) j=xs.getD ((lo+hi) / 2) 0:=by rw[uc1,uc1,uce hm];rfl
   by_cases d:xs.getD ((lo+hi) / 2) j<j
   ·simp only [if_pos d]
    refine zkx xs j asc fuel _ hi (by left) h2 (by left) (λ i hi'=>?_) b
    rcases ufq (Nat.le_of_lt_succ hi') with z | z
    ·have:=asc i _ z hm;left
    ·rw[z];left
   ·simp only [if_neg d]
    refine zkx xs j asc fuel lo _ (by left) (by left) (by left) a (λ i hi' hs=>?_)
    rcases ufq hi' with z | z
    ·have:=asc _ i z hs;left
    ·rw[← z];left
  ·rw[if_neg c]
   have e:lo=hi:=by left
   subst e
   exact⟨a,b,h2⟩
theorem zd9 (xs:Array Nat)(j:Nat)(asc:Asc xs):(∀ i,i<SetTable.below xs j->xs.getD i 0<j)/\(∀ i,SetTable.below xs j<=i->i<xs.size->j<=xs.getD i 0)/\SetTable.below xs j<=xs.size:=by
 unfold SetTable.below
 exact zkx xs j asc _ 0 xs.size (ube _) (uai _) (by left) (λ i h=>by left) (λ i h1 h2=>by left)
theorem zm6 (xs:Array Nat)(asc:Asc xs){i p:Nat}(h:xs[i]?=some p):SetTable.below xs (p+1)=i+1:=by
 obtain⟨hi,e⟩:=ugg.mp h
 have eg:xs.getD i 0=p:=by rw[uc1,h];rfl
 obtain⟨h1,h2,h3⟩:=zd9 xs (p+1) asc
 rcases uet (SetTable.below xs (p+1)) (i+1) with z | z | z
 ·have:=h2 i (by left) hi;left
 ·exact z
 ·have a:=h1 (i+1) z
  have b:=asc i (i+1) (by left) (by left)
  left
theorem zm5 (xs:Array Nat)(asc:Asc xs):SetTable.below xs 0=0:=by
 obtain⟨h1,_,_⟩:=zd9 xs 0 asc
 rcases ufr (SetTable.below xs 0) with z | z
 ·exact z
 ·have:=h1 0 z;left
theorem Asc.list {xs:Array Nat}:Asc xs↔xs.toList.Pairwise (·<·):=by
 rw[ucg]
 have g:∀ i (h:i<xs.toList.length),xs.getD i 0=xs.toList[i]:=λ i h=>by
  have h':i<xs.size:=by simpa using h
  rw[uc1,uce h'];simp
 constructor
 ·intro a i j hi hj ij
  have:=a i j ij (by simpa using hj)
  rw[g i hi,g j hj] at this
  exact this
 ·intro a i j ij hj
  have hj':j<xs.toList.length:=by simpa using hj
  have:=a i j (by left) hj' ij
  rw[g i (by left),g j hj']
  exact this
theorem zm8 {xs:Array Nat}{j:Nat}(asc:Asc xs)(new:xs[SetTable.below xs j]?≠some j):Asc (SetTable.insertAt xs (SetTable.below xs j) j):=by
 obtain⟨h1,h2,h3⟩:=zd9 xs j asc
 rw[Asc.list,SetTable.toList_insertAt]
 have al:=Asc.list.mp asc
 have g:∀ i (h:i<xs.size),xs.getD i 0=xs[i]:=λ i h=>by rw[uc1,uce h];rfl
 have lo:∀ x∈xs.toList.take (SetTable.below xs j),x<j:=λ x hx=>by
  obtain⟨i,hi,e⟩:=uc3 hx
  rw[ued] at hi
  have hs:i<xs.size:=by simp at hi;left
  have:=h1 i (by left)
  rw[g i hs] at this
  rw[List.getElem_take] at e
  have e':xs[i]=x:=by simpa using e
  left
 have hi:∀ x∈xs.toList.drop (SetTable.below xs j),j<x:=λ x hx=>by
  obtain⟨i,hi,e⟩:=uc3 hx
  rw[udm] at hi
  have hs:SetTable.below xs j+i<xs.size:=by simp at hi;left
  have:=h2 (SetTable.below xs j+i) (by left) hs
  rw[g _ hs] at this
  rw[List.getElem_drop] at e
  have e':xs[SetTable.below xs j+i]=x:=by simpa using e
  rcases ufq this with z | z
  ·left
  ·exfalso
   rcases ufr i with i0 | i0
   ·subst i0
    apply new
    rw[uce (by left)]
    simp at z
    rw[← z]
   ·have b0:SetTable.below xs j<xs.size:=by left
    have q1:=h2 (SetTable.below xs j) (uai _) b0
    have q2:=asc (SetTable.below xs j) (SetTable.below xs j+i) (by left) hs
    rw[g _ hs] at q2
    left
 refine ufd.mpr ⟨al.sublist (List.take_sublist _ _),ud1.mpr ⟨λ x hx=>hi x hx,al.sublist (List.drop_sublist _ _)⟩,λ a ha b hb=>?_⟩
 rcases uam.mp hb with z | z
 ·rw[z];exact lo a ha
 ·have:=lo a ha;have:=hi b z;left
theorem zp7 (n:Nat):Asc (Array.range n):=by
 rw[Asc.list]
 simpa using ubw
def TI (b:Bool)(t:SetTable):Prop:=Asc t.place/\t.led=b
theorem zqp (b:Bool):TI b (.fresh 0 0 b):=⟨λ i j _ h=>by simp [SetTable.fresh] at h,rfl⟩
theorem zcs {b:Bool}{t:SetTable}(h:TI b t)(n:Nat):TI b (t.standIn n):=⟨zp7 n,h.2⟩
theorem zu4 {b:Bool}{t:SetTable}(h:TI b t)(n:Nat):TI b (t.orStandIn n):=by
 unfold SetTable.orStandIn
 split
 ·exact h
 ·exact zcs h n
theorem zqo {b:Bool}{t:SetTable}(h:TI b t):TI b { t with plain:=false }:=h
theorem zll {t:SetTable}{j:Nat}(h:t.slot j=.empty\/t.slot j=.dummy):t.place[SetTable.below t.place j]?≠some j:=λ e=>by
 unfold SetTable.slot at h
 have c:(t.place[SetTable.below t.place j]?==some j)=true:=by rw[e];simp
 simp only [c,if_true] at h
 rcases h with h | h <;> cases h
theorem zdv (t:SetTable)(hashAt:Nat->Int)(h:Int):∀ (f:Nat)(p:SetTable.Probe),(∀ d,p.dummy=some d->t.slot d=.dummy)->∀ j dm,SetTable.probe.go t hashAt h f p=some (.empty j dm)->t.slot j=.empty/\∀ d,dm=some d->t.slot d=.dummy
 | 0,p,_,j,dm,e=>by cases e
 | f+1,p,hp,j,dm,e=>by
  have adv:∀ q:SetTable.Probe,(t.advance q).dummy=q.dummy:=λ q=>by
   unfold SetTable.advance
   split <;> rfl
  unfold SetTable.probe.go at e
  split at e
  ·rename_i hs
   injection e with e
   injection e with e1 e2
   subst e1;subst e2
   exact⟨hs,hp⟩
  ·rename_i hs
   refine zdv t hashAt h f _ (λ d hd=>?_) j dm e
   rw[adv] at hd
   have:p.j=d:=by simpa using hd
   rw[← this];exact hs
  ·split at e
   ·cases e
   ·refine zdv t hashAt h f _ (λ d hd=>?_) j dm e
    rw[adv] at hd
    exact hp d hd
theorem zrn {t:SetTable}{h:Int}{s:Nat}{w:Bool}(e:t.freeSlot h=some (s,w)):t.place[SetTable.below t.place s]?≠some s:=by
 unfold SetTable.freeSlot at e
 split at e
 ·rename_i j dm hm
  unfold SetTable.probe at hm
  obtain⟨h1,h2⟩:=zdv t _ h _ _ (λ d hd=>by cases hd) j dm hm
  injection e with e
  injection e with e1 _
  cases dm with
  | none=>exact zll (.inl (by rw[← e1];exact h1))
  | some d=>exact zll (.inr (by rw[← e1];exact h2 d rfl))
 ·cases e
theorem znp {b:Bool}{t:SetTable}(h:TI b t)(es:Array (Int × Value))(k:Int)(x:Value):TI b (layNew t es k x).2.1:=by
 unfold layNew
 split
 ·rename_i s w e
  exact zu4 (t:=(t.put s).1) ⟨zm8 h.1 (zrn e),h.2⟩ _
 ·exact zcs h _
theorem zo8 {f:Nat->Option Nat}(hf:∀ j y,f j=some y->y=j):∀ l:List Nat,(l.filterMap f).Sublist l
 | []=>.slnil
 | j::l=>by
  rw[uca]
  cases e:f j with
  | none=>exact (zo8 hf l).cons j
  | some y=>rw[hf j y e];exact (zo8 hf l).cons₂ j
theorem zqn {b:Bool}{t:SetTable}(h:TI b t)(es:Array (Int × Value))(wanted:Nat):TI b (relayAll t es wanted).2.1:=by
 unfold relayAll
 split
 ·rename_i t' order e
  dsimp only
  split
  ·unfold SetTable.relaid SetTable.laid at e
   simp only [Option.bind_eq_bind,Option.bind_eq_some_iff] at e
   obtain⟨owner,_,e⟩:=e
   injection e with e
   injection e with e1 _
   rw[← e1]
   refine⟨?_,h.2⟩
   rw[Asc.list]
   simp only [ufm]
   refine ubw.sublist (zo8 (λ j y hy=>?_) _)
   cases c:owner.getD j none with
   | none=>rw[c] at hy;cases hy
   | some z=>rw[c] at hy;exact (ubj hy).symm
  ·exact zcs h _
 ·exact zcs h _
end Stb
namespace Stb
open PySem PyProof.Rows
def ledOf (w:World):Bool:=!w.params.followText "set-order"
def TIat (w:World)(h:Heap)(a:Addr):Prop:=∃ o es ep t,h.get? a=some o/\o.data=.set es ep t/\TI (ledOf w) t
abbrev SetT (P:Program)(w:World)(h:Heap)(a:Addr)(S:Int->Bool)(n:Nat):Prop:=h.SetOf (intKind P w) a S n/\TIat w h a
section
variable {prog:Program}{w:World}{A:Around}{E:Value->Shared->Prop}{s:Shared}
theorem SetT.keep {h h':Heap}{a:Addr}{S:Int->Bool}{n:Nat}(x:SetT prog w h a S n)(k:∀ o,h.get? a=some o->h'.get? a=some o):SetT prog w h' a S n:=by
 obtain⟨⟨o,es,ep,t,ho,r⟩,o',es',ep',t',ho',r'⟩:=x
 exact⟨⟨o,es,ep,t,k _ ho,r⟩,o',es',ep',t',k _ ho',r'⟩
theorem zlz {g:Bool->Sem Unit}(gp:∀ (b:Bool) (z:Shared) (U:Unit->Shared->Prop),U () z->wpAny (model prog w) A (g b) U E z){S':Int->Bool}
  {a:Addr} {o:Obj} {es es1:Array (Int × Value)} {ep:Nat} {t t2:SetTable} (ho:s.heap.get? a=some o) (ox:o.ExactSet) (od:o.data=.set es ep t)
  (el:ElemsOf (intKind prog w) es1.toList) (me:∀ k,S' k=true↔∃ e∈es1.toList,(intKind prog w).is k e.2=true) (small:es1.size<scanBound) (fit:t2.fits es1.size=true) (ti:TI (ledOf w) t2) {dum:Bool} {R:Option Bool->Shared->Prop}
  (fin:∀ h',Heap.SameBut a s.heap h'->SetT prog w h' a S' es1.size->R (some true) { s with heap:=h' }) :
  wpAny (model prog w) A (do
      storeSet a es1 t2
      if (!dum&&t2.tooFull) = true then do
          g (relayAll t2 es1 (SetTable.grown es1.size)).2.2
          storeSet a (relayAll t2 es1 (SetTable.grown es1.size)).1 (relayAll t2 es1 (SetTable.grown es1.size)).2.1
          pure (some true)
        else pure (some true)) R E s:=by
 refine uab (wpAny_storeSet_of ho od ?_ (ugh small))
 obtain⟨g1,s1⟩:=SetOf_store (knd:=intKind prog w) ho ox od el me small fit
 have sb:=Heap.SameBut.update s.heap a (Obj.putSet es1 t2)
 split
 ·have pm:=relayAll_perm t2 es1 (SetTable.grown es1.size)
  have fr:=relayAll_fits t2 es1 (SetTable.grown es1.size)
  have tr:=zqn ti es1 (SetTable.grown es1.size)
  generalize relayAll t2 es1 (SetTable.grown es1.size)=Rl at pm fr tr ⊢
  obtain⟨es2,t3,gv⟩:=Rl
  dsimp only at pm fr tr ⊢
  have sz:es2.size=es1.size:=by rw[← ub0,pm.length_eq,ub0]
  have sm2:es2.size<scanBound:=sz ▸ small
  refine uab (gp _ _ _ (uab (wpAny_storeSet_of g1 rfl ?_ (ugh sm2))))
  obtain⟨g2,s2⟩:=SetOf_store (knd:=intKind prog w) g1 ox rfl (el.perm pm) (λ k=>(me k).trans ⟨λ ⟨e,he,q⟩=>⟨e,pm.mem_iff.mpr he,q⟩,λ ⟨e,he,q⟩=>⟨e,pm.mem_iff.mp he,q⟩⟩) sm2 fr
  rw[sz] at s2
  exact uah (fin _ (sb.trans (Heap.SameBut.update _ a _)) ⟨s2,_,_,_,_,g2,rfl,tr⟩)
 ·exact uah (fin _ sb ⟨s1,_,_,_,_,g1,rfl,ti⟩)
theorem zvc {a:Addr}{S:Int->Bool}{n:Nat}{k:Int}{x:Value}{Q:Bool->Shared->Prop}(kx:(intKind prog w).is k x=true)(sx:x.scannable=true)(st:SetT prog w s.heap a S n)(room:n+1<scanBound)
  (fin:∀ h',Heap.SameBut a s.heap h'->SetT prog w h' a (λ y=>S y||decide (y=k)) (if S k then n else n+1)->Q (!S k) { s with heap:=h' }) :
  wpAny (model prog w) A (setAddHashed a x ((intKind prog w).hash k)) Q E s:=by
 obtain⟨⟨o,es,ep,t,ho,ox,od,el,me,small,fit,en⟩,o',es',ep',t',ho',od',ti⟩:=st
 rw[ho] at ho';cases ho'
 rw[od] at od';cases od'
 have small1:es.size+1<scanBound:=en ▸ room
 unfold setAddHashed setAddHashedIn
 refine ubd (uab (udv ho od fit ?_))
 dsimp only
 rw[byScan_of sx small el,if_pos rfl]
 unfold setAddByScan
 refine uab (uab (udl (uab (wpAny_setScan_of kx ho od fit el ?_))))
 cases fd:List.findIdx? (λ e=>(intKind prog w).is k e.2) es.toList with
 | some j =>
  dsimp only
  obtain⟨jl,jp,_⟩:=List.findIdx?_eq_some_iff_getElem.mp fd
  have sk:S k=true:=(me k).mpr ⟨es.toList[j],udb jl,jp⟩
  refine uah (uah ?_)
  have es0:s={ s with heap:=s.heap }:=by cases s;rfl
  have q:=fin s.heap (Heap.SameBut.refl a s.heap) ⟨⟨o,es,ep,t,ho,ox,od,el,λ y=>by
   rw[ue7,decide_eq_true_eq,← me y]
   exact⟨λ z=>z.elim id (λ e=>e ▸ sk),.inl⟩,small,fit,by rw[sk];exact en⟩,o,es,ep,t,ho,od,ti⟩
  rw[sk] at q;rw[es0];exact q
 | none =>
  dsimp only
  have sk:S k=false:=by
   cases c:S k with
   | false=>rfl
   | true=>obtain⟨e,he,hp⟩:=(me k).mp c;have:=List.findIdx?_eq_none_iff.mp fd e he;rw[hp] at this;cases this
  have pm:=layNew_perm t es ((intKind prog w).hash k) x
  have ft:=layNew_fits t es ((intKind prog w).hash k) x
  have tl:=znp ti es ((intKind prog w).hash k) x
  generalize layNew t es ((intKind prog w).hash k) x=L at pm ft tl ⊢
  obtain⟨es1,t1,dum,gv⟩:=L
  dsimp only at pm ft tl ⊢
  rw[Array.toList_push] at pm
  have el1:ElemsOf (intKind prog w) es1.toList:=(el.push kx sx).perm pm
  have me1:∀ y,(S y||decide (y=k))=true↔∃ e∈es1.toList,(intKind prog w).is y e.2=true:=mem_push_iff kx me pm
  have ez:es1.size=es.size+1:=by rw[← ub0,pm.length_eq,uar,ub0];rfl
  have small2:es1.size<scanBound:=ez ▸ small1
  have gw:∀ (b:Bool)(z:Shared)(U:Unit->Shared->Prop),U () z->wpAny (model prog w) A (match b with | true=>rule "set.scan.the-table-gave-way" | false=>pure ()) U E z :=
   λ b z U hq=>by cases b <;> first | exact uah hq | exact udl hq
  refine uab (gw _ _ _ ?_)
  have last:∀ h',Heap.SameBut a s.heap h'->SetT prog w h' a (λ y=>S y||decide (y=k)) es1.size->Q true { s with heap:=h' }:=λ h' sb z=>by
   have q:=fin h' sb;rw[sk] at q;rw[ez,en] at z;exact q z
  split
  ·refine uab ?_
   rw[hashByValue_scannable 8 sx]
   refine uah (zlz (λ b z U hq=>?_) ho ox od el1 me1 small2 ?_ ?_ λ h' sb z=>?_)
   ·cases b <;> first | exact uah hq | exact udl hq
   ·split
    ·exact ft
    ·exact SetTable.fits_plain_off ft
   ·split
    ·exact tl
    ·exact zqo tl
   ·dsimp only;exact uah (last h' sb z)
  ·refine uab (uah ?_)
   simp only [↓reduceIte]
   refine zlz (λ b z U hq=>?_) ho ox od el1 me1 small2 ft tl λ h' sb z=>?_
   ·cases b <;> first | exact uah hq | exact udl hq
   ·dsimp only;exact uah (last h' sb z)
theorem zuo {R:Result->Shared->Prop}{I:Addr}{fp wr:List Addr}{G:Array GenState->Array GenState->Prop}{n:Nat}{P:Nat->Value->Prop}{St:Nat->Shared->Prop}(W:WalksS prog w A.in1 I fp wr G n P St)(a:Addr)(af:a∉fp)
  (val:Nat->Int) (hv:∀ i v,P i v->∃ t,v=.int (val i) t) (hb:n+1<scanBound) :
  ∀ (k i:Nat)(s:Shared),n-i=k->i<=n->St i s->SetT prog w s.heap a (λ y=>(firstMet val i).any (·==y)) (firstMet val i).length ->
   (∀ s',Moved (a::wr) G s s'->SetT prog w s'.heap a (λ y=>(firstMet val n).any (·==y)) (firstMet val n).length->R (.ok (.ret .none)) s') ->
   codeAny (model prog w) A (.builtin "set.update.loop" ⟨[.ref a,.ref I],[]⟩) R s:=by
 have aw:a∉wr:=λ h=>af (W.sub _ h)
 have up:∀ b∈wr,b∈a::wr:=λ b hb=>uan _ hb
 intro k
 induction k with
 | zero =>
  intro i s hk hi st x fin
  obtain rfl:i=n:=by left
  refine ubn uer ?_
  rw[Around.under_plainId udn _]
  show wpAny _ A.in1 (pyNext (.ref I) >>= _) _ _ s
  refine uab (W.done s _ _ st λ s' hm=>?_)
  show wpAny _ A.in1 (ret Value.none) _ _ s'
  exact uah (fin s' (hm.mono up) (x.keep λ o e=>hm.heap a o aw e))
 | succ k ih =>
  intro i s hk hi st x fin
  have lt:i<n:=by left
  refine ubn uer ?_
  rw[Around.under_plainId udn _]
  show wpAny _ A.in1 (pyNext (.ref I) >>= _) _ _ s
  refine uab (W.item i s _ _ lt st λ v s' hP st' hm=>?_)
  obtain⟨t,rfl⟩:=hv i v hP
  have x':=x.keep (prog:=prog) λ o e=>hm.heap a o aw e
  show wpAny _ A.in1 (holding [Value.int (val i) t] (setAdd a (.int (val i) t)) >>= _) _ _ s'
  refine uab (ubd ?_)
  unfold setAdd
  refine ubd (uab ((intKind prog w).pyHash (k:=val i) (intKind_is _ _ _ _) ?_))
  refine zvc (s:={ s' with toks:=s'.toks+1 }) (intKind_is _ _ _ _) rfl x' (by have:=firstMet_length_le val i;left) λ h' sb x2=>?_
  have x3:SetT prog w h' a (λ y=>(firstMet val (i+1)).any (·==y)) (firstMet val (i+1)).length :=
   ⟨SetOf_congr x2.1 (λ y=>by rw[firstMet_succ,step_any]) (by rw[firstMet_succ,step_length]),x2.2⟩
  refine uah ⟨ucd udn _,ih (i+1) _ (by left) lt (W.frame _ s' _ _ st' (uc5 _) λ b hb o e=>?_) x3 λ s'' hm2 x4=>?_⟩
  ·rw[sb.2 b (λ h:b=a=>af (by rw[← h];exact hb))];exact e
  ·refine fin s'' (Moved.trans W.gtrans ((hm.mono up).then_heap (uc5 _) λ b o hb e=>?_) hm2) x4
   rw[sb.2 b (λ h:b=a=>hb (by rw[h];exact ual))];exact e
end
end Stb
namespace Stb
open PySem PyProof.Rows
section
variable {prog:Program}{w:World}{A:Around}{E:Value->Shared->Prop}{s:Shared}
abbrev emp (w:World):Obj:={ cls:=.type "set",dict:=none,data:=.set #[] 0 (.fresh 0 0 (ledOf w)) }
theorem zu6 (x:Value){U:Value->Shared->Prop}(fin:U (.ref s.heap.objs.size) { s with heap:=s.heap.push (emp w) }) :
  codeAny (model prog w) A (.call (.builtin "set.__new__") ⟨[.type "set",x],[]⟩) (wants U E) s:=by
 refine codeAny_of_tree ?_
 show wpAny _ A.in1 (checkBuiltinCall "set.__new__" ⟨[.type "set",x],[]⟩ >>= λ _=>again (.builtin "set.__new__" ⟨[.type "set",x],[]⟩)) _ _ s
 refine uab (ufw (PySem.F.newCall_set_1 x) (uah ⟨ucd ugx _,ubn PySem.F.entry_set_new ?_⟩))
 rw[Around.under_plainId ugx _]
 unfold Builtin.«set.__new__» Builtin.Frozenset.newClass
 have sub1:=PySem.sub_set_self
 obtain⟨hp,g,d,tk,os⟩:=s
 dsimp only
 wp_walk
 refine ud0 (uah ?_)
 simp only [newObj]
 exact uab (wpAny_alloc (uah (uah fin)))
theorem zva (h:Heap):SetT prog w (h.push (emp w)) h.objs.size (λ y=>(firstMet (λ i=>([]:List Int).getD i 0) 0).any (·==y)) 0 :=
 ⟨SetOf_congr ((setObjOf_fresh (knd:=intKind prog w) (ledOf w)).setOf (Heap.get?_push_size _ rfl) (by unfold scanBound;left)) (λ _=>rfl) rfl,_,_,_,_,Heap.get?_push_size _ rfl,rfl,zqp _⟩
end
end Stb
namespace Stb
open PySem PyProof.Rows
theorem sl_next:Slot "set_iterator" "__next__" "set_iterator.__next__":=.of (owner:="set_iterator") (n:="__next__") (by rw[typeLookup_type,ufh];kernel_rfl) (by symm) (by symm) (by symm) (by first | exact .inl (by symm) | exact .inr (by symm)) (by rw[isSubtype_type];kernel_rfl)
theorem zhw:entryFor table "set_iterator.__next__"=some Builtin.«set_iterator.__next__»:=entryFor_of_tree (by kernel_rfl)
theorem zn7:Manifest.owners.lookup (String.ofList ['r','o','t','a','r','e','t','i','_','t','e','s'].reverse)=some Manifest.sig_set_iterator:=by kernel_rfl
theorem zil (a:Value):argsOk "set_iterator.__next__" ⟨[a],[]⟩:=by
 unfold argsOk;rw[signature?_of (id:="set_iterator.__next__") (n:=['_','_','t','x','e','n','_','_']) (o:=['r','o','t','a','r','e','t','i','_','t','e','s']) (by kernel_rfl) zn7];kernel_rfl
theorem ztl:entryFor table "set.__iter__"=some Builtin.«frozenset.__iter__»:=entryFor_alias (id':="frozenset.__iter__") (by kernel_rfl) rfl (by symm) (by kernel_rfl)
theorem zsa {α:Type}{l:List α}{i:Nat}(h:i<l.length):(l[i]::l.eraseIdx i).Perm l:=by
 rw[List.eraseIdx_eq_take_drop_succ]
 refine List.perm_middle.symm.trans ?_
 rw[← uep h,List.take_append_drop]
theorem zn3 {α:Type}(next:Nat->Nat):∀ (f k:Nat)(left:List α)(out:Array α),left.length=f->(pickOrder.go next f k left out).toList.Perm (out.toList++left)
 | 0,k,left,out,h=>by
  have:left=[]:=ucx.mp h
  subst this
  unfold pickOrder.go
  simp
 | f+1,k,left,out,h=>by
  have lt:next k%left.length<left.length:=Nat.mod_lt _ (by left)
  unfold pickOrder.go
  rw[uad lt]
  dsimp only
  refine (zn3 next f (k+1) _ _ (by rw[ugm lt];left)).trans ?_
  rw[Array.toList_push,ueb]
  refine ugn _ ?_
  exact zsa lt
theorem zn2 {α:Type}(next:Nat->Nat)(xs:Array α):(pickOrder next xs).toList.Perm xs.toList:=by
 unfold pickOrder
 simpa using zn3 next xs.size 0 xs.toList #[] (by simp)
section
variable {prog:Program}{w:World}{A:Around}{E:Value->Shared->Prop}{s:Shared}
theorem znc {M:Model}{src:Source}{n:Nat}{Q:Nat->Shared->Prop}(hn:n≠0)(h:∀ i,i<n->Q i { s with drawn:=s.drawn.bump src }):wpAny M A (choose src n) Q E s:=λ Γ p hΓ=>by
 unfold choose
 rw[Sem.wp_choose]
 exact⟨hn,by exact h _ (Nat.mod_lt _ (Nat.pos_of_ne_zero hn))⟩
theorem zim {α:Type}{M:Model}(n:Nat):∀ (xs:List α)(s:Shared)(Q:List α->Shared->Prop),xs.length=n->(∀ ys d',ys.Perm xs->Q ys { s with drawn:=d' })->wpAny M A (drawOrder n xs) Q E s:=by
 induction n with
 | zero =>
  intro xs s Q h hQ
  have:xs=[]:=ucx.mp h
  subst this
  unfold drawOrder
  exact uah (hQ [] s.drawn .nil)
 | succ n ih =>
  intro xs s Q h hQ
  cases xs with
  | nil=>cases h
  | cons x xs =>
   unfold drawOrder
   refine uab (znc (by simp) λ i hi=>?_)
   rw[uad hi]
   refine uab (ih _ _ _ (by rw[ugm hi];simp at h ⊢;left) λ ys d' pm=>uah (hQ _ d' ?_))
   exact (List.Perm.cons _ pm).trans (zsa hi)
end
end Stb
namespace Stb
open PySem PyProof.Rows
inductive Knd where
 | text
 | drawn (p:Addr) (pl:List Nat)
 | places
def First (w:World)(a:Addr)(es:Array (Int × Value))(ep:Nat)(t:SetTable)(ord:List (Int × Value))(i:Nat)(h:Heap)(first:Value):Knd->Prop
 | .text=>ledOf w=false/\ord=(pickOrder (w.params.setOrder a ep) es).toList/\∃ z:Nat,first=.int z 0
 | .drawn p pl=>first=.ref p/\h.IsTuple p (pl.map λ i=>rawInt (i:Nat)).toArray/\ord.length=pl.length/\∀ j k:Nat,pl[j]?=some k->∃ e,es[k]?=some e/\ord[j]?=some e
 | .places=>ledOf w=true/\(t.plain=true\/es.size<=1)/\ord=es.toList/\∃ z:Nat,first=.int z 0/\SetTable.below t.place z=i
def IsSet (h:Heap)(a:Addr)(es:Array (Int × Value))(ep:Nat)(t:SetTable):Prop:=∃ o,h.get? a=some o/\o.cls=.type "set"/\o.data=.set es ep t
def IsIt (h:Heap)(I a:Addr)(n ep i:Nat)(first:Value):Prop:=∃ o,h.get? I=some o/\o.cls=.type "set_iterator"/\o.data=.fields #[first,.int i 0,.ref a,.int n 0,.int ep 0]
section
variable {prog:Program}{w:World}{A:Around}{E:Value->Shared->Prop}{s:Shared}{a I:Addr}{es:Array (Int × Value)}{ep:Nat}{t:SetTable}
theorem zi7 {Q:Option (Value × Nat)->Shared->Prop}{z i:Nat}(hs:IsSet s.heap a es ep t)(fit:t.fits es.size=true)(hl:ledOf w=false)
  (h:Q (((pickOrder (w.params.setOrder a ep) es)[i]?).map λ e=>(e.2,z)) s):wpAny (model prog w) A (setNext a z i ep) Q E s:=by
 obtain⟨o,ho,_,od⟩:=hs
 have ft:w.params.followText "set-order"=true:=by simpa [ledOf] using hl
 unfold setNext setsByText
 refine uab (udv ho od fit ?_)
 refine uab (uab (ud0 (uah ?_)))
 show wpAny _ _ (if w.params.followText "set-order"=true then _ else _) _ _ _
 rw[if_pos ft]
 dsimp only
 rw[if_neg (by simp)]
 refine uab ?_
 unfold setWalk setsByText
 refine uab (udv ho od fit ?_)
 refine uab (uab (ud0 (uah ?_)))
 show wpAny _ _ (if w.params.followText "set-order"=true then _ else _) _ _ _
 rw[if_pos ft]
 exact uab (ud0 (uah (uah h)))
theorem ze5 {Q:Option (Value × Nat)->Shared->Prop}{z i:Nat}(hs:IsSet s.heap a es ep t)(fit:t.fits es.size=true)(ti:TI (ledOf w) t)(hl:ledOf w=true)(hp:t.plain=true\/es.size<=1)
  (h:Q (match es[SetTable.below t.place z]?,t.place[SetTable.below t.place z]? with | some (_,x),some j=>some (x,j+1) | _,_=>none) s):wpAny (model prog w) A (setNext a z i ep) Q E s:=by
 obtain⟨o,ho,_,od⟩:=hs
 have ft:w.params.followText "set-order"=false:=by simpa [ledOf] using hl
 unfold setNext setsByText
 refine uab (udv ho od fit ?_)
 refine uab (uab (ud0 (uah ?_)))
 show wpAny _ _ (if w.params.followText "set-order"=true then _ else _) _ _ _
 rw[if_neg (by rw[ft];exact uau)]
 dsimp only
 show wpAny _ _ (if (!t.plain&&decide (es.size>1))=true then _ else _) _ _ _
 rw[if_neg (by rcases hp with z | z <;> simp [z])]
 show wpAny _ _ ((if (!t.led&&!es.isEmpty)=true then unsupported "set:maker-not-led" else pure ()) >>= _) _ _ _
 rw[if_neg (by rw[ti.2,hl];simp)]
 exact uab (uah (uah h))
theorem IsIt.set0 {h:Heap}{n ep i:Nat}{first:Value}(x:IsIt h I a n ep i first)(v:Value):IsIt (h.update I (Obj.mapFields (·.setIfInBounds 0 v))) I a n ep i v:=by
 obtain⟨o,ho,hc,hd⟩:=x
 exact⟨_,Heap.get?_update_self _ ho (Obj.isFreed_of_fields (Obj.data_mapFields hd _)),(Obj.cls_mapFields ..).trans hc,by rw[Obj.data_mapFields hd];simp⟩
theorem IsIt.set1 {h:Heap}{n ep i:Nat}{first:Value}(x:IsIt h I a n ep i first):IsIt (h.update I (Obj.mapFields (·.setIfInBounds 1 (rawInt ((i:Int)+1))))) I a n ep (i+1) first:=by
 obtain⟨o,ho,hc,hd⟩:=x
 exact⟨_,Heap.get?_update_self _ ho (Obj.isFreed_of_fields (Obj.data_mapFields hd _)),(Obj.cls_mapFields ..).trans hc,by rw[Obj.data_mapFields hd];simp [rawInt]⟩
theorem zlk {Q:PySem.Fin->Shared->Prop}(hh:A.handled=none)(hE:∀ (e:Value) (h':Heap),(∀ b o,s.heap.get? b=some o->h'.get? b=some o)->Shared.TypeIs { s with heap:=h' } e "StopIteration"->E e { s with heap:=h' }) :
  wpAny (model prog w) A (newExc (.type "StopIteration") [] >>= λ e=>raiseNew e) Q E s:=by
 refine uab ?_
 simp only [newExc,newTuple]
 refine uab (ubu ?_ (by size_fits))
 refine uab (m:=firstArgMember _ _) (ufw (a:=Value.none) (by first | rfl | (simp only [firstArgMember];rfl)) (ubu ?_ (by size_fits)))
 simp only [raiseNew]
 refine uab (wpAny_handled ?_)
 rw[hh]
 refine uab (uah (wpAny_throw ?_))
 refine hE _ _ (λ b o e=>Heap.get?_push_of_some _ (Heap.get?_push_of_some _ e)) ?_
 exact⟨_,Heap.get?_push_size _ rfl,rfl⟩
section
variable {Q:Option Value->Shared->Prop}{i:Nat}
theorem zl4 {x:Value}{z nx:Nat}(hs:IsSet s.heap a es ep t)(fit:t.fits es.size=true)(hit:IsIt s.heap I a es.size ep i (.int z 0))
  (hn:∀ (A':Around)(Q':Option (Value × Nat)->Shared->Prop)(E':Value->Shared->Prop),Q' (some (x,nx)) s->wpAny (model prog w) A' (setNext a z i ep) Q' E' s)
  (hQ:∀ h',IsIt h' I a es.size ep (i+1) (.int nx 0)->Heap.SameBut I s.heap h'->Q (some x) { s with heap:=h' }):wpAny (model prog w) A (pyNext (.ref I)) Q E s:=by
 obtain⟨oi,hi,ci,di⟩:=id hit
 obtain⟨o,ho,_,od⟩:=hs
 unfold pyNext
 refine uab (udw (ubh (name:=Str.ofString "__next__") ⟨oi,hi,ci⟩ sl_next (ubm sl_next ⟨oi,hi,ci⟩ zhw ?_ (zil _))))
 show wpAny _ _ (fieldsOf (.ref I) >>= _) _ _ s
 refine uab (ufu hi di ?_)
 show wpAny _ _ (setEntries a >>= _) _ _ s
 refine uab (ud5 ho od fit ?_)
 dsimp only
 rw[if_neg (by simp)]
 show wpAny _ _ (setNext a z i ep >>= _) _ _ s
 refine uab (hn _ _ _ ?_)
 dsimp only
 refine uab (udq hi di (by simp) ?_)
 obtain⟨o1,hi1,ci1,di1⟩:=id (hit.set0 (rawInt nx))
 refine uab (udq hi1 di1 (by simp) (uah ⟨x,rfl,uah (hQ _ ?_ ((Heap.SameBut.update ..).trans (Heap.SameBut.update ..)))⟩))
 exact (hit.set0 (rawInt nx)).set1
theorem zo3 {z:Nat}(hh:A.handled=none)(hs:IsSet s.heap a es ep t)(fit:t.fits es.size=true)(hit:IsIt s.heap I a es.size ep i (.int z 0))
  (hn:∀ (A':Around)(Q':Option (Value × Nat)->Shared->Prop)(E':Value->Shared->Prop),Q' none s->wpAny (model prog w) A' (setNext a z i ep) Q' E' s)
  (hQ:∀ h',(∀ b o,b≠I->s.heap.get? b=some o->h'.get? b=some o)->Q none { s with heap:=h' }):wpAny (model prog w) A (pyNext (.ref I)) Q E s:=by
 obtain⟨oi,hi,ci,di⟩:=id hit
 obtain⟨o,ho,_,od⟩:=hs
 unfold pyNext
 refine uab (udw (ubh (name:=Str.ofString "__next__") ⟨oi,hi,ci⟩ sl_next (ubm sl_next ⟨oi,hi,ci⟩ zhw ?_ (zil _))))
 show wpAny _ _ (fieldsOf (.ref I) >>= _) _ _ s
 refine uab (ufu hi di ?_)
 show wpAny _ _ (setEntries a >>= _) _ _ s
 refine uab (ud5 ho od fit ?_)
 dsimp only
 rw[if_neg (by simp)]
 show wpAny _ _ (setNext a z i ep >>= _) _ _ s
 refine uab (hn _ _ _ ?_)
 dsimp only
 refine uab (udq hi di (by simp) (zlk hh λ e h' hk ty=>?_))
 refine uab (ueh (T:="StopIteration") (b:=true) ty ufv (uah (hQ _ λ b o hb e=>hk b o ?_)))
 exact (Heap.get?_update_other _ _ (Ne.symm hb)).trans e
theorem zqu {x:Value}{p:Addr}{pl:List Nat}{k:Nat}{hx:Int}(hs:IsSet s.heap a es ep t)(fit:t.fits es.size=true)(hit:IsIt s.heap I a es.size ep i (.ref p))(hp:s.heap.IsTuple p (pl.map λ i=>rawInt (i:Nat)).toArray)
  (hk:pl[i]?=some k) (he:es[k]?=some (hx,x)) (hQ:∀ h',IsIt h' I a es.size ep (i+1) (.ref p)->Heap.SameBut I s.heap h'->Q (some x) { s with heap:=h' }):wpAny (model prog w) A (pyNext (.ref I)) Q E s:=by
 obtain⟨oi,hi,ci,di⟩:=id hit
 obtain⟨o,ho,_,od⟩:=hs
 obtain⟨ol,hol,_,nl,hdl⟩:=hp
 unfold pyNext
 refine uab (udw (ubh (name:=Str.ofString "__next__") ⟨oi,hi,ci⟩ sl_next (ubm sl_next ⟨oi,hi,ci⟩ zhw ?_ (zil _))))
 show wpAny _ _ (fieldsOf (.ref I) >>= _) _ _ s
 refine uab (ufu hi di ?_)
 show wpAny _ _ (setEntries a >>= _) _ _ s
 refine uab (ud5 ho od fit ?_)
 dsimp only
 rw[if_neg (by simp)]
 show wpAny _ _ (seqItems? (.ref p) >>= _) _ _ s
 refine uab (ubv hol hdl ?_)
 have ek:(pl.map λ i=>rawInt (i:Nat)).toArray[i]?=some (.int k 0):=by rw[List.getElem?_toArray,uaj,hk];rfl
 simp only [uao,ek]
 show wpAny _ _ (setNextDrawn a k ep >>= _) _ _ s
 refine uab ?_
 unfold setNextDrawn
 refine uab (udv ho od fit ?_)
 dsimp only
 rw[if_neg (by simp),he]
 refine uah (uab (udq hi di (by simp) (uah ⟨x,rfl,uah (hQ _ hit.set1 (Heap.SameBut.update ..))⟩)))
theorem zs3 {p:Addr}{pl:List Nat}(hh:A.handled=none)(hs:IsSet s.heap a es ep t)(fit:t.fits es.size=true)(hit:IsIt s.heap I a es.size ep i (.ref p))(hp:s.heap.IsTuple p (pl.map λ i=>rawInt (i:Nat)).toArray)
  (hk:pl[i]?=none) (hQ:∀ h',(∀ b o,b≠I->s.heap.get? b=some o->h'.get? b=some o)->Q none { s with heap:=h' }):wpAny (model prog w) A (pyNext (.ref I)) Q E s:=by
 obtain⟨oi,hi,ci,di⟩:=id hit
 obtain⟨o,ho,_,od⟩:=hs
 obtain⟨ol,hol,_,nl,hdl⟩:=hp
 unfold pyNext
 refine uab (udw (ubh (name:=Str.ofString "__next__") ⟨oi,hi,ci⟩ sl_next (ubm sl_next ⟨oi,hi,ci⟩ zhw ?_ (zil _))))
 show wpAny _ _ (fieldsOf (.ref I) >>= _) _ _ s
 refine uab (ufu hi di ?_)
 show wpAny _ _ (setEntries a >>= _) _ _ s
 refine uab (ud5 ho od fit ?_)
 dsimp only
 rw[if_neg (by simp)]
 show wpAny _ _ (seqItems? (.ref p) >>= _) _ _ s
 refine uab (ubv hol hdl ?_)
 have ek:(pl.map λ i=>rawInt (i:Nat)).toArray[i]?=none:=by rw[List.getElem?_toArray,uaj,hk];rfl
 simp only [uao,ek]
 refine uab (udq hi di (by simp) ?_)
 obtain⟨o1,hi1,ci1,di1⟩:=id (hit.set0 (rawInt 0))
 refine uab (udq hi1 di1 (by simp) (zlk hh λ e h' hk ty=>?_))
 refine uab (ueh (T:="StopIteration") (b:=true) ty ufv (uah (hQ _ λ b o hb e=>hk b o ?_)))
 exact (Heap.get?_update_other _ _ (Ne.symm hb)).trans ((Heap.get?_update_other _ _ (Ne.symm hb)).trans e)
end
end
end Stb
namespace Stb
open PySem PyProof.Rows
theorem znr:Slot "set_iterator" "__iter__" "set_iterator.__iter__":=.of (owner:="set_iterator") (n:="__iter__") (by rw[typeLookup_type,ufh];kernel_rfl) (by symm) (by symm) (by symm) (by first | exact .inl (by symm) | exact .inr (by symm)) (by rw[isSubtype_type];kernel_rfl)
theorem zrr:entryFor table "set_iterator.__iter__"=some Builtin.«dict_keyiterator.__iter__»:=entryFor_alias (id':="dict_keyiterator.__iter__") (by kernel_rfl) (by first | rfl | decide +kernel | (unfold String.splitOn;simp +decide [String.splitOnAux])) (by symm) (by kernel_rfl)
theorem ztp (a:Value):argsOk "set_iterator.__iter__" ⟨[a],[]⟩:=by
 unfold argsOk;rw[signature?_of (id:="set_iterator.__iter__") (n:=['_','_','r','e','t','i','_','_']) (o:=['r','o','t','a','r','e','t','i','_','t','e','s']) (by kernel_rfl) zn7];kernel_rfl
section
variable {prog:Program}{w:World}{A:Around}{E:Value->Shared->Prop}{s:Shared}{a I:Addr}{es:Array (Int × Value)}{ep:Nat}{t:SetTable}
theorem zoz {Q:Value->Shared->Prop}{n i:Nat}{f:Value}(hit:IsIt s.heap I a n ep i f)(h:Q (.ref I) s):wpAny (model prog w) A (pyIter (.ref I)) Q E s:=by
 obtain⟨oi,hi,ci,di⟩:=id hit
 refine wpAny_pyIter_slot ⟨oi,hi,ci⟩ znr (ubm znr ⟨oi,hi,ci⟩ zrr ?_ (ztp _))
 show wpAny _ _ (ret (.ref I)) _ _ s
 exact uah ⟨_,rfl,"set_iterator",_,⟨oi,hi,ci⟩,sl_next.lookup,h⟩
def fpK (I a:Addr):Knd->List Addr
 | .drawn p _=>[I,a,p]
 | _=>[I,a]
def StK (w:World)(a I:Addr)(es:Array (Int × Value))(ep:Nat)(t:SetTable)(ord:List (Int × Value))(kd:Knd)(i:Nat)(h:Heap):Prop :=
 IsSet h a es ep t/\∃ first,IsIt h I a es.size ep i first/\First w a es ep t ord i h first kd
theorem zu8 (I a:Addr):∀ kd,I∈fpK I a kd/\a∈fpK I a kd
 | .text=>by simp [fpK]
 | .drawn _ _=>by simp [fpK]
 | .places=>by simp [fpK]
theorem zqd {ord:List (Int × Value)}{kd:Knd}(hh:A.handled=none)(aI:a≠I)(fit:t.fits es.size=true)(ti:TI (ledOf w) t)(hpI:∀ p pl,kd=.drawn p pl->p≠I)(pm:ord.Perm es.toList) :
  Walks prog w A I (fpK I a kd) [I] ord.length (λ i v=>∃ e,ord[i]?=some e/\v=e.2) (StK w a I es ep t ord kd) where
 sub:=λ b hb=>by simp at hb;rw[hb];exact (zu8 I a kd).1
 frame:=λ i h h' st hk=>by
  obtain⟨⟨o,ho,r⟩,f,⟨oi,hi,ri⟩,fk⟩:=st
  refine⟨⟨o,hk a (zu8 I a kd).2 o ho,r⟩,f,⟨oi,hk I (zu8 I a kd).1 oi hi,ri⟩,?_⟩
  cases kd with
  | text=>exact fk
  | places=>exact fk
  | drawn p pl =>
   obtain⟨e,⟨op,hp,rp⟩,rest⟩:=fk
   exact⟨e,⟨op,hk p (by simp [fpK]) op hp,rp⟩,rest⟩
 self:=λ i s Q E st hQ=>by
  obtain⟨_,f,hit,_⟩:=st
  exact zoz hit hQ
 item:=λ i s Q E hi st hQ=>by
  obtain⟨hs,f,hit,fk⟩:=st
  have hsK:∀ h',Heap.SameBut I s.heap h'->IsSet h' a es ep t:=λ h' sb=>by
   obtain⟨o,ho,r⟩:=hs
   exact⟨o,sb.extBut a o aI ho,r⟩
  have kp:∀ h',Heap.SameBut I s.heap h'->∀ b o,b∉[I]->s.heap.get? b=some o->h'.get? b=some o:=λ h' sb b o hb e=>sb.extBut b o (λ z=>hb (by simp [z])) e
  have oi:ord[i]?=some ord[i]:=uad hi
  cases kd with
  | text =>
   obtain⟨hl,eo,z,rfl⟩:=fk
   have ei:(pickOrder (w.params.setOrder a ep) es)[i]?=some ord[i]:=by rw[← ucs,← eo];exact oi
   refine zl4 (x:=ord[i].2) (nx:=z) hs fit hit (λ A' Q' E' q=>zi7 hs fit hl ?_) λ h' hit' sb=>hQ _ h' s.toks ⟨_,oi,rfl⟩ ⟨hsK h' sb,_,hit',hl,eo,z,rfl⟩ (kp h' sb)
   rw[ei];exact q
  | places =>
   obtain⟨hl,hp,eo,z,rfl,eb⟩:=fk
   have ei:es[i]?=some ord[i]:=by rw[← ucs,← eo];exact oi
   have szp:t.place.size=es.size:=by
    simp only [SetTable.fits,ucb,beq_iff_eq] at fit
    exact fit.1
   have il:i<t.place.size:=by rw[szp];exact (ugg.mp ei).1
   have ep':t.place[i]?=some t.place[i]:=uce il
   refine zl4 (x:=ord[i].2) (nx:=t.place[i]+1) hs fit hit (λ A' Q' E' q=>ze5 hs fit ti hl hp ?_) λ h' hit' sb=>hQ _ h' s.toks ⟨_,oi,rfl⟩ ⟨hsK h' sb,_,hit',hl,hp,eo,_,rfl,zm6 _ ti.1 ep'⟩ (kp h' sb)
   rw[eb,ei,ep'];exact q
  | drawn p pl =>
   obtain⟨rfl,hp,el,hj⟩:=fk
   have il:i<pl.length:=el ▸ hi
   obtain⟨e,ek,eo⟩:=hj i _ (uad il)
   obtain⟨hx,x⟩:=e
   refine zqu (x:=x) hs fit hit hp (uad il) ek λ h' hit' sb=>hQ _ h' s.toks ⟨_,eo,rfl⟩ ⟨hsK h' sb,_,hit',rfl,?_,el,hj⟩ (kp h' sb)
   obtain⟨op,hop,rp⟩:=hp
   exact⟨op,sb.extBut p op (hpI p pl rfl) hop,rp⟩
 done:=λ s Q E st hQ=>by
  obtain⟨hs,f,hit,fk⟩:=st
  have lo:ord.length=es.size:=by rw[pm.length_eq,ub0]
  have kp:∀ h':Heap,(∀ b o,b≠I->s.heap.get? b=some o->h'.get? b=some o)->∀ b o,b∉[I]->s.heap.get? b=some o->h'.get? b=some o:=λ h' k b o hb e=>k b o (λ z=>hb (by simp [z])) e
  cases kd with
  | text =>
   obtain⟨hl,eo,z,rfl⟩:=fk
   refine zo3 hh hs fit hit (λ A' Q' E' q=>zi7 hs fit hl ?_) λ h' k=>hQ h' s.toks (kp h' k)
   have:(pickOrder (w.params.setOrder a ep) es)[ord.length]?=none:=by rw[← ucs,← eo,uat (uai _)]
   rw[this];exact q
  | places =>
   obtain⟨hl,hp,eo,z,rfl,eb⟩:=fk
   refine zo3 hh hs fit hit (λ A' Q' E' q=>ze5 hs fit ti hl hp ?_) λ h' k=>hQ h' s.toks (kp h' k)
   have:es[ord.length]?=none:=by rw[lo];simp
   rw[eb,this];exact q
  | drawn p pl =>
   obtain⟨rfl,hp,el,hj⟩:=fk
   exact zs3 hh hs fit hit hp (by rw[el,uat (uai _)]) λ h' k=>hQ h' s.toks (kp h' k)
end
end Stb
namespace Stb
open PySem PyProof.Rows
section
variable {prog:Program}{w:World}{A:Around}{E:Value->Shared->Prop}{s:Shared}{a:Addr}{es:Array (Int × Value)}{ep:Nat}{t:SetTable}
theorem zre {Q:Bool->Shared->Prop}(hs:IsSet s.heap a es ep t)(fit:t.fits es.size=true)(h:Q (ledOf w&&(!t.plain&&decide (es.size>1))) s):wpAny (model prog w) A (setDrawn a) Q E s:=by
 obtain⟨o,ho,_,od⟩:=hs
 unfold setDrawn setsByText
 refine uab (udv ho od fit ?_)
 exact uab (uab (ud0 (uah (uah h))))
theorem zrd {Q:Value->Shared->Prop}(hs:IsSet s.heap a es ep t)(fit:t.fits es.size=true)(ti:TI (ledOf w) t)(small:es.size<=4096)
  (h:∀ (I:Addr)(h':Heap)(d':Drawn)(ord:List (Int × Value))(kd:Knd),(∀ b o,s.heap.get? b=some o->h'.get? b=some o)->s.heap.objs.size<=I->(∀ p pl,kd=.drawn p pl->p≠I/\s.heap.objs.size<=p)->ord.Perm es.toList->StK w a I es ep t ord kd 0 h' ->
   Q (.ref I) { s with heap:=h',drawn:=d' }):wpAny (model prog w) A (pyIter (.ref a)) Q E s:=by
 obtain⟨o,ho,oc,od⟩:=id hs
 refine wpAny_pyIter_slot ⟨o,ho,oc⟩ ugw (ubm ugw ⟨o,ho,oc⟩ ztl ?_ (PySem.F.args_set_iter_1 _))
 unfold Builtin.«frozenset.__iter__» Builtin.Frozenset.sizeOf
 show wpAny _ _ ((setEntries a >>= λ x=>pure x.size) >>= _) _ _ s
 refine uab (uab (ud5 ho od fit (uah (uab (zre hs fit ?_)))))
 have lastT : ∀ (h1 : Heap)(first : Value)(d' : Drawn)(ord : List (Int × Value))(kd : Knd), (∀ b o, s.heap.get? b = some o → h1.get? b = some o) → s.heap.objs.size <= h1.objs.size → (∀ p pl, kd = .drawn p pl → p<h1.objs.size /\ s.heap.objs.size <= p) → ord.Perm es.toList → (∀ h', (∀ b o, h1.get? b = some o → h'.get? b = some o) → First w a es ep t ord 0 h' first kd) →
     wpAny (model prog w) A.in1 (setEpoch a >>= λ e=>newFields "set_iterator" [first,rawInt 0,.ref a,rawInt es.size,rawInt e] >>= λ v=>ret v) (λ fin s'=>∃ v,fin=.done (.ret v)/\∃ T' r,s'.TypeIs v T'/\typeLookup (.type T') (Str.ofString "__next__")=pure (some r)/\Q v s') E { s with heap:=h1,drawn:=d' }:=λ h1 first d' ord kd hk sz hp pm hf=>by
  refine uab (wpAny_setEpoch_of (hk a o ho) od fit (uab (ubu (uah ⟨_,rfl,"set_iterator",_,⟨_,Heap.get?_push_size _ rfl,rfl⟩,sl_next.lookup,?_⟩))))
  exact h _ _ d' ord kd (λ b o e=>Heap.get?_push_of_some _ (hk b o e)) sz (λ p pl e=>⟨uas (hp p pl e).1,(hp p pl e).2⟩) pm ⟨⟨o,Heap.get?_push_of_some _ (hk a o ho),oc,od⟩,first,⟨_,Heap.get?_push_size _ rfl,rfl,rfl⟩,hf _ λ b o e=>Heap.get?_push_of_some _ e⟩
 dsimp only
 have es0:s={ s with heap:=s.heap,drawn:=s.drawn }:=by cases s;rfl
 by_cases c:(ledOf w&&(!t.plain&&decide (es.size>1)))=true
 ·rw[if_pos c]
  refine uab (zim _ _ _ _ (by simp) λ ys d' pm=>?_)
  have yl:ys.length=es.size:=by rw[pm.length_eq,uay]
  have line:es.size<=sizeLine:=by rw[uc9];left
  refine uab (ubu ?_ (by show (ys.map λ i=>rawInt (i:Nat)).toArray.size<=sizeLine;simpa [yl] using line))
  have ordE:∀ k∈ys,∃ e,es[k]?=some e:=λ k hk=>by
   have:k<es.size:=by simpa using pm.mem_iff.mp hk
   exact⟨_,uce this⟩
  have fm:∀ l:List Nat,(∀ k∈l,∃ e,es[k]?=some e)->(l.filterMap (es[·]?)).length=l.length/\∀ j k:Nat,l[j]?=some k->∃ e,es[k]?=some e/\(l.filterMap (es[·]?))[j]?=some e:=λ l=>by
   induction l with
   | nil=>exact λ _=>⟨rfl,λ j k e=>by simp at e⟩
   | cons x l ih =>
    intro hx
    obtain⟨e,he⟩:=hx x (by simp)
    obtain⟨h1,h2⟩:=ih λ k hk=>hx k (uan _ hk)
    rw[ugz (b:=e) he]
    refine⟨by simp [h1],λ j k ej=>?_⟩
    cases j with
    | zero=>simp at ej;subst ej;exact⟨e,he,rfl⟩
    | succ j=>simp only [List.getElem?_cons_succ] at ej ⊢;exact h2 j k ej
  obtain⟨f1,f2⟩:=fm ys ordE
  refine lastT _ (.ref s.heap.objs.size) d' (ys.filterMap (es[·]?)) (.drawn s.heap.objs.size ys) (λ b o e=>Heap.get?_push_of_some _ e) (by rw[Heap.size_push];exact uc5 _) (λ p pl e=>by cases e;rw[Heap.size_push];exact⟨ub2 _,uai _⟩) ?_ λ h' k=>⟨rfl,⟨_,k _ _ (Heap.get?_push_size _ rfl),rfl,_,rfl⟩,f1,f2⟩
  exact (pm.filterMap _).trans (by rw[filterMap_getElem?_range])
 ·rw[if_neg c]
  refine uab (uah ?_)
  cases cl:ledOf w with
  | false =>
   rw[es0]
   exact lastT s.heap (rawInt 0) s.drawn _ .text (λ _ _ e=>e) (uai _) (λ p pl e=>nomatch e) (zn2 _ es) λ h' k=>⟨cl,rfl,0,rfl⟩
  | true =>
   rw[es0]
   refine lastT s.heap (rawInt 0) s.drawn es.toList .places (λ _ _ e=>e) (uai _) (λ p pl e=>nomatch e) (.refl _) λ h' k=>⟨cl,?_,rfl,0,rfl,zm5 _ ti.1⟩
   rw[cl] at c
   cases pl:t.plain with
   | true=>exact .inl rfl
   | false=>rw[pl] at c;exact .inr (by simpa using c)
theorem zrg {Q:Bool->Shared->Prop}(hT:s.TypeIs (.ref a) "set")(h:Q false s):wpAny (model prog w) A (Builtin.List.listLengthHint (.ref a)) Q E s:=by
 unfold Builtin.List.listLengthHint
 refine uab (wpAny_specialOf hT PySem.F.slot_set_len.lookup ?_)
 generalize hid:("set.__len__":String)=id0
 wp_delta
 rw[show splitId id0=some ("set","__len__") from by subst hid;decide +kernel]
 subst hid
 refine uab (ueh (T:="set") (b:=true) hT (by rw[isSubtype_type];kernel_rfl) (wpAny_ite_split (λ z=>absurd z (by decide)) λ _=>?_))
 refine wpAny_ite_split (λ _=>uab (ud6 hT (uah h))) (λ z=>absurd (by symm) z)
theorem zkw:∀ l:List (Int × Value),ElemsOf (intKind prog w) l->∃ ks,IntsAre (l.map (·.2)) ks/\ks.length=l.length/\∀ k,k∈ks↔∃ e∈l,(intKind prog w).is k e.2=true
 | [],_=>⟨[],.nil,rfl,λ k=>by simp⟩
 | e::l,h=>by
  obtain⟨ks,h1,h2,h3⟩:=zkw l h.tail
  obtain⟨⟨k,hk,_⟩,_⟩:=h.head
  obtain⟨hx,x⟩:=e
  obtain⟨u,rfl⟩:=Value.isInt_shape hk
  refine⟨k::ks,.cons k u h1,by simp [h2],λ y=>?_⟩
  rw[uam,h3 y]
  constructor
  ·rintro (rfl | ⟨e,he,q⟩)
   ·exact⟨_,ual,hk⟩
   ·exact⟨e,uan _ he,q⟩
  ·rintro ⟨e,he,q⟩
   rcases uam.mp he with rfl | he
   ·exact .inl ((intKind prog w).inj _ _ _ q hk)
   ·exact .inr ⟨e,he,q⟩
theorem ztj {ord:List (Int × Value)}{acc:Array Value}(h:ItemsOf (λ i v=>∃ e,ord[i]?=some e/\v=e.2) acc ord.length):acc.toList=ord.map (·.2):=by
 refine uez (by simp [h.1]) λ i h1 h2=>?_
 have hi:i<acc.size:=by simpa using h1
 obtain⟨e,e1,e2⟩:=h.2 i _ (uce hi)
 have hi2:i<ord.length:=by simpa using h2
 rw[uad hi2] at e1
 cases e1
 simpa using e2
theorem zk3 {Q:List Value->Shared->Prop}{S:Int->Bool}{n:Nat}(hh:A.handled=none)(st:SetT prog w s.heap a S n)
  (hQ:∀ (h':Heap)(tk:Nat)(d':Drawn)(vs:List Value)(ks:List Int),(∀ b o,s.heap.get? b=some o->h'.get? b=some o)->IntsAre vs ks->ks.length=n->(∀ k,S k=true↔k∈ks)->Q vs { s with heap:=h',toks:=tk,drawn:=d' }) :
  wpAny (model prog w) A (collect (.ref a)) Q E s:=by
 obtain⟨⟨o,es,ep,t,ho,ox,od,el,me,small,fit,en⟩,o',es',ep',t',ho',od',ti⟩:=st
 rw[ho] at ho';cases ho'
 rw[od] at od';cases od'
 unfold collect
 refine uab (uft (ubn ufz ?_))
 rw[Around.under_plainId ufy _]
 show wpAny _ A.in1 (newList [] >>= λ l=>again (.builtin "list.__iadd__" ⟨[l,.ref a],[]⟩)) _ _ s
 refine uab (ubu ?_)
 refine uah ⟨ucd udz _,ubn ugj ?_⟩
 rw[Around.under_plainId udz _]
 show wpAny _ A.in1 (Builtin.List.listExtendWith (.ref s.heap.objs.size) (.ref a) (.ref s.heap.objs.size)) _ _ _
 have alt:a<s.heap.objs.size:=Heap.lt_size ho
 have hS:(s.heap.push { cls:=.type "list",data:=.seq ([]:List Value).toArray }).get? s.heap.objs.size=some { cls:=.type "list",data:=.seq #[] }:=Heap.get?_push_size _ rfl
 have szL:(s.heap.push { cls:=.type "list",data:=.seq ([]:List Value).toArray }).objs.size=s.heap.objs.size+1:=Heap.size_push ..
 unfold Builtin.List.listExtendWith
 have tS:Shared.TypeIs { s with heap:=s.heap.push { cls:=.type "list",data:=.seq ([]:List Value).toArray } } (.ref a) "set":=⟨o,Heap.get?_push_of_some _ ho,ox.1⟩
 refine uab (ud6 (T:="set") tS ?_)
 have h1:Builtin.List.listSameRef (.ref s.heap.objs.size) (.ref a)=false:=by simp only [Builtin.List.listSameRef,beq_eq_false_iff_ne];exact ucq alt
 have h2:(Value.type "set"==Value.type "list")=false:=by decide
 have h3:(Value.type "set"==Value.type "tuple")=false:=by decide
 simp only [h1,h2,h3,Bool.or_false,ub5,if_false]
 refine uab (zrd (t:=t) ⟨o,Heap.get?_push_of_some _ ho,ox.1,od⟩ fit ti (ue9 small) λ I h1 d1 ord kd hk lI hp pm stk=>?_)
 refine uab (ubd (zrg ⟨o,hk a o (Heap.get?_push_of_some _ ho),ox.1⟩ ?_))
 refine wpAny_ite_split (λ _=>?_) (λ z=>absurd (by decide) z)
 refine uab (udl ?_)
 refine uab ?_
 show wpAny _ _ (updateSeq s.heap.objs.size (·.push .none) >>= λ _=>updateSeq s.heap.objs.size (·.pop)) _ _ _
 have g1:=hk _ _ hS
 refine uab (udk g1 rfl ?_)
 have g2:=Heap.get?_update_self (Obj.mapSeq (·.push Value.none)) g1 rfl
 refine udk (hz:=by seq_fits) g2 rfl ?_
 have g3:=Heap.get?_update_self (Obj.mapSeq (·.pop)) g2 rfl
 have neI:s.heap.objs.size≠I:=uas (ua4 (by rw[szL];exact ub2 _) lI)
 have nfp:s.heap.objs.size∉fpK I a kd:=by
  cases kd with
  | text=>simp only [fpK,uam,ua1,or_false,not_or];exact⟨neI,ucq alt⟩
  | places=>simp only [fpK,uam,ua1,or_false,not_or];exact⟨neI,ucq alt⟩
  | drawn p pl =>
   simp only [fpK,uam,ua1,or_false,not_or]
   exact⟨neI,ucq alt,uas (ua4 (by rw[szL];exact ub2 _) (hp p pl rfl).2)⟩
 have aI:a≠I:=uas (ua4 (by rw[szL];exact ubz alt) lI)
 have W:=zqd (prog:=prog) (w:=w) (A:=A.in1) (ep:=ep) (ord:=ord) (kd:=kd) hh aI fit ti (λ p pl e=>(hp p pl e).1) pm
 have kU:∀ b o,b≠s.heap.objs.size->h1.get? b=some o->((h1.update s.heap.objs.size (Obj.mapSeq (·.push Value.none))).update s.heap.objs.size (Obj.mapSeq (·.pop))).get? b=some o:=λ b o hb e =>
  (Heap.get?_update_other _ _ (Ne.symm hb)).trans ((Heap.get?_update_other _ _ (Ne.symm hb)).trans e)
 have st1:=W.frame 0 _ _ stk λ b hb o e=>kU b o (λ z=>nfp (z ▸ hb)) e
 have lo:ord.length=n:=by rw[pm.length_eq,ub0,en]
 refine uah ⟨ucd PySem.F.plain_extend_loop _,codeAny_extend_loopS W.toS (by rw[lo,← en];exact ugh small) s.heap.objs.size nfp _ ord.length 0 _ #[] _ rfl (ube _) st1 g3 (ItemsOf.nil _) λ s' acc' c' hm hS' hacc=>?_⟩
 rw[Moved.eq_with hm]
 refine uab (wpAny_load hS' (uah ?_))
 obtain⟨ks,i1,i2,i3⟩:=zkw (prog:=prog) (w:=w) ord (el.perm pm)
 rw[ztj hacc]
 refine hQ _ _ _ _ ks (λ b o e=>hm.heap b o ?_ (kU b o (uas (Heap.lt_size e)) (hk b o (Heap.get?_push_of_some _ e)))) i1 (i2.trans lo) λ k=>(me k).trans ?_
 ·simp only [uam,ua1,or_false,not_or]
  have:=Heap.lt_size e
  exact⟨uas this,uas (ua4 (by rw[szL];exact ubz this) lI)⟩
 ·rw[i3 k]
  exact⟨λ ⟨e,he,q⟩=>⟨e,pm.mem_iff.mpr he,q⟩,λ ⟨e,he,q⟩=>⟨e,pm.mem_iff.mp he,q⟩⟩
end
end Stb
namespace Srt
open PySem PySem.Spec PyProof.Rows PySem.W
section
variable {prog:Program}{w:World}{A:Around}{E:Value->Shared->Prop}{s:Shared}
theorem zkf {x:Value}{Q:Value->Shared->Prop}{Good:List Value->Shared->Prop}
  (hcol:∀ (A':Around)(E':Value->Shared->Prop)(Q':List Value->Shared->Prop),A'.handled=A.handled->(∀ vs s',Good vs s'->Q' vs s')->wpAny (model prog w) A' (collect x) Q' E' s)
  (hg:∀ vs s1,Good vs s1->∃ (r:Nat->Int)(κ:SortKind),vs.length<64/\(2<=vs.length->∀ (A':Around)(s':Shared)(Q:SortKind->Shared->Prop),Q κ s'->wpAny (model prog w) A' (keyKind' vs.toArray) Q (λ _ _=>False) s') /\
   (∀ (A':Around)(s':Shared)(i j:Nat)(C:Bool->Shared->Prop),i<vs.length->j<vs.length->C (decide (r i<r j)) s'->kas_ask prog w A' κ vs i j C s') /\
   ∀ (p:Array Nat)(h':Heap)(c:Nat),Gd vs.length p->Up r p vs.length->(∀ b o,s1.heap.get? b=some o->h'.get? b=some o)->h'.get? s1.heap.objs.size=some (seqObj "list" (outOf vs p).toArray c)->Q (.ref s1.heap.objs.size) { s1 with heap:=h' }) :
  wpAny (model prog w) A (call (.builtin "sorted") [x]) Q E s:=by
 have line:(64:Nat)<=sizeLine:=by rw[uc9];decide
 refine Calls.call_function_entry kind_sorted plain_sorted entry_sorted (args_sorted1 _) ?_
 unfold Builtin.«sorted»
 refine uab (m:=checkCount "sorted" 1 1 _) (uah (uab (hcol _ _ _ rfl λ vs s1 g=>?_)))
 obtain⟨r,κ,h64,hk,hc,h⟩:=hg vs s1 g
 refine uab (uel ?_ (by left))
 have hoL:(s1.heap.push { cls:=.type "list",data:=.seq vs.toArray }).get? s1.heap.objs.size=some (seqObj "list" vs.toArray 0):=Heap.get?_push_size _ rfl
 have ne2:∀ b o,s1.heap.get? b=some o->b≠s1.heap.objs.size:=λ b o q=>uas (Heap.lt_size q)
 show wpAny _ _ _ _ _ { s1 with heap:=s1.heap.push { cls:=.type "list",data:=.seq vs.toArray } }
 refine uab (ubd (ubm slot_list_sort ⟨_,hoL,rfl⟩ entry_list_sort ?_ (args_list_sort _)))
 refine lsort (s:={ s1 with heap:=s1.heap.push { cls:=.type "list",data:=.seq vs.toArray } }) (r:=r) (κ:=κ) hoL h64 (λ h2 s' Q' st q=>hk h2 _ s' Q' q) (λ s' i j C st hi hj q=>hc _ s' i j C hi hj q) λ p h' c g1 u1 st e=>⟨_,rfl,?_⟩
 exact uah ⟨_,rfl,h p h' c g1 u1 (λ b o q=>st b o (ne2 b o q) (Heap.get?_push_of_some _ q)) e⟩
end
end Srt
namespace L3
open PySem PySem.Spec PyProof.Rows L2
def SetO (P:Program)(w:World)(a:Addr)(S:Int->Bool)(n:Nat):HO:=.ext λ h=>Stb.SetT P w h a S n
section
variable {X:Cx}
theorem zjk (hh:X.calm=true):CallR X (.builtin "sorted") (λ xs H Q=>∃ (p:Addr)(S:Int->Bool)(n:Nat),xs=[.ref p]/\H p=some (SetO X.prog X.w p S n)/\n<64/\∀ ms:List Int,ms.length=n->(∀ k,S k=true↔k∈ms)->ms.Pairwise (·<=·)->∀ l H',Same H H'->H l=none->H' l=some (.lst (ms.map V.int))->Q (.ref l) H'):=by
 intro pins s σ H xs us Q I r h
 obtain⟨p,S,n,rfl,hp,h64,q⟩:=h
 obtain⟨u,rfl,rx⟩:=vals1 r
 cases rx
 have hS:Stb.SetT X.prog X.w s.heap p S n:=(show ObjOk X.prog X.w H s.heap p (SetO X.prog X.w p S n) from I.hok p _ hp).1
 refine Srt.zkf (Good:=λ vs s1=>∃ (h1:Heap)(tk:Nat)(d':Drawn)(ns:List Int),s1={ s with heap:=h1,toks:=tk,drawn:=d' }/\(∀ b o,s.heap.get? b=some o->h1.get? b=some o)/\IntsAre vs ns/\ns.length=n/\∀ k,S k=true↔k∈ns)
  (λ A' E' Q' eh hQ=>Stb.zk3 (eh.trans (I.ok.hd hh)) hS λ h1 tk d' vs ns hk hI hl hm=>hQ vs _ ⟨h1,tk,d',ns,rfl,hk,hI,hl,hm⟩) λ its s1 g=>?_
 obtain⟨gg,tk,d',ns,rfl,kg,hI,hn,hm⟩:=g
 have hl:its.length=ns.length:=by
  clear hn hm
  induction hI with
  | nil=>rfl
  | cons n t _ ih=>simp [ih]
 refine⟨λ i=>ns.getD i 0,oneType',by left,λ h2 A' s' Q' q'=>Srt.zl3 hI h2 q',λ A' s' i j C hi hj q'=>Srt.zo4 hI hi hj q',λ pp h' c g u kp e=>?_⟩
 have g':Srt.Gd ns.length pp:=by rw[← hl];exact g
 have u':Srt.Up (λ i=>ns.getD i 0) pp ns.length:=by rw[← hl];exact u
 have pm:(pp.toList.map λ i=>ns.getD i 0).Perm ns:=by
  have:=zky g' λ i=>ns.getD i 0
  rw[zba] at this
  exact this
 have pw:(pp.toList.map λ i=>ns.getD i 0).Pairwise (·<=·):=by
  rw[udd]
  exact zj8 g' u' λ i j _ _ z=>z
 have I1:Inv X pins σ H { s with heap:=gg,toks:=tk,drawn:=d' }:=by
  have:=I.kept (t':=tk) kg
  exact⟨this.ok,this.os,this.bare,this.base,this.loc,this.cell,this.free,this.freeC,this.pin,this.hok,this.len⟩
 have fr:H gg.objs.size=none:=I1.hok.fresh (uai _)
 have ev:((pp.toList.map λ i=>ns.getD i 0).map V.int)=pp.toList.map λ i=>(ns.map V.int).getD i .non:=by
  rw[uby]
  refine ueg λ i hi=>?_
  have:=zgv g' i hi
  simp [ude,this]
 have rv:Vals (ns.map V.int) its:=by
  clear hn hm g' u' pm pw ev hl g u e kp
  induction hI with
  | nil=>exact .nil
  | cons n t _ ih=>exact .cons ⟨t,rfl⟩ ih
 refine⟨.ref gg.objs.size,_,I1.laid (a:=gg.objs.size) (o:=.lst ((pp.toList.map λ i=>ns.getD i 0).map V.int)) (t':=tk) kp (uai _) ⟨?_,Srt.outOf its pp,c,?_,e⟩,rfl,q _ (pm.length_eq.trans hn) (λ k=>(hm k).trans pm.mem_iff.symm) pw _ _ (zam fr) fr zai⟩
 ·have:=pm.length_eq
  have line:(64:Nat)<=sizeLine:=by rw[uc9];decide
  rw[uae,this];left
 ·rw[ev]
  exact zej rv pp.toList λ i hi=>by rw[uae];exact zgv g' i hi
end
theorem zbr (val:Nat->Int):∀ i,(firstMet val i).Nodup/\∀ k,k∈firstMet val i↔k∈(uaf i).map val
 | 0=>⟨by rw[firstMet_zero];exact List.nodup_nil,λ k=>by rw[firstMet_zero];simp⟩
 | i+1=>by
  obtain⟨h1,h2⟩:=zbr val i
  rw[firstMet_succ,ucf,ucm]
  unfold step_dedup
  by_cases c:(firstMet val i).any (λ y=>y==val i)=true
  ·rw[if_pos c]
   obtain⟨y,hy,e⟩:=ucu.mp c
   have e':y=val i:=by simpa using e
   refine⟨h1,λ k=>?_⟩
   rw[h2 k,ubp]
   refine⟨.inl,λ z=>z.elim id λ z=>?_⟩
   have:k=val i:=by simpa using z
   rw[this,← e',← h2 y];exact hy
  ·rw[if_neg c]
   refine⟨ues.mpr ⟨h1,by simp,λ a ha b hb e=>c (ucu.mpr ⟨a,ha,?_⟩)⟩,λ k=>by rw[ubp,ubp,h2 k];simp⟩
   have:b=val i:=by simpa using hb
   simp [e,this]
theorem zew:∀ {l m:List Int},l.Nodup->(∀ x∈l,x∈m)->m.length<=l.length->m.Perm l
 | [],m,_,_,h=>by
  have:m=[]:=ucx.mp (by simpa using h)
  rw[this]
 | x::l,m,nd,sub,h=>by
  have hx:=sub x ual
  obtain⟨nx,nl⟩:=ucl.mp nd
  have pe:=uds hx
  refine pe.trans (List.Perm.cons x (zew nl (λ y hy=>?_) ?_))
  ·exact (List.mem_erase_of_ne λ e=>nx (by rw[← e];exact hy)).mpr (sub y (uan _ hy))
  ·rw[List.length_erase_of_mem hx];simp at h;left
theorem zlm (ns:List Int)(k:Int):HT.setS ns ns.length k=true↔k∈ns:=by
 have:=(zbr (λ i=>ns.getD i 0) ns.length).2 k
 rw[zba] at this
 rw[← this]
 unfold HT.setS
 rw[ucu]
 exact⟨λ ⟨y,hy,e⟩=>by rw[← show y=k by simpa using e];exact hy,λ h=>⟨k,h,by simp⟩⟩
theorem zqr {ns ms:List Int}(hl:ms.length=HT.setN ns ns.length)(hm:∀ k,HT.setS ns ns.length k=true↔k∈ms):ms.Nodup/\∀ k,k∈ms↔k∈ns:=by
 obtain⟨n1,n2⟩:=zbr (λ i=>ns.getD i 0) ns.length
 rw[zba] at n2
 have pm:=zew (m:=ms) n1 (λ x hx=>(hm x).mp ((zlm ns x).mpr ((n2 x).mp hx))) (ufa hl)
 exact⟨pm.nodup_iff.mpr n1,λ k=>(hm k).symm.trans (zlm ns k)⟩
section
variable {g:TG}{tt:TT}{te:TE}{own:List Str}{js:List Nat}{σ:L2.St}{H1:Hp}{Q:VK}
end
def RowV (lo hi:Nat)(J:Hp)(v:V):Prop:=∃ (p:Addr)(ns:List Int),v=.ref p/\J p=some (.tup (ns.map V.int))/\lo<=ns.length/\ns.length<=hi
mutual
theorem Is.tk {K:uac}{H H':Hp}(e:TupKeep H H'):∀ (d:PyData){v:V},tupD d=true->Is K H d v->Is K H' d v
 | .none,_,_,h=>h
 | .bool _,_,_,h=>h
 | .int _,_,_,h=>h
 | .str _,_,_,h=>h
 | .tuple ds,_,t,h=>let ⟨q,vs,q1,q2,q3⟩:=h;⟨q,vs,q1,e _ _ q2,IsAll.tk e ds t q3⟩
 | .list ds,_,t,h=>by cases t
 | .dict _,_,t,h=>by cases t
theorem IsAll.tk {K:uac}{H H':Hp}(e:TupKeep H H'):∀ (ds:List PyData){vs:List V},tupAll ds=true->IsAll K H ds vs->IsAll K H' ds vs
 | [],_,_,h=>h
 | d::ds,_,t,h=>by
  have t':(tupD d&&tupAll ds)=true:=t
  rw[ucb] at t'
  obtain⟨v,r,q1,q2,q3⟩:=h
  exact⟨v,r,q1,Is.tk e d t'.1 q2,IsAll.tk e ds t'.2 q3⟩
end
end L3
namespace Peel
abbrev T2:=Nat × Nat
def hit (gone:List Nat)(p:Nat)(t:T2):Bool:=(t.1==p&&!gone.contains t.2)||(t.2==p&&!gone.contains t.1)
def deg (ts:List T2)(gone:List Nat)(p:Nat):Nat:=ts.countP (hit gone p)
def may (ts:List T2)(d:Int)(gone:List Nat)(p:Nat):Bool:=!gone.contains p&&decide ((deg ts gone p:Int)<=d)
def next (n:Nat)(ts:List T2)(d:Int)(gone:List Nat):Option Nat:=(uaf n).find? (may ts d gone)
def run (n:Nat)(ts:List T2)(d:Int):Nat->List Nat->List Nat
 | 0,g=>g
 | f+1,g=>match next n ts d g with
  | none=>g
  | some p=>run n ts d f (g++[p])
section
variable {n:Nat}{ts:List T2}{d:Int}{g:List Nat}{p:Nat}
def Good (n:Nat)(g:List Nat):Prop:=g.Nodup/\∀ p∈g,p<n
theorem zfa:∀ (n:Nat)(g:List Nat),g.Nodup->(∀ p∈g,p<n)->g.length<=n
 | 0,[],_,_=>uai _
 | 0,p::_,_,h=>absurd (h p ual) (uej _)
 | n+1,g,nd,h=>by
  have h1:=zfa n (g.filter λ p=>p != n) (nd.filter _) λ p hp=>by
   have:=ubl.mp hp
   have a:=h p this.1
   have b:p≠n:=by simpa using this.2
   left
  have e:g.length=(g.filter λ p=>p != n).length+g.countP (λ p=>p==n):=by
   rw[← List.countP_eq_length_filter]
   have:=List.length_eq_countP_add_countP (λ p=>p==n) (l:=g)
   have e2:g.countP (λ p=>decide ¬(p==n)=true)=g.countP λ p=>p != n:=List.countP_congr λ x _=>by simp
   rw[e2] at this
   left
  have c:g.countP (λ p=>p==n)<=1:=by
   have:=List.nodup_iff_count.mp nd n
   exact this
  left
def gone (n:Nat)(ts:List T2)(d:Int):List Nat:=run n ts d n []
end
end Peel
namespace L3
open PySem PySem.Spec PyProof.Rows L2
section
variable {g:TG}{tt:TT}{te:TE}{own:List Str}{js:List Nat}{σ:L2.St}{H1:Hp}{Q:VK}
end
end L3
namespace Lr
open Far (chn zcy zcp zh7 zme RingOf)
section
variable {R:Nat->Nat->Prop}
structure Rg (R:Nat->Nat->Prop)(h:Nat)(tl:List Nat):Prop where
 len:2<=tl.length
 nd:(h::tl).Nodup
 ch:chn R (h::tl++[h])
def Cano (h:Nat)(tl:List Nat):Prop:=(∀ v∈tl,h<v)/\∃ x m y,tl=x::(m++[y])/\x<y
def stepW (rows:Nat->List Nat)(w:List Nat):List (List Nat):=((rows (w.getLast?.getD 0)).filter λ o=>decide (w.headD 0<o)&&!decide (o∈w)).map λ o=>w++[o]
def ways (rows:Nat->List Nat)(n:Nat):Nat->List (List Nat)
 | 0=>(uaf n).map λ v=>[v]
 | s+1=>(ways rows n s).flatMap (stepW rows)
structure PW (R:Nat->Nat->Prop)(n:Nat)(w:List Nat):Prop where
 ne:w≠[]
 nd:w.Nodup
 ch:chn R w
 lt:∀ v∈w,v<n
 up:∀ h t,w=h::t->∀ v∈t,h<v
section
variable {rows:Nat->List Nat}{n:Nat}
end
end
end Lr
namespace Lr
open Far (chn zcy zcp zh7 zme RingOf)
def lle:List Nat->List Nat->Prop
 | [],_=>True
 | _::_,[]=>False
 | a::l,b::m=>a<b\/(a=b/\lle l m)
section
variable {R:Nat->Nat->Prop}
structure Sh (R:Nat->Nat->Prop)(z v:Nat)(l:List Nat):Prop where
 ch:chn R (v::l)
 last:(v::l).getLast?=some z
 min:∀ l',chn R (v::l')->(v::l').getLast?=some z->l.length<=l'.length
def Ds (R:Nat->Nat->Prop)(z:Nat)(D:Nat->Option Nat):Prop:=∀ v,(∀ m,D v=some m->∃ l,chn R (v::l)/\(v::l).getLast?=some z/\l.length=m)/\∀ l,chn R (v::l)->(v::l).getLast?=some z->∃ m,D v=some m/\m<=l.length
def Rm (R:Nat->Nat->Prop)(a b u v:Nat):Prop:=R u v/\¬ (u=a/\v=b)/\¬ (u=b/\v=a)
end
end Lr
namespace Lr
open Far (chn zcy zcp zh7 zme RingOf)
structure Ties (R:Nat->Nat->Prop)(ks:List Nat)(ends:Nat->Nat × Nat):Prop where
 sy:∀ u v,R u v->R v u
 of:∀ k∈ks,(ends k).1<(ends k).2/\R (ends k).1 (ends k).2
 to:∀ u v,R u v->u<v->∃ k∈ks,ends k=(u,v)
 up:∀ k∈ks,∀ j∈ks,k<=j->(ends k).1<(ends j).1\/((ends k).1=(ends j).1/\(ends k).2<=(ends j).2)
section
variable {R:Nat->Nat->Prop}{ks:List Nat}{ends:Nat->Nat × Nat}
end
section
variable {R:Nat->Nat->Prop}{rows:Nat->List Nat}{n:Nat}
end
end Lr
namespace L3
open PySem PySem.Spec PyProof.Rows L2
section
variable {own:List Str}{js:List Nat}{g:TG}{te:TE}{σ:L2.St}{Q:VK}{H1:Hp}
end
structure Bes (H:Hp)(l:Addr)(as:List Addr)(rows:Nat->List V):Prop where
 top:H l=some (.lst (as.map V.ref))
 nd:as.Nodup
 own:l∉as
 row:∀ i a,as[i]?=some a->H a=some (.lst (rows i))
def Uniq (ts:List Tie)(ks:List Nat)(j m:Nat):Prop:=∃ cs:List Nat,cs.Nodup/\cs.length=m/\∀ c∈cs,∃ k∈ks,∃ l,(j,c,l)∈arcs2 (tieAt ts k)
section
variable {X:Cx}
inductive rExtendB_i  (x:V) (vs:List V) (H:Hp) (Q:VK):Prop
 | mk:∀ l b xs zs,(x=.ref l)->(vs=[.ref b])->(H l=some (.lst xs))->(H b=some (.lst zs))->(xs.length+zs.length<=10^7)->(∀ H',But l H H'->H' l=some (.lst (xs++zs))->Q .non H')->rExtendB_i x vs H Q
def rExtendB :V->List V->Hp->VK->Prop:=λ x vs H Q=>rExtendB_i x vs H Q
theorem zmr:MtM X "list.extend" rExtendB:=by
 intro pins s σ H x vs v us Q I rx rv h
 obtain⟨l,b,xs,zs,rfl,rfl,hH,hB,hz,q⟩:=h
 exact zok (X:=X) pins s σ H _ _ v us Q I rx rv ⟨l,b,xs,zs,rfl,rfl,hH,hB,ubt hz (by decide),q _ But.upd zai⟩
end
def Adj (ts:List Tie)(ks:List Nat)(u v:Nat):Prop:=∃ k∈ks,(u,v,(tieAt ts k).2.2)∈arcs2 (tieAt ts k)
def en (ts:List Tie)(k:Nat):Nat × Nat:=((tieAt ts k).1.toNat,(tieAt ts k).2.1.toNat)
section
variable {n:Int}{ts:List Tie}{ks:List Nat}{u v k:Nat}
theorem a2_iff {t:Tie}:(u,v,t.2.2)∈arcs2 t↔(u=t.1.toNat/\v=t.2.1.toNat)\/(u=t.2.1.toNat/\v=t.1.toNat):=by
 rw[arcs2_mem]
 refine or_congr ⟨λ e=>?_,λ e=>by rw[e.1,e.2]⟩ ⟨λ e=>?_,λ e=>by rw[e.1,e.2]⟩ <;> (injection e with e1 e2;injection e2 with e2 _;exact⟨e1,e2⟩)
theorem zpb (ok:WebOk n ts)(hk:k<ts.length):(en ts k).1<(en ts k).2/\(en ts k).2<n.toNat/\(((en ts k).1:Nat):Int)=(tieAt ts k).1/\(((en ts k).2:Nat):Int)=(tieAt ts k).2.1:=by
 have tk:=ok.tie _ (za6 hk).2
 unfold en
 simp only
 left
end
theorem zb3 {K:uac}{H:Hp}{p:Addr}{ks:List Nat}(h:H p=some (.tup (natV ks))):Is K H (keepD ks) (.ref p):=⟨p,_,rfl,h,by rw[zbg];exact IsAll.ints _⟩
def IsLR (ts:List Tie)(ks:List Nat)(h:Nat)(tl:List Nat):Prop:=Lr.Rg (Adj ts ks) h tl/\Lr.Cano h tl/\(∀ h' tl',Lr.Rg (Adj ts ks) h' tl'->tl.length<=tl'.length)/\∀ h' tl',Lr.Rg (Adj ts ks) h' tl'->Lr.Cano h' tl'->tl'.length=tl.length->Lr.lle (h::tl) (h'::tl')
section
variable {J:It}{g:TG}{tt:TT}{te:TE}{own:List Str}{js:List Nat}{σ:L2.St}{H1:Hp}{Q:VK}
end
end L3
namespace Stb
open PySem PyProof.Rows
section
variable {prog:Program}{w:World}{A:Around}{E:Value->Shared->Prop}{s:Shared}
theorem zuf {t:Addr}{xs:Array Value}{ns:List Int}{Q:Value->Shared->Prop}(hh:A.handled=none)(ht:s.heap.IsList t xs)(hi:IntsAre xs.toList ns)(hb:xs.size+1<scanBound)
  (fin:∀ (h':Heap)(tk:Nat),SetT prog w h' s.heap.objs.size (HT.setS ns xs.size) (HT.setN ns xs.size)->(∀ b o,b<s.heap.objs.size->s.heap.get? b=some o->h'.get? b=some o)->Q (.ref s.heap.objs.size) { s with heap:=h',toks:=tk }) :
  wpAny (model prog w) A (call (.type "set") [.ref t]) Q E s:=by
 obtain⟨c,tl,hmro⟩:=ubc.mro
 have hmade:=ubc.made;have hsub:=ubc.sub
 refine wpAny_call (codeAny_of_tree ?_);show wpAny _ _ (callAny (.type "set") _) _ _ _
 refine uah ⟨Code.quiet_builtin _ (by symm),ubn ugi ?_⟩
 rw[Around.under_plain (uf9 "set" [.ref t] []) rfl]
 have h1:=ubc.notType;have h2:=ubc.canCreate;have hct:=ugp (.ref t)
 repeat (any_goals (first | assumption | wp_step))
 refine ud7 (zu6 (.ref t) (E:=E) (U:=λ obj s₁=>obj=.ref s.heap.objs.size/\s₁={ s with heap:=s.heap.push (emp w) }) ⟨rfl,rfl⟩) λ r s₁ hr=>?_
 match r,hr with
 | .error e,hr=>exact hr
 | .ok .next,hr=>exact hr.elim
 | .ok .brk,hr=>exact hr.elim
 | .ok .cont,hr=>exact hr.elim
 | .ok (.ret obj),hr =>
  obtain⟨rfl,rfl⟩:=hr
  have gS:(s.heap.push (emp w)).get? s.heap.objs.size=some (emp w):=Heap.get?_push_size _ rfl
  have hT:Shared.TypeIs { s with heap:=s.heap.push (emp w) } (.ref s.heap.objs.size) "set":=⟨_,gS,rfl⟩
  have hli:=ubc.init.lookup;have hbi:=ubc.init.bind (.ref s.heap.objs.size)
  repeat (any_goals (first | assumption | wp_step))
  refine ud7 (ufp (R:=wants (λ r s₂=>r=.none/\∃ h' tk,s₂={ s with heap:=h',toks:=tk }/\SetT prog w h' s.heap.objs.size (HT.setS ns xs.size) (HT.setN ns xs.size)/\(∀ b o,b<s.heap.objs.size->s.heap.get? b=some o->h'.get? b=some o)) E) ubc.init.plain ugq (ug0 hT ?_)) λ r₂ s₂ hr₂=>?_
  ·obtain⟨ot,ho,hc,m,hd⟩:=id ht
   obtain⟨ocls,odict,odata,oslots⟩:=ot
   simp only at hc hd;subst hc hd
   have ho':(s.heap.push (emp w)).get? t=some { cls:=.type "list",dict:=odict,data:=.seq xs m,slots:=oslots }:=Heap.get?_push_of_some _ ho
   have f1:=PySem.F.sub_list_set;have f2:=PySem.F.sub_list_frozenset
   have f3:(Value.type "list"==Value.type "dict")=false:=by decide
   have it1:(s.heap.push (emp w)).IsList t xs:=⟨_,ho',rfl,m,rfl⟩
   unfold Builtin.«set.__init__» noKeywords Builtin.Frozenset.updateFrom
   generalize hPI:pyIter=PI
   wp_walk;subst hPI
   refine uct it1 (uab (uft ?_))
   have lt:t<s.heap.objs.size:=Heap.lt_size ho
   have hh3:A.in1.in1.in1.handled=none:=by simp [hh]
   have sz1:(s.heap.push (emp w)).objs.size=s.heap.objs.size+1:=Heap.size_push ..
   have tI:t≠(s.heap.push (emp w)).objs.size:=by rw[sz1];exact uas (ubz lt)
   have Sfp:s.heap.objs.size∉[(s.heap.push (emp w)).objs.size,t]:=by
    rw[sz1];simp only [uam,ua1,or_false,not_or];exact⟨uas (ub2 _),(uas lt).symm⟩
   have vals:∀ (i:Nat)(v:Value),xs[i]?=some v->∃ u,v=.int ((λ i=>ns.getD i 0) i) u:=λ i v hv=>IntsAre.int_at hi i v (by rw[ucs];exact hv)
   refine zuo ((Walks.list hh3 _ t tI xs).toS) s.heap.objs.size Sfp (λ i=>ns.getD i 0) vals hb (xs.size-0) 0 _ (by left) (ube _) ?st ?s0 ?fin
   case st=>exact⟨⟨_,Heap.get?_push_size _ rfl,rfl,rfl⟩,it1.push _⟩
   case s0=>exact (zva s.heap).keep λ o e=>Heap.get?_push_of_some _ e
   case fin =>
    rintro ⟨h',g',d',tk',os'⟩ hm hS'
    obtain rfl:g'=s.gens:=hm.gens
    obtain rfl:d'=s.drawn:=hm.drawn
    obtain rfl:os'=s.os:=hm.os
    refine uah (uah ⟨rfl,h',tk',rfl,hS',λ b o hlt e=>hm.heap b o ?_ (Heap.get?_push_of_some _ (Heap.get?_push_of_some _ e))⟩)
    rw[sz1];simp only [uam,ua1,or_false,not_or]
    exact⟨uas hlt,uas (ubz hlt)⟩
  ·match r₂,hr₂ with
   | .error e,hr₂=>exact hr₂
   | .ok .next,hr₂=>exact hr₂.elim
   | .ok .brk,hr₂=>exact hr₂.elim
   | .ok .cont,hr₂=>exact hr₂.elim
   | .ok (.ret v),hr₂ =>
    obtain⟨rfl,h',tk,rfl,hS',hk⟩:=hr₂
    repeat (any_goals (first | assumption | wp_step))
    exact fin h' tk hS' hk
end
end Stb
namespace L3
open PySem PySem.Spec PyProof.Rows L2
section
variable {X:Cx}
theorem zm1 (hh:X.calm=true):CallR X (.type "set") (λ xs H Q=>∃ (p:Addr)(ns:List Int),xs=[.ref p]/\H p=some (.lst (ns.map V.int))/\ns.length<=1000/\∀ q H',Same H H'->H q=none->H' q=some (SetO X.prog X.w q (HT.setS ns ns.length) (HT.setN ns ns.length))->Q (.ref q) H'):=by
 intro pins s σ H xs us Q I r h
 obtain⟨p,ns,rfl,hp,hl,q⟩:=h
 obtain⟨u,rfl,rx⟩:=vals1 r
 cases rx
 obtain⟨its,rv,pt,hz⟩:=I.list (SqL.of hp)
 have hlen:=rv.length
 rw[uae] at hlen
 have fr:H s.heap.objs.size=none:=I.hok.fresh (uai _)
 have esz:its.toArray.size=ns.length:=by rw[uap,← hlen]
 refine Stb.zuf (ns:=ns) (I.ok.hd hh) (show s.heap.IsList p its.toArray from pt.isList) (by simpa using zbd rv) (by rw[esz];unfold scanBound;left) λ h' tk hS hk=>?_
 rw[esz] at hS
 refine⟨.ref s.heap.objs.size,_,I.laid (a:=s.heap.objs.size) (o:=SetO X.prog X.w s.heap.objs.size (HT.setS ns ns.length) (HT.setN ns ns.length)) (t':=tk) (λ b o e=>hk b o (Heap.lt_size e) e) (uai _) ⟨hS,?_,λ h1 h2 x k=>x.keep k⟩,rfl,q _ _ (zam fr) fr zai⟩
 obtain⟨⟨o,_,_,_,ho,_⟩,_⟩:=hS
 exact⟨o,ho⟩
end
end L3
namespace Far
variable {A:List (Nat × Nat × Int)}{s:Nat}
def Unit1 (A:List (Nat × Nat × Int)):Prop:=∀ u v l,(u,v,l)∈A->l=1
def AtK (A:List (Nat × Nat × Int))(s k v:Nat):Prop:=Walk A s v (k:Int)/\∀ x,Walk A s v x->(k:Int)<=x
structure Bfs (A:List (Nat × Nat × Int))(s i:Nat)(D:Nat->Option Nat)(ring:List Nat):Prop where
 found:∀ v d,D v=some d↔AtK A s d v/\d<i
 ring:∀ v,v∈ring↔AtK A s i v
end Far
namespace L3
open PySem PySem.Spec PyProof.Rows L2
theorem zqs {ns:List Int}{m:Nat}(h:∀ x∈ns,0<=x/\x<m):HT.setN ns ns.length<=m:=by
 obtain⟨h1,h2⟩:=zbr (λ i=>ns.getD i 0) ns.length
 rw[L3.zba ns 0] at h2
 have e:(firstMet (λ i=>ns.getD i 0) ns.length).length=((firstMet (λ i=>ns.getD i 0) ns.length).map Int.toNat).length:=(uae _).symm
 show (firstMet (λ i=>ns.getD i 0) ns.length).length<=m
 rw[e]
 refine Peel.zfa m _ ?_ λ p hp=>?_
 ·rw[ua7,udd]
  refine ufn ?_ h1
  intro a b ha hb ne z
  have:=h a ((h2 a).mp ha)
  have:=h b ((h2 b).mp hb)
  exact ne (by left)
 ·obtain⟨x,hx,rfl⟩:=ubx.mp hp
  have:=h x ((h2 x).mp hx)
  left
theorem zl2:∀ {ms:List Int},(∀ x∈ms,0<=x)->ms.map V.int=natV (ms.map Int.toNat)
 | [],_=>rfl
 | x::ms,h=>by
  have e:((x.toNat:Nat):Int)=x:=ua6 (h x ual)
  have ih:=zl2 (ms:=ms) λ y hy=>h y (uan _ hy)
  show V.int x::ms.map V.int=V.int ((x.toNat:Nat):Int)::natV (ms.map Int.toNat)
  rw[e,ih]
theorem zdc (a b:List Nat):natV (a++b)=natV a++natV b:=by unfold natV;rw[ucm]
theorem zaw (a:List Nat):(natV a).length=a.length:=by unfold natV;rw[uae]
theorem zo9 {f:Nat->List Nat}{m:Nat}:∀ (l:List Nat),(∀ x∈l,(f x).length<=m)->(l.flatMap f).length<=l.length*m
 | [],_=>by simp
 | x::l,h=>by
  have ih:=zo9 l λ y hy=>h y (uan _ hy)
  have:=h x ual
  rw[List.flatMap_cons,uar,ucp,Nat.succ_mul]
  left
theorem za9 (E:List (Option Nat)){i v:Nat}(x:Nat)(h:i<E.length):Far.get (E.set i (some x)) v=if v=i then some x else Far.get E v:=by
 unfold Far.get
 rw[uag,uag]
 by_cases z:v=i
 ·subst z
  rw[if_pos rfl,ue2 h];rfl
 ·rw[if_neg z,ufe (Ne.symm z)]
section
variable {n g:Int}{ts:List Tie}{ks:List Nat}{k:Nat}
end
def tupH (hs:List Int):PyData:=.tuple (hs.map .int)
end L3
namespace HT
open PySem PyProof.Rows
open Sem (wp)
section
variable {prog:Program}{w:World}{A:Around}{E:Value->Shared->Prop}{s:Shared}
end
end HT
namespace L3
open PySem PySem.Spec PyProof.Rows L2
def PapV (H:Hp)(lo hi m:Nat)(v:V):Prop:=∃ p xs,v=.ref p/\H p=some (.tup xs)/\xs.length<=m/\∀ u∈xs,RowV lo hi H u
end L3
namespace Far
theorem Best.one {B:List Arc}(K:Keys B){n s:Nat}{cs cs':List (Option (Int × Int))}{as as':List (Option Nat)}(h:Best B n s cs as)(h':Best B n s cs' as'):as=as':=by
 have ec:∀ v,get cs v=get cs' v:=λ v=>by
  have e:=(h.dst K v).unique (h'.dst K v)
  cases e1:get cs v with
  | none =>
   cases e2:get cs' v with
   | none=>rfl
   | some c=>rw[e1,e2] at e;cases e
  | some c =>
   cases e2:get cs' v with
   | none=>rw[e1,e2] at e;cases e
   | some d =>
    rw[e1,e2] at e
    have a:=h.small K e1
    have b:=h'.small K e2
    rw[zl9 ⟨a.1,uf7 a.2 (by decide)⟩ ⟨b.1,uf7 b.2 (by decide)⟩ (ubj e)]
 have ea:∀ {cs cs':List (Option (Int × Int))}{as as':List (Option Nat)},Best B n s cs as->Best B n s cs' as'->(∀ v,get cs v=get cs' v)->∀ v u,get as v=some u->get as' v=some u:=λ h h' ec v u e=>by
  obtain⟨l,k,cu,m,e1,e2⟩:=h.arc v u e
  exact h'.tree K m (by rw[← ec];exact e1) (by rw[← ec];exact e2)
 refine ucc λ v=>?_
 by_cases hv:v<n
 ·have g:get as v=get as' v:=by
   cases e1:get as v with
   | some u=>exact (ea h h' ec v u e1).symm
   | none =>
    cases e2:get as' v with
    | none=>rfl
    | some u=>rw[ea h' h (λ v=>(ec v).symm) v u e2] at e1;cases e1
  have l1:=h.alen
  have l2:=h'.alen
  unfold get at g
  rw[uag,uag,uad (by left),uad (by left)] at g
  rw[uad (by left),uad (by left)]
  exact congrArg some g
 ·rw[uat (by have:=h.alen;left),uat (by have:=h'.alen;left)]
end Far
namespace L3
open PySem PySem.Spec PyProof.Rows L2
section
variable {n:Int}{ts:List Tie}
theorem za5 (ts:List Tie):KeepOk ts.length (uaf ts.length):=⟨ubw,λ k hk=>uaq.mp hk⟩
noncomputable def trA (n:Int)(ts:List Tie)(r:Nat):List (Option Nat):=Classical.epsilon λ as=>∃ cs,Far.Best (arcsB ts (uaf ts.length)) n.toNat r cs as
theorem zcr (ok:WebOk n ts){r:Nat}(hr:r<n.toNat):∃ cs,Far.Best (arcsB ts (uaf ts.length)) n.toNat r cs (trA n ts r):=by
 have ko:=za5 ts
 obtain⟨cs,as,B⟩:=Far.zk7 (zbi ok ko) (λ u v l k m=>zc0 ok ko m) hr
 exact Classical.epsilon_spec (p:=λ as=>∃ cs,Far.Best (arcsB ts (uaf ts.length)) n.toNat r cs as) ⟨as,cs,B⟩
theorem ztt (ok:WebOk n ts){r:Nat}(hr:r<n.toNat){cs:List (Option (Int × Int))}{as:List (Option Nat)}(B:Far.Best (arcsB ts (uaf ts.length)) n.toNat r cs as):as=trA n ts r:=by
 obtain⟨cs',B'⟩:=zcr ok hr
 exact B.one (zbi ok (za5 ts)) B'
theorem zu3 (ok:WebOk n ts){r v u:Nat}(hr:r<n.toNat)(e:Far.get (trA n ts r) v=some u):∃ k l,tbN ts v u=some k/\k<ts.length/\(u,v,l,k)∈arcsB ts (uaf ts.length)/\v<n.toNat/\u<n.toNat:=by
 obtain⟨cs,B⟩:=zcr ok hr
 obtain⟨l,k,cu,m,_⟩:=B.arc v u e
 have z:=zc0 ok (za5 ts) m
 have t:=zkb ok (za5 ts) m
 rw[zka] at t
 exact⟨k,l,t,uaq.mp (ugr t),m,z.2,z.1⟩
theorem zln:∀ {a b:List Nat},a.Pairwise (·<·)->b.Pairwise (·<·)->(∀ k,k∈a↔k∈b)->a=b
 | [],[],_,_,_=>rfl
 | [],y::b,_,_,h=>by have:=(h y).mpr ual;cases this
 | x::a,[],_,_,h=>by have:=(h x).mp ual;cases this
 | x::a,y::b,pa,pb,h=>by
  obtain⟨p1,p2⟩:=ud1.mp pa
  obtain⟨q1,q2⟩:=ud1.mp pb
  have e:x=y:=by
   rcases uam.mp ((h x).mp ual) with z | z
   ·exact z
   ·rcases uam.mp ((h y).mpr ual) with y' | y'
    ·exact y'.symm
    ·have:=q1 x z;have:=p1 y y';left
  subst e
  rw[zln p2 q2 λ k=>?_]
  constructor
  ·intro hk
   rcases uam.mp ((h k).mp (uan _ hk)) with z | z
   ·have:=p1 k hk;left
   ·exact z
  ·intro hk
   rcases uam.mp ((h k).mpr (uan _ hk)) with z | z
   ·have:=q1 k hk;left
   ·exact z
theorem zke {ms:List Int}{xs ks:List Nat}(hl:ms.length=HT.setN (keepI xs) (keepI xs).length)(hm:∀ k,HT.setS (keepI xs) (keepI xs).length k=true↔k∈ms)(pw:ms.Pairwise (·<=·))(rk:ks.Pairwise (·<·))(h:∀ k,k∈ks↔k∈xs):ms.map V.int=natV ks:=by
 obtain⟨nd,mem⟩:=zqr hl hm
 have nn:∀ x∈ms,0<=x:=λ x hx=>by
  obtain⟨c,_,rfl⟩:=ubx.mp ((mem x).mp hx)
  exact uav c
 rw[zl2 nn]
 congr 1
 have lt:ms.Pairwise (·<·):=(pw.and nd).imp λ ⟨a,b⟩=>by left
 refine zln ?_ rk λ k=>?_
 ·rw[udd]
  refine ufn ?_ lt
  intro a b ha hb ab
  have:=nn a ha
  left
 ·rw[h k,ubx]
  constructor
  ·rintro ⟨x,hx,rfl⟩
   obtain⟨c,hc,rfl⟩:=ubx.mp ((mem x).mp hx)
   rw[uao];exact hc
  ·intro hk
   exact⟨(k:Int),(mem _).mpr (ubx.mpr ⟨k,hk,rfl⟩),uao k⟩
end
section
variable {near kept:Nat->Nat->Option Int}{u v:Nat}{r:List (Nat × Nat)}{m:Int × Int × Int}{x y:Int}
end
def WKE (K:uac)(H:Hp)(n:Int)(ts:List Tie)(ks:List Nat)(wv:V)(kp:Addr)(tp:Bool):Prop:=Is K H (webD n ts) wv/\WebOk n ts/\H kp=some (if tp=true then .tup (natV ks) else .lst (natV ks))/\KeepOk ts.length ks
section
variable {g:TG}{tt:TT}{te:TE}{own:List Str}{js:List Nat}{σ:L2.St}{H1:Hp}{Q:VK}
end
theorem zk1 (xs:List V)(k:Nat):cutV xs none (some (k:Int))=xs.take k:=by
 unfold cutV
 rw[HT.zqt,HT.zs0,List.drop_zero,Nat.sub_zero]
 by_cases z:k<=xs.length
 ·rw[Nat.min_eq_left z]
 ·rw[Nat.min_eq_right (by left),uc6 (uai _),uc6 (by left)]
section
variable {n:Int}{ts:List Tie}{ks:List Nat}
end
section
variable {own:List Str}{js:List Nat}{g:TG}{te:TE}{σ:L2.St}{Q:VK}{H1:Hp}
theorem zmz {K:uac}{a:Addr}{xs:List V}(hx:H1 a=some (.tup xs))(Sg:L2.St->Prop)(R:Nat->V->Hp->Prop)(hn:xs.length<=1000)(h0:Sg (start3 own js σ))(mono:∀ i v H H',TupKeep H H'->R i v H->R i v H')
  (step:∀ i x T σ' H',xs[i]?=some x->Same H1 H'->H' T=none->Sg σ'->∀ C:L2.St->V->Hp->Prop,(∀ σ3 v H5,Sg σ3->Same H' H5->R i v H5->C σ3 v H5)->g (.ref T) σ' (upd H' T (.tup [.int (i:Nat),x])) λ σ3 H3=>te σ3 H3 λ v H5=>C σ3 v H5)
  (fin:∀ D ys H',H1 D=none->Same H1 H'->H' D=some (.lst ys)->ys.length=xs.length->(∀ i v,ys[i]?=some v->R i v H')->Q (.ref D) H'):CompGo own js g tTrue te σ Q (Itn true K a) H1:=by
 have s1:∀ H',Same H1 H'->SqX true K H' a xs:=λ H' s=>SqX.of (t:=true) (s _ _ hx)
 refine zds xs.length Sg R hn h0 mono (λ i H' hi s=>⟨xs,xs[i],s1 H' s,by simp [hi]⟩) (λ H' s=>⟨xs,s1 H' s,uai _⟩) (λ i x σ' H' H2 hi s hy sg C hC=>?_) fin
 obtain⟨T,y,hT,rfl,rfl,e⟩:=hy
 exact step i y T σ' H' (e _ (s1 H' s)) s hT sg C hC
end
end L3
namespace Far
section
variable {A B:List (Nat × Nat × Int)}{s u v:Nat}{x y:Int}
theorem Walk.app (h:Walk B s u x)(k:Walk B u v y):Walk B s v (x+y):=by
 induction k with
 | nil=>rw[Int.add_zero];exact h
 | @snoc w v l y k m ih =>
  have:=Walk.snoc ih m
  rw[Int.add_assoc] at this
  exact this
theorem grow {p q:Int}(h:∀ u v l,(u,v,l)∈A->∃ y,Walk B u v y/\y*q<=p*l)(w:Walk A s v x):∃ y,Walk B s v y/\y*q<=p*x:=by
 induction w with
 | nil=>exact⟨0,.nil,by simp⟩
 | @snoc u v l x w m ih =>
  obtain⟨y1,w1,e1⟩:=ih
  obtain⟨y2,w2,e2⟩:=h _ _ _ m
  refine⟨y1+y2,w1.app w2,?_⟩
  rw[ufk,Int.mul_add];left
theorem zri {p q:Int}(q0:0<=q)(h:∀ u v l,(u,v,l)∈A->∃ y,Walk B u v y/\y*q<=p*l){d:Int}{o:Option Int}(a:Dst A s v (some d))(b:Dst B s v o):∃ y,o=some y/\y*q<=p*d:=by
 obtain⟨y,w,e⟩:=grow h (a.1 d rfl)
 obtain⟨z,ez,le⟩:=b.2 y w
 exact⟨z,ez,ufc (ubi le q0) e⟩
theorem zto {l:Int}{o:Option Int}(m:(u,v,l)∈A)(a:Dst A u v o):∃ d,o=some d/\d<=l:=by
 have:=a.2 (0+l) (.snoc .nil m)
 simpa using this
end
end Far
namespace Far
def ratG (G:Nat->Option Int)(len:Nat->Int):List Nat->Int × Int->Option (Int × Int)
 | [],e=>some e
 | k::r,e=>match G k with
  | none=>none
  | some g=>ratG G len r (if e.1*len k<g*e.2 then (g,len k) else e)
section
variable {G:Nat->Option Int}{len:Nat->Int}
theorem ziu:∀ {l:List Nat}{e:Int × Int},ratG G len l e=none↔∃ k,k∈l/\G k=none
 | [],e=>⟨λ h=>(by cases h),λ ⟨k,h,_⟩=>(by cases h)⟩
 | k::r,e=>by
  show (match G k with | none=>none | some g=>ratG G len r (if e.1*len k<g*e.2 then (g,len k) else e))=none↔_
  cases h:G k with
  | none=>exact⟨λ _=>⟨k,ual,h⟩,λ _=>rfl⟩
  | some g =>
   show ratG G len r _=none↔_
   rw[ziu]
   constructor
   ·rintro ⟨j,hj,e⟩;exact⟨j,uan _ hj,e⟩
   ·rintro ⟨j,hj,e⟩
    rcases uam.mp hj with rfl | hj
    ·rw[h] at e;cases e
    ·exact⟨j,hj,e⟩
theorem zet {a b c d e f:Int}(hb:0<b)(hd:0<d)(hf:0<f)(h1:a*d<=c*b)(h2:c*f<=e*d):a*f<=e*b:=by
 have h3:(a*d)*f<=(c*b)*f:=ubi h1 (by left)
 have h4:(c*f)*b<=(e*d)*b:=ubi h2 (by left)
 have h5:(a*f)*d<=(e*b)*d:=by
  have e1:(a*d)*f=(a*f)*d:=udp ..
  have e2:(c*b)*f=(c*f)*b:=udp ..
  have e3:(e*d)*b=(e*b)*d:=udp ..
  left
 exact udt h5 hd
theorem zdk:∀ {l:List Nat}{e r:Int × Int},(∀ k∈l,0<len k)->0<e.2->ratG G len l e=some r ->
  0<r.2/\e.1*r.2<=r.1*e.2/\(∀ k∈l,∃ g,G k=some g/\g*r.2<=r.1*len k)/\(r=e\/∃ k,k∈l/\G k=some r.1/\r.2=len k)
 | [],e,r,_,h0,h=>by cases h;exact⟨h0,ubf _,λ k hk=>(by cases hk),.inl rfl⟩
 | k::l,e,r,hl,h0,h=>by
  have h':(match G k with | none=>none | some g=>ratG G len l (if e.1*len k<g*e.2 then (g,len k) else e))=some r:=h
  cases hg:G k with
  | none=>rw[hg] at h';cases h'
  | some g =>
   rw[hg] at h'
   have hk:0<len k:=hl k ual
   by_cases c:e.1*len k<g*e.2
   ·have h2:ratG G len l (g,len k)=some r:=by simpa [c] using h'
    obtain⟨a1,a2,a3,a4⟩:=zdk (λ j hj=>hl j (uan _ hj)) hk h2
    refine⟨a1,zet h0 hk a1 (by simpa using udj c) a2,λ j hj=>?_,.inr ?_⟩
    ·rcases uam.mp hj with rfl | hj
     ·exact⟨g,hg,a2⟩
     ·exact a3 j hj
    ·rcases a4 with rfl | ⟨j,hj,e1,e2⟩
     ·exact⟨k,ual,hg,rfl⟩
     ·exact⟨j,uan _ hj,e1,e2⟩
   ·have h2:ratG G len l e=some r:=by simpa [c] using h'
    obtain⟨a1,a2,a3,a4⟩:=zdk (λ j hj=>hl j (uan _ hj)) h0 h2
    refine⟨a1,a2,λ j hj=>?_,a4.imp id λ ⟨j,hj,e⟩=>⟨j,uan _ hj,e⟩⟩
    rcases uam.mp hj with rfl | hj
    ·exact⟨g,hg,zet hk h0 a1 (by left) a2⟩
    ·exact a3 j hj
theorem zuh {p q:Int}(hp:0<=p)(hq:0<q):∃ g:Int,0<g/\(p / ((uda p.toNat q.toNat:Nat):Int))*g=p/\(q / ((uda p.toNat q.toNat:Nat):Int))*g=q:=by
 have g0:0<uda p.toNat q.toNat:=ug1 _ (by left)
 refine⟨((uda p.toNat q.toNat:Nat):Int),by left,Int.ediv_mul_cancel ?_,Int.ediv_mul_cancel ?_⟩
 ·have:=Nat.gcd_dvd_left p.toNat q.toNat
  have h2:=Int.natCast_dvd_natCast.mpr this
  rwa [ua6 hp] at h2
 ·have:=Nat.gcd_dvd_right p.toNat q.toNat
  have h2:=Int.natCast_dvd_natCast.mpr this
  rwa [ua6 (show 0<=q by left)] at h2
theorem zom {p q p' q' g a l:Int}(hg:0<g)(h1:p'*g=p)(h2:q'*g=q):a*q<=p*l↔a*q'<=p'*l:=by
 have e1:a*q=(a*q')*g:=by rw[← h2,ue1]
 have e2:p*l=(p'*l)*g:=by rw[← h1,udp]
 rw[e1,e2]
 exact⟨λ h=>udt h hg,λ h=>ubi h (by left)⟩
end
end Far
namespace Far
section
variable {A:List (Nat × Nat × Int)}{s:Nat}
end
end Far
namespace L3
open PySem PySem.Spec PyProof.Rows L2
def allIn (ts:List Tie)(ks:List Nat)(t:Int):Prop:=∀ k,k∈outs ts.length ks->withinB t (tieAt ts k).2.2 (gO ts ks k)=true
def PairsOk (n:Nat)(A B:List (Nat × Nat × Int))(prs:List (Option Int × Int)):Prop:=∀ o d,(o,d)∈prs↔∃ u v,u<n/\v<u/\Far.Dst A u v (some d)/\Far.Dst B u v o
section
variable {n:Int}{ts:List Tie}{ks:List Nat}{prs:List (Option Int × Int)}
theorem zlp (m:Nat):KeepOk m (uaf m):=⟨ubw,λ k hk=>uaq.mp hk⟩
theorem zo6 (ok:WebOk n ts)(ko:KeepOk ts.length ks)(k:Nat):Far.Dst (arcs ts ks) (tieAt ts k).1.toNat (tieAt ts k).2.1.toNat (gO ts ks k):=by
 obtain⟨o,h⟩:=Far.zcg (zbh ok ko) (tieAt ts k).1.toNat (tieAt ts k).2.1.toNat
 rw[zrm h];exact h
theorem zuz (ok:WebOk n ts)(ko:KeepOk ts.length ks){u v:Nat}{l:Int}(m:(u,v,l)∈arcs ts (uaf ts.length)) :
  (Far.Walk (arcs ts ks) u v l)\/∃ k,k∈outs ts.length ks/\(tieAt ts k).2.2=l/\∀ x,gO ts ks k=some x->Far.Walk (arcs ts ks) u v x:=by
 obtain⟨k,hk,m⟩:=arcs_mem.mp m
 have hkl:=uaq.mp hk
 by_cases c:k∈ks
 ·apply uaw
  have:=Far.Walk.snoc (Far.Walk.nil (A:=arcs ts ks) (s:=u)) (arcs_mem.mpr ⟨k,c,m⟩)
  rw[uf5] at this
  exact this
 ·apply ufj
  refine⟨k,outs_mem.mpr ⟨hkl,c⟩,?_,λ x hx=>?_⟩
  ·rcases arcs2_mem.mp m with e | e <;> exact (congrArg (·.2.2) e).symm
  ·have d:=zo6 ok ko k
   rw[hx] at d
   have w:=d.1 x rfl
   rcases arcs2_mem.mp m with e | e
   ·have e1:u=(tieAt ts k).1.toNat:=congrArg (·.1) e
    have e2:v=(tieAt ts k).2.1.toNat:=congrArg (·.2.1) e
    rw[e1,e2];exact w
   ·have e1:u=(tieAt ts k).2.1.toNat:=congrArg (·.1) e
    have e2:v=(tieAt ts k).1.toNat:=congrArg (·.2.1) e
    rw[e1,e2];exact w.back zmh
theorem zql (ok:WebOk n ts)(ko:KeepOk ts.length ks)(h:PairsOk n.toNat (arcs ts (uaf ts.length)) (arcs ts ks) prs){k:Nat}(hk:k<ts.length):∃ d,(gO ts ks k,d)∈prs/\d<=(tieAt ts k).2.2:=by
 have tk:=ok.tie _ (za6 hk).2
 have m:((tieAt ts k).2.1.toNat,(tieAt ts k).1.toNat,(tieAt ts k).2.2)∈arcs ts (uaf ts.length):=arcs_mem.mpr ⟨k,uaq.mpr hk,arcs2_mem.mpr (.inr rfl)⟩
 obtain⟨o,ho⟩:=Far.zcg (zbh ok (zlp ts.length)) (tieAt ts k).2.1.toNat (tieAt ts k).1.toNat
 obtain⟨d,rfl,le⟩:=Far.zto m ho
 exact⟨d,(h _ _).mpr ⟨_,_,by left,by left,ho,(zo6 ok ko k).back zmh⟩,le⟩
theorem zqz (ok:WebOk n ts)(ko:KeepOk ts.length ks)(h:PairsOk n.toNat (arcs ts (uaf ts.length)) (arcs ts ks) prs){p q:Int}(q0:0<=q)(pq:q<=p)
  (hk:∀ k,k∈outs ts.length ks->∃ x,gO ts ks k=some x/\x*q<=p*(tieAt ts k).2.2):∀ o d,(o,d)∈prs->∃ x,o=some x/\x*q<=p*d:=by
 intro o d hm
 obtain⟨u,v,_,_,h1,h2⟩:=(h _ _).mp hm
 refine Far.zri q0 (λ u v l m=>?_) h1 h2
 have l1:=zbh ok (zlp ts.length) _ _ _ m
 rcases zuz ok ko m with w | ⟨k,hk',e,w⟩
 ·refine⟨l,w,?_⟩
  rw[Int.mul_comm]
  exact ubi pq (by left)
 ·obtain⟨x,ex,le⟩:=hk k hk'
  rw[e] at le
  exact⟨x,w x ex,le⟩
theorem within_iff {t l:Int}{o:Option Int}:withinB t l o=true↔∃ x,o=some x/\x<=t*l:=by
 cases o with
 | none=>exact⟨λ h=>(by cases h),λ ⟨x,e,_⟩=>(by cases e)⟩
 | some x=>exact⟨λ h=>⟨x,rfl,of_decide_eq_true h⟩,λ ⟨y,e,le⟩=>by cases e;exact decide_eq_true le⟩
theorem zlo (G:Nat->Option Int)(ts:List Tie):∀ (l:List Nat)(e:Int × Int),ratF G ts l e=Far.ratG G (λ k=>(tieAt ts k).2.2) l e
 | [],_=>rfl
 | k::r,e=>by
  show (match G k with | none=>none | some g=>ratF G ts r _)=(match G k with | none=>none | some g=>Far.ratG G _ r _)
  cases G k with
  | none=>rfl
  | some g=>exact zlo G ts r _
theorem ratio_none:ratio ts ks=none↔∃ k,k∈outs ts.length ks/\gO ts ks k=none:=by
 unfold ratio
 rw[Option.map_eq_none_iff,zlo,Far.ziu]
theorem zmm (ok:WebOk n ts)(ko:KeepOk ts.length ks)(h:PairsOk n.toNat (arcs ts (uaf ts.length)) (arcs ts ks) prs){p q:Int}(e:ratio ts ks=some (p,q)) :
  1<=q/\q<=10^18/\q<=p/\(∀ o d,(o,d)∈prs->∃ x,o=some x/\x*q<=p*d)/\(∀ t,1<=t->(p<=t*q↔allIn ts ks t))/\(p≠q->∃ x d,(some x,d)∈prs/\x*q=p*d):=by
 unfold ratio at e
 obtain⟨⟨P,Q⟩,er,el⟩:=uba.mp e
 rw[zlo] at er
 have lens:∀ k∈outs ts.length ks,0<(tieAt ts k).2.2:=λ k hk=>by
  have:=ok.tie _ (za6 (outs_mem.mp hk).1).2;left
 obtain⟨a1,a2,a3,a4⟩:=Far.zdk lens (by decide) er
 dsimp only at a1 a2 a3 a4
 have QP:Q<=P:=by left
 obtain⟨g,g0,e1,e2⟩:=Far.zuh (p:=P) (q:=Q) (by left) a1
 have ep:p=P / ((uda P.toNat Q.toNat:Nat):Int):=(congrArg (·.1) el).symm
 have eq:q=Q / ((uda P.toNat Q.toNat:Nat):Int):=(congrArg (·.2) el).symm
 rw[← ep] at e1
 rw[← eq] at e2
 have q1:1<=q:=by
  rcases Int.lt_or_le q 1 with z | z
  ·have:q*g<=0*g:=ubi (by left) (by left)
   left
  ·exact z
 have qp:q<=p:=by
  have:=(Far.zom (a:=1) (l:=1) g0 e1 e2).mp (by left)
  left
 have q18:q<=10^18:=by
  have:q*1<=q*g:=ucv (by left) (by left)
  have:Q<=10^18:=by
   rcases a4 with a4 | ⟨k,hk,_,e⟩
   ·have:Q=1:=congrArg (·.2) a4
    rw[this];decide
   ·have:=ok.tie _ (za6 (outs_mem.mp hk).1).2
    left
  left
 have ties:∀ k,k∈outs ts.length ks->∃ x,gO ts ks k=some x/\x*q<=p*(tieAt ts k).2.2:=λ k hk=>by
  obtain⟨x,ex,le⟩:=a3 k hk
  exact⟨x,ex,(Far.zom g0 e1 e2).mp le⟩
 have prl:=zqz ok ko h (by left) qp ties
 refine⟨q1,q18,qp,prl,λ t t1=>⟨λ le k hk=>?_,λ al=>?_⟩,λ ne=>?_⟩
 ·obtain⟨x,ex,lx⟩:=ties k hk
  have l1:=lens k hk
  refine within_iff.mpr ⟨x,ex,?_⟩
  have h1:p*(tieAt ts k).2.2<=(t*q)*(tieAt ts k).2.2:=ubi le (by left)
  have h2:x*q<=(t*(tieAt ts k).2.2)*q:=by rw[udp] at h1;left
  exact udt h2 (by left)
 ·rcases a4 with a4 | ⟨k,hk,e',el'⟩
  ·have eP:P=1:=congrArg (·.1) a4
   have eQ:Q=1:=congrArg (·.2) a4
   have:=(Far.zom (a:=1) (l:=t) g0 e1 e2).mpr
   have h3:1*q<=t*q:=ubi t1 (by left)
   have h4:p*g=q*g:=by left
   have h5:p=q:=ugt (by left) h4
   left
  ·obtain⟨x,ex,lx⟩:=within_iff.mp (al k hk)
   rw[e'] at ex;cases ex
   have h6:P<=t*Q:=by rw[el'];exact lx
   have h7:p*g<=(t*q)*g:=by rw[e1,ue1,e2];exact h6
   exact udt h7 g0
 ·rcases a4 with a4 | ⟨k,hk,e',el'⟩
  ·have eP:P=1:=congrArg (·.1) a4
   have eQ:Q=1:=congrArg (·.2) a4
   exact absurd (ugt (a:=g) (by left) (by left)) ne
  ·obtain⟨d,hd,le⟩:=zql ok ko h (outs_mem.mp hk).1
   rw[e'] at hd
   obtain⟨x,ex,lx⟩:=prl _ _ hd
   cases ex
   refine⟨P,d,hd,?_⟩
   have h8:P*q=p*Q:=by
    rw[← e1,← e2,udp,ue1]
   have h9:p*d<=p*Q:=ucv (by left) (by left)
   left
end
end L3
namespace L2
open PySem PySem.Spec PyProof.Rows
section
variable {X:Cx}{k v:Expr}{pos:Pos}{tk tv:TE}
end
end L2
namespace L3
open PySem PySem.Spec PyProof.Rows L2
section
variable {n:Int}{ts:List Tie}
def hN (hs:List Int)(v:Nat):Int:=hs.getD v 0
end
theorem iteTe {b:Bool}{A B:Prop}(e:b=true)(h:A):if b=true then A else B:=by rw[if_pos e];exact h
theorem iteFe {b:Bool}{A B:Prop}(e:b=false)(h:B):if b=true then A else B:=by rw[e];exact h
end L3
namespace Srt
open PySem PyProof.Rows
section
variable {prog:Program}{w:World}{A:Around}{E:Value->Shared->Prop}{s:Shared}{a:Addr}
end
end Srt
namespace L3
open PySem PySem.Spec PyProof.Rows L2
section
variable {X:Cx}
end
section
variable {n:Int}{ts:List Tie}
def WyV (H:Hp)(ts:List Tie)(o:Option (List Nat))(v:V):Prop:=(o=none/\v=.non)\/∃ t ws,o=some ws/\v=.ref t/\H t=some (.tup (natV ws))/\ws.length<=24/\linked ts ws
theorem WyV.tk {H H':Hp}{o:Option (List Nat)}{v:V}(k:TupKeep H H')(h:WyV H ts o v):WyV H' ts o v:=by
 rcases h with h | ⟨t,ws,e,e1,e2,z⟩
 ·exact .inl h
 ·exact .inr ⟨t,ws,e,e1,k _ _ e2,z⟩
theorem WyV.same {H H':Hp}{o:Option (List Nat)}{v:V}(k:Same H H')(h:WyV H ts o v):WyV H' ts o v:=h.tk λ _ _ e=>k _ _ e
def wyD:Option (List Nat)->PyData
 | none=>.none
 | some ws=>tupH (keepI ws)
theorem WyV.is {K:uac}{H:Hp}{o:Option (List Nat)}{v:V}(h:WyV H ts o v):Is K H (wyD o) v:=by
 rcases h with ⟨rfl,rfl⟩ | ⟨t,ws,rfl,rfl,e2,z⟩
 ·exact rfl
 ·exact⟨t,_,rfl,e2,by rw[zbg];exact IsAll.ints _⟩
end
theorem zrv (ws:List Nat):cutV (natV ws) (some 1) none=natV (ws.drop 1):=by
 unfold cutV
 have h1:HT.sIx (natV ws).length (natV ws).length none=(natV ws).length:=rfl
 rw[h1]
 by_cases z:ws=[]
 ·subst z;rfl
 ·have pos:=udy.mpr z
  have lenW:(natV ws).length=ws.length:=by unfold natV;rw[uae]
  have h0:HT.sIx (natV ws).length 0 (some 1)=1:=by
   unfold HT.sIx
   simp
   left
  rw[h0,uc6 (by rw[udm];exact uai _)]
  unfold natV
  rw[ug3]
end L3
namespace Z3
open PySem
section
variable {prog:Program}{w:World}{A:Around}{E:Value->Shared->Prop}{s:Shared}
end
end Z3
namespace L3
open PySem PySem.Spec PyProof.Rows L2
section
variable {n:Int}{ts:List Tie}{ks:List Nat}
noncomputable def wyK (ts:List Tie)(ks:List Nat)(a b:Nat):Option (List Nat):=@dite _ (∃ ws,Far.MinW (arcsB ts ks) a b ws) (Classical.propDecidable _) (λ h=>some (Classical.choose h)) (λ _=>none)
theorem zqb (ok:WebOk n ts)(ko:KeepOk ts.length ks){a b:Nat}{ws:List Nat}(h:Far.MinW (arcsB ts ks) a b ws):wyK ts ks a b=some ws:=by
 have ex:∃ ws,Far.MinW (arcsB ts ks) a b ws:=⟨ws,h⟩
 unfold wyK
 rw[dif_pos ex]
 exact congrArg some (h.unique (zbi ok ko) (Classical.choose_spec ex))
theorem zqc {a b:Nat}(d:Far.Dst (arcs ts ks) a b none):wyK ts ks a b=none:=by
 unfold wyK
 refine dif_neg λ ⟨ws,S,x,y,r,_⟩=>?_
 have w:=r.walk
 rw[zbo] at w
 obtain⟨z,e,_⟩:=d.2 _ w
 cases e
theorem ztq (ok:WebOk n ts)(ko:KeepOk ts.length ks){H:Hp}{a b:Nat}{v:V}(h:WayM H ts ks a b v):WyV H ts (wyK ts ks a b) v:=by
 rcases h with ⟨rfl,d⟩ | ⟨t,ws,x,rfl,e,l,m,tr,d⟩
 ·exact .inl ⟨zqc d,rfl⟩
 ·exact .inr ⟨t,ws,zqb ok ko m,rfl,e,l,(zsr ok ko tr).2⟩
theorem WayM.v {H:Hp}{a b:Nat}{v:V}(h:WayM H ts ks a b v):WayV H (arcs ts ks) a b v:=by
 rcases h with h | ⟨t,ws,x,e,e1,l,m,tr,d⟩
 ·exact .inl h
 ·exact .inr ⟨t,ws,x,e,e1,l,tr,d⟩
noncomputable def dK (ts:List Tie)(ks:List Nat)(u v:Nat):Option Int:=Classical.epsilon λ o=>Far.Dst (arcs ts ks) u v o
theorem zur (ok:WebOk n ts)(ko:KeepOk ts.length ks)(u v:Nat):Far.Dst (arcs ts ks) u v (dK ts ks u v):=Classical.epsilon_spec (p:=λ o=>Far.Dst (arcs ts ks) u v o) (Far.zcg (zbh ok ko) u v)
theorem zvb (ok:WebOk n ts)(ko:KeepOk ts.length ks){u v:Nat}{o:Option Int}(d:Far.Dst (arcs ts ks) u v o):o=dK ts ks u v:=d.unique (zur ok ko u v)
noncomputable def dKL (n:Int)(ts:List Tie)(ks:List Nat)(u:Nat):List (Option Int):=(uaf n.toNat).map λ v=>dK ts ks u v
theorem ztn (n:Int)(ts:List Tie)(ks:List Nat)(u:Nat):(dKL n ts ks u).length=n.toNat:=by unfold dKL;rw[uae,uay]
theorem zut {u v:Nat}(hv:v<n.toNat):(dKL n ts ks u)[v]?=some (dK ts ks u v):=by unfold dKL;rw[uaj,ub9 hv];rfl
theorem zus (ok:WebOk n ts)(ko:KeepOk ts.length ks){u:Nat}{DD:List (Option Int)}(lD:DD.length=n.toNat)(hD:∀ v,v<n.toNat->Far.Dst (arcs ts ks) u v (Far.get DD v)):DD=dKL n ts ks u:=by
 refine ucc λ v=>?_
 by_cases hv:v<n.toNat
 ·rw[zut hv,← zvb ok ko (hD v hv)]
  unfold Far.get
  rw[uag,uad (by left)];rfl
 ·rw[uat (by left),uat (by rw[ztn];left)]
noncomputable def htK (n:Int)(ts:List Tie)(ks:List Nat)(t:Int)(k:Nat):List Int:=(dKL n ts ks (tieAt ts k).1.toNat).map (capO (t*(tieAt ts k).2.2+1))
end
def winK (ts:List Tie)(ks:List Nat)(t:Int)(k:Nat):Prop:=withinB t (tieAt ts k).2.2 (gO ts ks k)=true
noncomputable def wyT (ts:List Tie)(ks:List Nat)(k:Nat):Option (List Nat):=wyK ts ks (tieAt ts k).1.toNat (tieAt ts k).2.1.toNat
def FirstOut (ts:List Tie)(ks:List Nat)(t:Int)(i k:Nat):Prop:=(outs ts.length ks)[i]?=some k/\¬ winK ts ks t k/\∀ j k',j<i->(outs ts.length ks)[j]?=some k'->winK ts ks t k'
inductive TdD (n:Int)(ts:List Tie)(ks:List Nat)(t:Int):PyData->Prop
 | keeps:allIn ts ks t->TdD n ts ks t (.tuple [.str "keeps",.tuple ((outs ts.length ks).map λ k=>wyD (wyT ts ks k))])
 | far {i k:Nat}:FirstOut ts ks t i k->TdD n ts ks t (.tuple [.str "far",.int (k:Int),tupH (htK n ts ks t k)])
theorem FirstOut.not {ts:List Tie}{ks:List Nat}{t:Int}{i k:Nat}(h:FirstOut ts ks t i k):¬ allIn ts ks t:=λ a=>h.2.1 (a k (ua2 h.1))
end L3
namespace Dp
open PySem PySem.Spec PyProof.Rows
theorem zhs:typeLookup (.type "tuple") "keys"=pure none:=by rw[typeLookup_type,ufh];kernel_rfl
theorem zgu:entryFor table "dict.update.loop"=some Builtin.«dict.update.loop»:=entryFor_of_tree (by kernel_rfl)
theorem zcv:plainId "dict.update.loop"=true:=by symm
theorem zou {prog:Program}{w:World}{A:Around}{E:Value->Shared->Prop}{s:Shared}{a:Addr}{o:Obj}{xs:Array Value}{k:Nat}{Q:Option Value->Shared->Prop}
  (hx:s.heap.get? a=some o) (hc:o.cls=.type "tuple") (hdat:o.data=.seq xs k) (hd:o.dict=none) (hA:A.handled=none)
  (h:∀ h' tk,(∀ b ob,s.heap.get? b=some ob->h'.get? b=some ob)->Q none { s with heap:=h',toks:=tk }):wpAny (model prog w) A (getAttr? (.ref a) "keys") Q E s:=by
 obtain⟨c,dct,dat,sl⟩:=o
 simp only at hc hdat hd
 subst hc hdat hd
 obtain⟨hp,g,d,tk,os⟩:=s
 have hT:∀ tk',(⟨hp,g,d,tk',os⟩:Shared).TypeIs (.ref a) "tuple":=λ _=>⟨_,hx,rfl⟩
 have f1:=sub_AttributeError
 have f3:=F.slot_tuple_getattribute.lookup
 have f4:=F.slot_tuple_getattribute.bind (.ref a)
 have f5:=am_tuple_getattr_none
 unfold getAttr? getAttrBy? getAttrBy
 repeat (any_goals (first | assumption | exact hT _ | ((with_reducible show wpAny _ _ (call (Value.builtin "tuple.__getattribute__") _ _) _ _ _);refine ufl F.slot_tuple_getattribute (hT _) am_entry_tuple_getattribute (F.args_tuple_getattribute_2 _ _) (meets_getattribute_miss_tuple a xs k sl "keys" _ zhs (by decide) (by decide)) ⟨hx,hA,λ h' tk' e hx'=>?_⟩) | wp_step))
 obtain⟨t',u',he⟩:=hx'.there
 show wpAny _ _ (getattributeRaised _ _ _ _ _ _ _) _ _ _
 unfold getattributeRaised
 repeat (any_goals (first | assumption | wp_step))
 exact h _ _ hx'.keeps
section
variable {prog:Program}{w:World}{K:Type}[DecidableEq K]{knd:KeyKind prog w K}{A:Around}{R:Result->Shared->Prop}{I ax D:Addr}{items:Array Value}
theorem zhy {A:Around}{E:Value->Shared->Prop}{s:Shared}{d:Addr}{kvs:List (K × Value)}{k:K}{key v:Value}{Q:Unit->Shared->Prop}(hkey:knd.is k key=true)(hm:s.heap.DictOf knd d kvs)
  (hQ:∀ h' tk,h'.DictOf knd d (stored kvs k v)->Heap.SameBut d s.heap h'->Q () { s with heap:=h',toks:=tk }) (hsz:kvs.length<=sizeLine):wpAny (model prog w) A (dictSet d key v) Q E s:=by
 unfold dictSet
 try with_reducible refine ubd ?_
 refine uab (knd.pyHash hkey ?_)
 exact wpAny_dictSetHashed_pairs (s:={ s with toks:=s.toks+1 }) hkey hm (λ h' h1 h2=>hQ h' _ h1 h2) hsz
theorem zj7 (hh:A.in1.handled=none)(hIa:ax≠I)(hDI:D≠I)(hDa:D≠ax)(kvs:List (K × Value))(hn:kvs.length=items.size)(hsz:kvs.length<=sizeLine)(s0:Shared)(hp:∀ (i:Nat) (v:Value),items[i]?=some v->∃ (c:Addr) (key val:Value) (k:K),v=Value.ref c/\c≠D/\c≠I/\s0.heap.IsTuple c #[key,val]/\kvs[i]?=some (k,val)/\knd.is k key=true) :
  ∀ (m i:Nat)(s:Shared)(tk:Tok),items.size-i=m->i<=items.size->s.heap.IsTupleIter I ax i->s.heap.IsTuple ax items->s.heap.DictOf knd D (merged [] (kvs.take i))->(∀ b o,b≠D->b≠I->s0.heap.get? b=some o->s.heap.get? b=some o)->s.gens=s0.gens->s.drawn=s0.drawn->s.os=s0.os ->
   (∀ h' tk,h'.DictOf knd D (merged [] kvs)->(∀ b o,b≠D->b≠I->s0.heap.get? b=some o->h'.get? b=some o)->R (.ok (.ret .none)) { s0 with heap:=h',toks:=tk }) ->
   codeAny (model prog w) A (.builtin "dict.update.loop" ⟨[.ref D,.ref I,.int (i:Int) tk,.none],[]⟩) R s:=by
 have W:=Walks.tuple (prog:=prog) (w:=w) (A:=A.in1) hh I ax hIa items
 intro m
 induction m with
 | zero =>
  intro i s tk hm hi h1 h2 hd hk g1 g2 g3 hR
  have hin:i=items.size:=by left
  subst hin
  refine ubn zgu ?_
  rw[Around.under_plainId zcv _]
  show wpAny _ A.in1 (pyNext (.ref I) >>= _) _ _ s
  refine uab (W.done s _ _ ⟨h1,h2⟩ λ h' tk' kk=>?_)
  show wpAny _ A.in1 (Builtin.Dict.addKeywords D [] >>= λ _=>ret Value.none) _ _ _
  refine uab (uah (uah ?_))
  rw[← hn,uex] at hd
  have:=hR h' tk' (by
   obtain⟨o,es,ep,ho,r⟩:=hd
   exact⟨o,es,ep,kk D o (by simpa using hDI) ho,r⟩) (λ b o n1 n2 e=>kk b o (by simpa using n2) (hk b o n1 n2 e))
  rw[← g1,← g2,← g3] at this
  exact this
 | succ m ih =>
  intro i s tk hm hi h1 h2 hd hk g1 g2 g3 hR
  have hlt:i<items.size:=by left
  refine ubn zgu ?_
  rw[Around.under_plainId zcv _]
  show wpAny _ A.in1 (pyNext (.ref I) >>= _) _ _ s
  refine uab (W.item i s _ _ hlt ⟨h1,h2⟩ λ v h' tk' hv st kk=>?_)
  obtain⟨c,key,val,k,rfl,cD,cI,hc0,hkv,hkey⟩:=hp i v hv
  obtain⟨oc,e0,ec,nc,dc⟩:=hc0
  have e1:h'.get? c=some oc:=kk c oc (by simpa using cI) (hk c oc cD cI e0)
  have hd':h'.DictOf knd D (merged [] (kvs.take i)):=by
   obtain⟨o,es,ep,ho,r⟩:=hd
   exact⟨o,es,ep,kk D o (by simpa using hDI) ho,r⟩
  show wpAny _ A.in1 ((holding [Value.ref c] _) >>= _) _ _ _
  refine uab (ubd ?_)
  refine uab (uc7 ?_)
  unfold Builtin.Dict.pairItems
  refine uab (ud6 (s:={ s with heap:=h',toks:=tk' }) (T:="tuple") ⟨oc,e1,ec⟩ ?_)
  rw[if_pos (by decide)]
  refine uab (ubv (s:={ s with heap:=h',toks:=tk' }) e1 dc (uah ?_))
  show wpAny _ A.in1 (holding [key,val] (dictSet D key val)) _ _ _
  refine ubd ?_
  have ml:(merged [] (kvs.take i)).length<=sizeLine:=by
   have:=merged_length_le [] (kvs.take i)
   rw[ue5,Nat.zero_add,ued] at this
   left
  refine zhy (s:={ s with heap:=h',toks:=tk' }) hkey hd' (λ h2' tk2 hd2 sb=>?_) ml
  rw[← merged_take_succ [] kvs i (k,val) hkv] at hd2
  refine uah ⟨ucd zcv _,?_⟩
  have keep2:∀ b o,b≠D->h'.get? b=some o->h2'.get? b=some o:=λ b o nb e=>(sb.2 b nb).trans e
  have:=ih (i+1) { s with heap:=h2',toks:=tk2 } 0 (by left) hlt (st.1.at λ o e=>keep2 I o (Ne.symm hDI) e) (st.2.at λ o e=>keep2 ax o (Ne.symm hDa) e) hd2 (λ b o n1 n2 e=>keep2 b o n1 (kk b o (by simpa using n2) (hk b o n1 n2 e))) g1 g2 g3 hR
  exact this
theorem call_dict_pairs {E:Value->Shared->Prop}{s:Shared}{a:Addr}{Q:Value->Shared->Prop}(hh:A.handled=none)(hT:L2.TupN s.heap a items)(kvs:List (K × Value))(hn:kvs.length=items.size)(hsz:kvs.length<=sizeLine)
  (hp:∀ (i:Nat)(v:Value),items[i]?=some v->∃ (c:Addr)(key val:Value)(k:K),v=Value.ref c/\s.heap.IsTuple c #[key,val]/\kvs[i]?=some (k,val)/\knd.is k key=true)
  (h:∀ h' tk,h'.DictOf knd s.heap.objs.size (merged [] kvs)->(∀ b o,s.heap.get? b=some o->h'.get? b=some o)->Q (.ref s.heap.objs.size) { s with heap:=h',toks:=tk }) :
  wpAny (model prog w) A (call (.type "dict") [.ref a]) Q E s:=by
 refine callType_codes (Q₁:=λ obj s₁=>obj=.ref s.heap.objs.size/\s₁={ s with heap:=s.heap.push { cls:=.type "dict",data:=.dict #[] } }) F.kt_called_dict (F.kt_typeCall_dict_1 _) F.entry_dict_init (kt_code_dict_new _ ⟨rfl,rfl⟩) ?_
 rintro obj s₁ ⟨rfl,rfl⟩
 have hnew:(s.heap.push { cls:=.type "dict",data:=.dict #[] }).DictOf knd s.heap.objs.size []:=Heap.DictOf.new s.heap
 obtain⟨o,ho,oc,⟨n,od⟩,on⟩:=hT
 have ho':(s.heap.push { cls:=.type "dict",data:=.dict #[] }).get? a=some o:=Heap.get?_push_of_some _ ho
 refine⟨hnew.typeIs,F.args_dict_init_2 _ _,?_⟩
 unfold Builtin.«dict.__init__»
 refine uab ?_
 unfold Builtin.Dict.selfAndRest
 refine uab (wpAny_notOrdered_dict hnew.typeIs ?_)
 show wpAny _ _ (pure (s.heap.objs.size,[Value.ref a])) _ _ _
 refine uah ?_
 show wpAny _ _ (Builtin.Dict.updateFrom "dict.__init__" s.heap.objs.size (.ref a) [] .none) _ _ _
 unfold Builtin.Dict.updateFrom
 refine uab (ud6 (s:={ s with heap:=s.heap.push { cls:=.type "dict",data:=.dict #[] } }) (T:="tuple") ⟨o,ho',oc⟩ ?_)
 rw[if_pos (by decide)]
 refine uab (zou (s:={ s with heap:=s.heap.push { cls:=.type "dict",data:=.dict #[] } }) ho' oc od on (by simpa using hh) λ h1 tk1 k1=>?_)
 rw[if_pos (by rfl)]
 have hd1:h1.DictOf knd s.heap.objs.size []:=by
  obtain⟨o2,es,ep,ho2,r⟩:=hnew
  exact⟨o2,es,ep,k1 _ _ ho2,r⟩
 have Dlt:s.heap.objs.size<h1.objs.size:=by
  obtain⟨o2,es,ep,ho2,r⟩:=hd1
  exact Heap.lt_size ho2
 have ha1:h1.get? a=some o:=k1 _ _ ho'
 refine uab (udl ?_)
 refine uab (uev (s:={ s with heap:=h1,toks:=tk1 }) (show h1.IsTuple a items from ⟨o,ha1,oc,n,od⟩) ?_)
 refine uah ⟨ucd zcv _,?_⟩
 have kb:∀ b o,s.heap.get? b=some o->h1.get? b=some o:=λ b o e=>k1 _ _ (Heap.get?_push_of_some _ e)
 have aI:a≠h1.objs.size:=uas (Heap.lt_size ha1)
 have aD:s.heap.objs.size≠a:=λ z=>by have:=Heap.lt_size ho;rw[← z] at this;exact ubs _ this
 refine zj7 (knd:=knd) (A:=A.in1) (I:=h1.objs.size) (ax:=a) (D:=s.heap.objs.size) (items:=items) (by simpa using hh) aI (uas Dlt) aD kvs hn hsz { s with heap:=h1,toks:=tk1 } (λ i v hv=>?_) items.size 0 _ 0 (by left) (ube _) ⟨_,Heap.get?_push_size _ rfl,rfl,rfl⟩ ⟨o,Heap.get?_push_of_some _ ha1,oc,n,od⟩ ?_ (λ b ob _ _ e=>Heap.get?_push_of_some _ e) rfl rfl rfl ?_
 ·obtain⟨c,key,val,k,e,⟨o3,e3,r3⟩,q1,q2⟩:=hp i v hv
  exact⟨c,key,val,k,e,λ z=>by have:=Heap.lt_size e3;rw[z] at this;exact ubs _ this,uas (Heap.lt_size (kb _ _ e3)),⟨o3,kb _ _ e3,r3⟩,q1,q2⟩
 ·obtain⟨o2,es,ep,ho2,r⟩:=hd1
  exact⟨o2,es,ep,Heap.get?_push_of_some _ ho2,r⟩
 ·intro h' tk hd' kk
  refine⟨rfl,h h' tk hd' λ b ob e=>kk b ob (λ z=>?_) (uas (Heap.lt_size (kb _ _ e))) (kb _ _ e)⟩
  have:=Heap.lt_size e
  rw[z] at this;exact ubs _ this
end
end Dp
namespace L3
open PySem PySem.Spec PyProof.Rows L2
section
variable {X:Cx}
theorem zp8 {kvs:List (Key × V)}{vs:List (Key × Value)}(h:KV kvs vs):kvs.map (·.1)=vs.map (·.1):=by
 induction h with
 | nil=>rfl
 | cons r _ ih=>rw[ubg,ubg,ih,r.1]
theorem zez {s:Shared}:∀ {its:List Value}{kvs:List (Int × V)},its.length=kvs.length->(∀ (i:Nat)(v:Value),its[i]?=some v->∃ (c:Addr)(key val:Value)(k:Int)(x:V),v=Value.ref c/\s.heap.IsTuple c #[key,val]/\kvs[i]?=some (k,x)/\keyIs (.inl k) key=true/\RelV x val) ->
  ∃ vs:List (Key × Value),KV (kvs.map λ p=>((Sum.inl p.1,p.2):Key × V)) vs/\vs.length=its.length/\∀ (i:Nat)(v:Value),its[i]?=some v->∃ (c:Addr)(key val:Value)(k:Key),v=Value.ref c/\s.heap.IsTuple c #[key,val]/\vs[i]?=some (k,val)/\keyIs k key=true
 | [],[],_,_=>⟨[],.nil,rfl,λ i v h=>by simp at h⟩
 | it::its,kv::kvs,hl,h=>by
  obtain⟨vs,k1,l1,h1⟩:=zez (its:=its) (kvs:=kvs) (by simpa using hl) λ i v hv=>by simpa using h (i+1) v (by simpa using hv)
  obtain⟨c,key,val,k,x,e1,e2,e3,e4,e5⟩:=h 0 it rfl
  have e3':kv=(k,x):=by simpa using e3
  subst e3'
  refine⟨(.inl k,val)::vs,.cons ⟨rfl,e5⟩ k1,by simp [l1],λ i v hv=>?_⟩
  cases i with
  | zero =>
   have:it=v:=by simpa using hv
   subst this
   exact⟨c,key,val,.inl k,e1,e2,rfl,e4⟩
  | succ i=>simpa using h1 i v (by simpa using hv)
inductive call_dictP_i  (xs:List V) (H:Hp) (Q:VK):Prop
 | mk:∀ (p:Addr)(ys:List V)(kvs:List (Int × V)),(xs=[.ref p])->(H p=some (.tup ys))->(ys.length=kvs.length)->((∀ (i:Nat)(y:V),ys[i]?=some y->∃ (c:Addr)(k:Int)(v:V),kvs[i]?=some (k,v)/\y=.ref c/\H c=some (.tup [.int k,v])))->((kvs.map (·.1)).Nodup)->(∀ l H',Same H H'->H l=none->H' l=some (.dK (kvs.map λ p=>(Sum.inl p.1,p.2)))->Q (.ref l) H')->call_dictP_i xs H Q
theorem zm2 (hc:X.calm=true):CallR X (.type "dict") (call_dictP_i):=by
 intro pins s σ H xs us Q I r h
 obtain⟨p,ys,kvs,rfl,hp,hl,hy,nd,q⟩:=h
 obtain⟨u,rfl,ru⟩:=vals1 r
 cases ru
 obtain⟨hz,its,rv,ht⟩:=(show ObjOk X.prog X.w H s.heap p (.tup ys) from I.hok p _ hp)
 have fr:H s.heap.objs.size=none:=I.hok.fresh (uai _)
 have li:its.length=kvs.length:=by rw[← rv.length,hl]
  -- the pairs
 have pr:∀ (i:Nat)(v:Value),its[i]?=some v->∃ (c:Addr)(key val:Value)(k:Int)(x:V),v=Value.ref c/\s.heap.IsTuple c #[key,val]/\kvs[i]?=some (k,x)/\keyIs (.inl k) key=true/\RelV x val:=λ i v hv=>by
  have hi:i<ys.length:=by have:=(uak.mp hv).1;left
  obtain⟨c,k,x,e1,e2,e3⟩:=hy i _ (uad hi)
  obtain⟨u,hu,ru⟩:=rv.get (uad hi)
  rw[hv] at hu
  cases hu
  rw[e2] at ru
  obtain rfl:v=Value.ref c:=ru
  obtain⟨_,us,rus,tn⟩:=(show ObjOk X.prog X.w H s.heap c (.tup [.int k,x]) from I.hok c _ e3)
  cases rus with
  | cons r1 r2 =>
   cases r2 with
   | cons r2 r3 =>
    cases r3
    obtain⟨t,rfl⟩:=r1
    exact⟨c,_,_,k,x,rfl,tn.tup,e1,by simp [keyIs,Value.isInt],r2⟩
 obtain⟨vs,kv,lv,hv⟩:=zez li pr
 have nd2:(vs.map (·.1)).Nodup:=by
  have e:vs.map (·.1)=(kvs.map (·.1)).map Sum.inl:=by
   rw[← zp8 kv,uby,uby];rfl
  rw[e]
  exact udx _ (λ a b h z=>h (by injection z)) nd
 refine Dp.call_dict_pairs (knd:=mixKind X.prog X.w) (items:=its.toArray) (I.ok.hd hc) ht vs (by rw[uap,lv]) (by rw[lv,li,← hl];exact hz) (λ i v h=>hv i v (by simpa using h)) λ h' tk hd kk=>?_
 rw[merged_nil_of_nodup vs nd2] at hd
 have lk:(kvs.map λ p=>((Sum.inl p.1,p.2):Key × V)).length<=sizeLine:=by rw[uae,← hl];exact hz
 have big:(s.heap.objs.size==sysModules)=false:=by
  have:=Inv.big I
  simp only [beq_eq_false_iff_ne]
  exact λ z=>by rw[z] at this;exact ubs _ this
 exact⟨.ref s.heap.objs.size,upd H s.heap.objs.size (.dK (kvs.map λ p=>(Sum.inl p.1,p.2))),I.laid (t':=tk) kk (uai _) ⟨lk,big,vs,kv,hd⟩,rfl,q _ _ (zam fr) fr zai⟩
end
end L3
namespace Far
def combM (M:Int)(c:Int × Int):Int:=M*c.1+c.2
def arcsM (M:Int)(B:List Arc):List (Nat × Nat × Int):=B.map λ b=>(b.1,b.2.1,M*b.2.2.1+2^b.2.2.2)
section
variable {B:List Arc}{n s m:Nat}{cs:List (Option (Int × Int))}{as:List (Option Nat)}
end
structure RunI (A:List (Nat × Nat × Int))(s:Nat)(ds:List (Option Int))(as:List (Option Nat)):Prop where
 len:as.length=ds.length
 start:get ds s=some 0
 root:get as s=none
 has:∀ v c,get ds v=some c->v≠s->get as v≠none
 arc:∀ v u,get as v=some u->∃ l cu cv,(u,v,l)∈A/\get ds u=some cu/\get ds v=some cv/\cu+l<=cv
section
variable {A:List (Nat × Nat × Int)}{n s:Nat}{ds:List (Option Int)}{as:List (Option Nat)}
end
end Far
namespace L3
open PySem PySem.Spec PyProof.Rows L2
section
variable {n:Int}{ts:List Tie}{ls:List (List Nat)}
noncomputable def dvC (ts:List Tie)(u v:Nat):Option Int:=Classical.epsilon λ o=>Far.Dst (arcs ts (uaf ts.length)) u v o
theorem zbl (ok:WebOk n ts)(u v:Nat):Far.Dst (arcs ts (uaf ts.length)) u v (dvC ts u v):=Classical.epsilon_spec (p:=λ o=>Far.Dst (arcs ts (uaf ts.length)) u v o) (Far.zcg (zbh ok (za5 ts)) u v)
noncomputable def dFC (n:Nat)(ts:List Tie)(u:Nat):List (Option Int):=(uaf n).map (dvC ts u)
theorem getC {α:Type}{f:Nat->Option α}{n v:Nat}(h:v<n):Far.get ((uaf n).map f) v=f v:=by
 unfold Far.get
 rw[uag,uaj,ub9 h];rfl
theorem zl5 {α:Type}{f:Nat->Option α}{n v:Nat}{a:α}(h:Far.get ((uaf n).map f) v=some a):v<n:=by
 by_cases z:v<n
 ·exact z
 ·unfold Far.get at h
  rw[uag,uat (by rw[uae,uay];left)] at h;cases h
theorem zjf (ok:WebOk n ts)(u:Nat):FarsOf ts n.toNat u (dFC n.toNat ts u):=⟨by unfold dFC;rw[uae,uay],λ v hv=>by
 unfold dFC;rw[getC hv];exact zbl ok u v⟩
theorem zfi (ok:WebOk n ts){u:Nat}{D:List (Option Int)}(h:FarsOf ts n.toNat u D):D=dFC n.toNat ts u:=FarsOf.unique (zjf ok u) h
noncomputable def clB (n:Nat)(ts:List Tie)(ls:List (List Nat))(v w:Nat):Bool:=bunB ls (dFC n ts v) w
noncomputable def clA (n:Int)(ts:List Tie)(ls:List (List Nat))(w:Nat):List (Option Nat):=(uaf n.toNat).map λ v=>if clB n.toNat ts ls v w=true then Far.get (trA n ts w) v else none
theorem zcj {w v u:Nat}(h:Far.get (clA n ts ls w) v=some u):v<n.toNat/\clB n.toNat ts ls v w=true/\Far.get (trA n ts w) v=some u:=by
 have hv:=zl5 h
 unfold clA at h
 rw[getC hv] at h
 split at h
 ·exact⟨hv,by assumption,h⟩
 ·cases h
theorem zfk (w:Nat):(clA n ts ls w).length=n.toNat:=by unfold clA;rw[uae,uay]
theorem zpn (ok:WebOk n ts){w v u:Nat}(hw:w<n.toNat)(h:Far.get (clA n ts ls w) v=some u):∃ k,tbN ts v u=some k/\k<ts.length/\u<n.toNat/\v<n.toNat:=by
 obtain⟨_,_,e⟩:=zcj h
 obtain⟨k,l,h1,h2,_,h3,h4⟩:=zu3 ok hw e
 exact⟨k,h1,h2,h4,h3⟩
noncomputable def clT (n:Int)(ts:List Tie)(ls:List (List Nat))(w:Nat):List Nat:=(uaf n.toNat).filterMap λ v=>(Far.get (clA n ts ls w) v).bind λ u=>tbN ts v u
theorem clT_mem {w k:Nat}:k∈clT n ts ls w↔∃ v u,Far.get (clA n ts ls w) v=some u/\tbN ts v u=some k:=by
 unfold clT
 rw[udo]
 constructor
 ·rintro ⟨v,_,e⟩
  cases h:Far.get (clA n ts ls w) v with
  | none=>rw[h] at e;cases e
  | some u=>rw[h] at e;exact⟨v,u,h,e⟩
 ·rintro ⟨v,u,h,e⟩
  exact⟨v,uaq.mpr (zcj h).1,by rw[h];exact e⟩
theorem zuw (ok:WebOk n ts){w k:Nat}(hw:w<n.toNat)(h:k∈clT n ts ls w):k<ts.length:=by
 obtain⟨v,u,h1,h2⟩:=clT_mem.mp h
 obtain⟨k',e,lt,_⟩:=zpn ok hw h1
 rw[h2] at e;cases e
 exact lt
theorem zpm (w:Nat):(clT n ts ls w).length<=n.toNat:=by
 have:=ugy (λ v=>(Far.get (clA n ts ls w) v).bind λ u=>tbN ts v u) (uaf n.toNat)
 rw[uay] at this
 exact this
noncomputable def clK (n:Int)(ts:List Tie)(ls:List (List Nat)):List Nat:=(uaf ts.length).filter λ k=>(uaf n.toNat).any λ w=>(clT n ts ls w).contains k
theorem zk5 (ok:WebOk n ts){k:Nat}:k∈clK n ts ls↔∃ w,w<n.toNat/\k∈clT n ts ls w:=by
 unfold clK
 rw[ubl,uaq,ucu]
 constructor
 ·rintro ⟨_,w,hw,h⟩
  exact⟨w,uaq.mp hw,List.contains_iff_mem.mp h⟩
 ·rintro ⟨w,hw,h⟩
  exact⟨zuw ok hw h,w,uaq.mpr hw,List.contains_iff_mem.mpr h⟩
theorem zch (n:Int)(ts:List Tie)(ls:List (List Nat)):KeepOk ts.length (clK n ts ls):=⟨List.Pairwise.filter _ ubw,λ k hk=>uaq.mp (ubl.mp hk).1⟩
theorem zpl (ok:WebOk n ts){w v u:Nat}(hw:w<n.toNat)(h:Far.get (clA n ts ls w) v=some u)(uw:u≠w):Far.get (clA n ts ls w) u≠none:=by
 obtain⟨hv,hb,e⟩:=zcj h
 obtain⟨cs,B⟩:=zcr ok hw
 have KB:=zbi ok (za5 ts)
 obtain⟨l,k,cu,ma,eu,ev⟩:=B.arc v u e
 have hu:u<n.toNat:=(zc0 ok (za5 ts) ma).1
 have has:=B.has u cu eu uw
 have d1:=B.dst1 KB
 have eA:Far.arcsF (arcsB ts (uaf ts.length))=arcs ts (uaf ts.length):=zbo ts _
 have du:=d1 u
 have dv:=d1 v
 rw[eA] at du dv
 rw[eu] at du
 rw[ev] at dv
 have sy:=zbk ok (za5 ts)
 have du':Far.Dst (arcs ts (uaf ts.length)) u w (some cu.1):=du.back sy
 have dv':Far.Dst (arcs ts (uaf ts.length)) v w (some (cu.1+l)):=dv.back sy
 have mA:(v,u,l)∈arcs ts (uaf ts.length):=by
  have:(u,v,l)∈Far.arcsF (arcsB ts (uaf ts.length)):=ubx.mpr ⟨_,ma,rfl⟩
  rw[eA] at this
  exact sy _ _ _ this
 have hb':clB n.toNat ts ls u w=true:=by
  unfold clB at hb ⊢
  rw[bunB_iff] at hb ⊢
  obtain⟨x,e1,h1⟩:=hb
  have gv:∀ a p,p<n.toNat->Far.get (dFC n.toNat ts a) p=dvC ts a p:=λ a p hp=>by unfold dFC;exact getC hp
  have gd:∀ {a p:Nat}{o:Option Int},Far.Dst (arcs ts (uaf ts.length)) a p o->dvC ts a p=o:=λ {a p o} d=>(zbl ok a p).unique d
  rw[gv v w hw,gd dv'] at e1
  cases e1
  refine⟨cu.1,by rw[gv u w hw,gd du'],λ b p y hb hp ey=>?_⟩
  have hp':p<n.toNat:=zl5 ey
  rw[gv u p hp'] at ey
  have dp:=zbl ok u p
  rw[ey] at dp
  have wk:Far.Walk (arcs ts (uaf ts.length)) u p y:=dp.1 y rfl
  have wk2:Far.Walk (arcs ts (uaf ts.length)) v p (l+y):=by
   have:=Far.Walk.cons mA wk
   rwa [Int.add_comm] at this
  obtain⟨z,ez,lz⟩:=(zbl ok v p).2 _ wk2
  have:=h1 b p z hb hp (by rw[gv v p hp'];exact ez)
  left
 unfold clA
 rw[getC hu,if_pos hb']
 exact has
end
section
variable {n:Int}{ts:List Tie}{ls:List (List Nat)}
noncomputable def bnL (n:Nat)(ts:List Tie)(ls:List (List Nat))(v:Nat):List Nat:=(uaf n).filter λ w=>clB n ts ls v w
theorem bnL_mem {v w:Nat}:w∈bnL n.toNat ts ls v↔w<n.toNat/\clB n.toNat ts ls v w=true:=by
 unfold bnL;rw[ubl,uaq]
theorem zfn (ls:List (List Nat))(D:List (Option Int))(n:Nat):bunchL ls D n=((uaf n).filter λ w=>bunB ls D w).map (bunD D):=by
 unfold bunchL
 induction uaf n with
 | nil=>rfl
 | cons w l ih =>
  rw[uca,uf3]
  unfold bunSel
  cases h:bunB ls D w with
  | true=>simp only [if_true,ubg];rw[← ih];rfl
  | false=>simp only [ub5,if_false];rw[← ih];rfl
end
noncomputable def bkI (n:Nat)(ts:List Tie)(ls:List (List Nat))(v:Nat):List (Int × V):=(bnL n ts ls v).map λ (w:Nat)=>((w:Int),V.int ((Far.get (dFC n ts v) w).getD 0))
noncomputable def bkv (n:Nat)(ts:List Tie)(ls:List (List Nat))(v:Nat):List (Key × V):=(bkI n ts ls v).map λ p=>(Sum.inl p.1,p.2)
theorem zsi (n:Nat)(ts:List Tie)(ls:List (List Nat))(v w:Nat):(valV (bkv n ts ls v) (Sum.inl (w:Int))).isSome=decide (w∈bnL n ts ls v):=by
 rw[← zlh]
 unfold bkv bkI
 rw[uby,List.any_map,uc4,ucu,decide_eq_true_eq]
 constructor
 ·rintro ⟨x,hx,e⟩
  have e2:(Sum.inl (x:Int):Key)=Sum.inl (w:Int):=of_decide_eq_true e
  injection e2 with e2
  rw[← show x=w by left];exact hx
 ·intro h
  exact⟨w,h,decide_eq_true rfl⟩
theorem zpz (n:Nat)(ts:List Tie)(ls:List (List Nat))(v:Nat):((bkI n ts ls v).map (·.1)).Nodup:=by
 unfold bkI bnL
 rw[uby]
 exact udx _ (λ a b h z=>h (by have:(a:Int)=(b:Int):=z;left)) (uf2.sublist List.filter_sublist)
def BnV (H:Hp)(n:Nat)(ts:List Tie)(ls:List (List Nat))(ys:List V):Prop:=ys.length=n/\∀ v,v<n->∃ d,ys[v]?=some (.ref d)/\H d=some (.dK (bkv n ts ls v))
def NlKeep (H H':Hp):Prop:=∀ (b:Addr)(o:HO),(∀ xs,o≠.lst xs)->H b=some o->H' b=some o
section
variable {own:List Str}{js:List Nat}{g:TG}{te:TE}{σ:L2.St}{Q:VK}{H1:Hp}
theorem zk2 {lo:Int}{n:Nat}(Sg:L2.St->Prop)(R:Nat->V->Hp->Prop)(hn:n<=1000)(h0:Sg (start3 own js σ))(mono:∀ i v H H',NlKeep H H'->R i v H->R i v H')
  (step:∀ i σ' H',i<n->Same H1 H'->Sg σ'->∀ C:L2.St->V->Hp->Prop,(∀ σ3 v H5,Sg σ3->Same H' H5->R i v H5->C σ3 v H5)->g (.int (lo+i)) σ' H' λ σ3 H3=>te σ3 H3 λ v H5=>C σ3 v H5)
  (fin:∀ D ys H',H1 D=none->Same H1 H'->H' D=some (.lst ys)->ys.length=n->(∀ i v,ys[i]?=some v->R i v H')->Q (.ref D) H'):CompGo own js g tTrue te σ Q (Itr lo n) H1:=by
 intro D hD
 refine⟨λ i m ys σ' H'=>m=n-i/\i<=n/\Sg σ'/\Same H1 H'/\ys.length=i/\∀ j v,ys[j]?=some v->R j v H',⟨n,rfl,ube _,h0,zam hD,rfl,λ j v e=>by simp at e⟩,?_⟩
 rintro i m ys σ' H' ⟨rfl,hi,sg,sm,hl,hr⟩ hd
 by_cases hlt:i<n
 ·refine .inr ⟨hlt,λ x H2 hy=>?_⟩
  obtain⟨rfl,rfl⟩:=hy
  refine step i σ' _ hlt sm sg (λ σ3 v H5=>H5 D=some (.lst ys)/\ys.length<sizeLine/\∃ m',m'<n-i/\(m'=n-(i+1)/\i+1<=n/\Sg σ3/\Same H1 (upd H5 D (.lst (ys++[v])))/\(ys++[v]).length=i+1/\∀ j u,(ys++[v])[j]?=some u->R j u (upd H5 D (.lst (ys++[v]))))) λ σ3 v H5 sg3 s5 r5=>?_
  have hd5:=s5 _ _ hd
  refine⟨hd5,ubr (by left:ys.length<=1000) (by decide),n-(i+1),by left,rfl,hlt,sg3,λ b o e=>?_,by rw[uar,uax,hl],λ j u e=>?_⟩
  ·rw[zan (zak e hD)];exact s5 _ _ (sm _ _ e)
  ·have tk5:NlKeep H5 (upd H5 D (.lst (ys++[v]))):=λ a o no e=>by rw[zan (λ z=>by rw[z,hd5] at e;cases e;exact no _ rfl)];exact e
   by_cases hj:j<ys.length
   ·rw[uch hj] at e
    exact mono _ _ _ _ tk5 (mono _ _ _ _ (λ a o _ z=>s5 _ _ z) (hr j u e))
   ·rw[ubb (by left)] at e
    have ej:j=ys.length:=by
     have:=(uak.mp e).1
     simp at this;left
    subst ej
    have eu:v=u:=by simpa using e
    subst eu
    rw[hl]
    exact mono _ _ _ _ tk5 r5
 ·have e:i=n:=by left
  subst e
  exact .inl ⟨uai _,fin D ys H' hD sm hd hl hr⟩
end
noncomputable def trD (n:Int)(ts:List Tie)(ls:List (List Nat))(w:Nat):PyData:=.tuple [.int (w:Int),.tuple ((clA n ts ls w).map oaD)]
noncomputable def treesD (n:Int)(ts:List Tie)(ls:List (List Nat)):PyData:=.tuple ((uaf n.toNat).map (trD n ts ls))
theorem zsb {K:uac}{H:Hp}:∀ {as:List (Option Nat)}{vs:List V},IsAll K H (as.map oaD) vs->vs=as.map oa
 | [],_,h=>h
 | a::as,vs,⟨v,r,e,h1,h2⟩=>by
  subst e
  rw[zsb h2]
  cases a with
  | none=>rw[show v=V.non from h1];rfl
  | some x=>rw[show v=V.int (x:Int) from h1];rfl
theorem zer {K:uac}{H:Hp}{n:Int}{ts:List Tie}{ls:List (List Nat)}{v:V}(h:Is K H (treesD n ts ls) v):∃ p vs,v=.ref p/\H p=some (.tup vs)/\vs.length=n.toNat/\∀ (w:Nat)(x:V),vs[w]?=some x->∃ c t,x=.ref c/\w<n.toNat/\H c=some (.tup [.int (w:Int),.ref t])/\H t=some (.tup ((clA n ts ls w).map oa)):=by
 obtain⟨p,vs,rfl,hp,hall⟩:=h
 have hl:=hall.length
 rw[uae,uay] at hl
 refine⟨p,vs,rfl,hp,hl,λ w x hx=>?_⟩
 have hw:w<n.toNat:=by have:=(uak.mp hx).1;left
 obtain⟨d,hd,ix⟩:=hall.get' hx
 rw[uaj,ub9 hw] at hd
 cases hd
 obtain⟨c,us,rfl,hc,v1,r1,rfl,h1,v2,r2,rfl,⟨t,zs,rfl,ht,hz⟩,h3⟩:=ix
 obtain rfl:v1=.int (w:Int):=h1
 obtain rfl:r2=[]:=h3
 rw[zsb hz] at ht
 exact⟨c,t,rfl,hw,hc,ht⟩
theorem zsq {K:uac}{H:Hp}{n:Int}{ts:List Tie}{ls:List (List Nat)}{w:Nat}{c t:Addr}(h1:H c=some (.tup [.int (w:Int),.ref t]))(h2:H t=some (.tup ((clA n ts ls w).map oa))):Is K H (trD n ts ls w) (.ref c) :=
 ⟨c,_,rfl,h1,_,_,rfl,rfl,_,_,rfl,⟨t,_,rfl,h2,zo1 _⟩,rfl⟩
theorem zqj {K:uac}{H:Hp}{n:Int}{ts:List Tie}{ls:List (List Nat)}{p:Addr}{vs:List V}(hp:H p=some (.tup vs))(hl:vs.length=n.toNat)(h:∀ (w:Nat) (x:V),vs[w]?=some x->∃ c t,x=.ref c/\H c=some (.tup [.int (w:Int),.ref t])/\H t=some (.tup ((clA n ts ls w).map oa))):Is K H (treesD n ts ls) (.ref p):=by
 refine⟨p,vs,rfl,hp,IsAll.of (by rw[uae,uay];exact hl) λ w d x hd hx=>?_⟩
 have hw:w<n.toNat:=by have:=(uak.mp hx).1;left
 rw[uaj,ub9 hw] at hd
 cases hd
 obtain⟨c,t,rfl,h1,h2⟩:=h w x hx
 exact zsq h1 h2
def FarsN (H:Hp)(lf:Addr)(n:Nat)(ts:List Tie):Prop:=∃ ys,H lf=some (.lst ys)/\ys.length=n/\∀ (i:Nat)(v:V),ys[i]?=some v->∃ l,v=.ref l/\H l=some (.lst ((dFC n ts i).map ov))
def spTTG (K:uac):Sp:=λ vs H Q _=>∃ (n:Int)(ts:List Tie)(wv:V)(t:Addr)(F:List (Option Nat)),vs=[wv,.ref t]/\Is K H (webD n ts) wv/\ts.length<=60/\H t=some (.tup (F.map oa))/\F.length<=24/\(∀ v u,Far.get F v=some u->∃ k,tbN ts v u=some k) /\
 ∀ l H',Same H H'->H l=none->H' l=some (.lst (natV ((uaf F.length).filterMap λ v=>(Far.get F v).bind λ u=>tbN ts v u)))->Q (.ref l) H'
def spTiesTr (K:uac):Sp:=λ vs H Q _=>∃ (n:Int)(ts:List Tie)(ls:List (List Nat))(wv v:V),vs=[wv,v]/\Is K H (webD n ts) wv/\WebOk n ts/\Is K H (treesD n ts ls) v/\∀ t H',Same H H'->H' t=some (.tup (natV (clK n ts ls)))->Q (.ref t) H'
def spLevKeep (K:uac):Sp:=λ vs H Q _=>∃ (n:Int)(ts:List Tie)(ls:List (List Nat))(wv lv:V),vs=[wv,lv]/\Is K H (webD n ts) wv/\WebOk n ts/\Lv K H n.toNat ls lv/\∀ t H',Same H H'->H' t=some (.tup (natV (clK n ts ls)))->Q (.ref t) H'
end L3
namespace L2
open PySem PySem.Spec PyProof.Rows
def epO (o:Obj):Nat:=match o.data with | .dict _ ep=>ep | _=>0
def Itd (a:Addr)(o:Obj)(kvs:List (Key × V)):It :=
 ⟨λ i H=>H a=some (.frz o (.dK kvs))/\i<kvs.length,λ i H x H'=>H'=H/\∃ k v,kvs[i]?=some (k,v)/\x=kV k,λ i H=>H a=some (.frz o (.dK kvs))/\i=kvs.length⟩
theorem zo7 {X:Cx}{pins:List (Addr × Obj)}{σ:St}{H:Hp}{s:Shared}{a:Addr}{o:Obj}{kvs:List (Key × V)}(I:Inv X pins σ H s)(h:H a=some (.frz o (.dK kvs))):(a==sysModules)=false/\∃ vs,KV kvs vs/\s.heap.DictAt (mixKind X.prog X.w) a vs (epO o):=by
 obtain⟨e,ob⟩:=(show ObjOk X.prog X.w H s.heap a (.frz o (.dK kvs)) from I.hok a _ h)
 obtain⟨_,hs,vs,kv,o',es,ep,e1,e2,e3,r⟩:=(show ObjOk X.prog X.w H s.heap a (.dK kvs) from ob)
 rw[e] at e1
 cases e1
 refine⟨hs,vs,kv,o,es,e,e2,?_,r⟩
 rw[e3]
 unfold epO
 rw[e3]
theorem zth {P:Program}{w:World}{k:Key}{v:Value}(h:(mixKind P w).is k v=true):RelV (kV k) v:=by
 rcases za8 (by rw[zms] at h;exact h) with ⟨i,t,e4,e5⟩ | ⟨x,t,e4,e5⟩
 ·subst e4;subst e5;exact⟨t,rfl⟩
 ·subst e4;subst e5;exact⟨t,rfl⟩
theorem zu7 {kvs:List (Key × V)}{vs:List (Key × Value)}(kv:KV kvs vs){i:Nat}{k:Key}{x:Value}(e:vs[i]?=some (k,x)):∃ v,kvs[i]?=some (k,v):=by
 have e2:(vs.map (·.1))[i]?=some k:=by rw[uaj,e];rfl
 rw[← kv.keys,uaj] at e2
 obtain⟨⟨k',v⟩,h1,h2⟩:=uba.mp e2
 cases h2
 exact⟨v,h1⟩
theorem znk {P:Program}{w:World}{K:uac}{tg:Expr}(a it:Addr)(o:Obj)(kvs:List (Key × V)):Turn P w K tg (Itd a o kvs) [it] it (λ i h=>h.IsKeyIter it a i kvs.length (epO o)) where
 mem:=by simp
 obj:=λ i h st b hb=>by
  have e:b=it:=by simpa using hb
  subst e
  obtain⟨o,e,c,d⟩:=st
  exact⟨o,e,λ v z=>by rw[d] at z;cases z⟩
 keep:=λ i h h' st k=>st.at λ o e=>k it (by simp) o e
 item:=by
  intro X hP hw hK hc i pins s σ H E I hf st hg
  subst hP hw hK
  obtain⟨ha,hi⟩:=hg
  obtain⟨hs,vs,kv,da⟩:=zo7 I ha
  obtain⟨f0,f1,f2,f3,f4,f5⟩:=hf it (by simp)
  have lv:vs.length=kvs.length:=kv.length.symm
  obtain⟨⟨k,x⟩,hx⟩:∃ p,vs[i]?=some p:=⟨vs[i]'(by left),uad (by left)⟩
  obtain⟨v,hv⟩:=zu7 kv hx
  rw[← lv] at st
  refine wpAny_pyNext_dict_item st da hx λ key h' hkey hit' sb=>?_
  rw[lv] at hit'
  have I1:Inv X pins σ H { s with heap:=h' }:=I.turned (t':=s.toks) (λ b o hb e=>(sb.2 b hb).trans e) f0 f1 f3 f4 f5
  obtain⟨oo,e,c,d⟩:=id hit'
  exact⟨key,rfl,zrj (s:={ s with heap:=h' }) e c d (by decide) ⟨kV k,H,I1,zth hkey,⟨rfl,k,v,hv,rfl⟩,hit',λ b hb=>(hf b hb).1⟩⟩
 done:=by
  intro X hP hw hK hc i pins s σ H E I hf st hg
  subst hP hw hK
  obtain⟨ha,hi⟩:=hg
  obtain⟨hs,vs,kv,da⟩:=zo7 I ha
  obtain⟨f0,f1,f2,f3,f4,f5⟩:=hf it (by simp)
  have lv:vs.length=kvs.length:=kv.length.symm
  rw[← lv] at st
  exact wpAny_pyNext_dict_end (I.ok.hd hc) st da (by rw[hi,← lv];exact uat (uai _)) λ h' eb=>⟨rfl,I.turned (t':=s.toks) (λ b o hb e=>eb b o hb e) f0 f1 f3 f4 f5⟩
 self:=λ _ _ _ _ _ st h=>wpAny_pyIter_keyiter st h
section
variable {X:Cx}{tg:Expr}
def iDict (tl:TE):TI:=λ σ H R=>tl σ H λ x H1=>∃ a o kvs,x=.ref a/\H1 a=some (.frz o (.dK kvs))/\R (Itd a o kvs) H1
theorem zs8 {l:Expr}{tl:TE}(hl:PE X l tl):PI X tg l (iDict tl):=by
 intro pins s σ H R I h
 refine thn (hl pins s σ H _ I h) λ v s1 ⟨x,H1,I1,r1,q1⟩=>?_
 obtain⟨a,o,kvs,e,ha,q⟩:=q1
 subst e
 cases r1
 obtain⟨hs,vs,kv,da⟩:=zo7 I1 ha
 refine wpAny_pyIter_dict hs da ?_
 have lv:vs.length=kvs.length:=kv.length.symm
 refine⟨s1.heap.objs.size,[s1.heap.objs.size],_,_,H1,rfl,I1.kept (t':=s1.toks) λ b o e=>Heap.get?_push_of_some _ e,znk a _ o kvs,⟨_,Heap.get?_push_size _ rfl,rfl,by rw[lv];rfl⟩,λ b hb=>?_,q⟩
 have e:b=s1.heap.objs.size:=by simpa using hb
 subst e
 exact I1.fpOk (uai _) (I1.hok.fresh (uai _))
end
end L2
namespace L3
open PySem PySem.Spec PyProof.Rows L2
section
variable {own:List Str}{js:List Nat}{g:TG}{te:TE}{tt:TT}{σ:L2.St}{Q:VK}{H1:Hp}
theorem zmx {K':uac}{a:Addr}{o:Obj}{xs:List (Key × V)}(hx:H1 a=some (.frz o (.dK xs)))(Sg:L2.St->Prop)(sel:Nat->Option PyData)(tup:∀ i d,sel i=some d->tupD d=true)(hn:xs.length<=1000)(h0:Sg (start3 own js σ))
  (step:∀ i k y x σ' H',xs[i]?=some (k,y)->x=kV k->Same H1 H'->Sg σ'->∀ (C:L2.St->V->Hp->Prop)(L:L2.St->Hp->Prop),(∀ σ3 v d H5,Sg σ3->Same H' H5->sel i=some d->Is K' H5 d v->C σ3 v H5)->(∀ σ3 H5,Sg σ3->Same H' H5->sel i=none->L σ3 H5) ->
   g x σ' H' λ σ3 H3=>tt σ3 H3 λ b H4=>if b=true then te σ3 H4 λ v H5=>C σ3 v H5 else L σ3 H4)
  (fin:∀ D ys H',H1 D=none->Same H1 H'->H' D=some (.lst ys)->ys.length<=xs.length->IsAll K' H' ((uaf xs.length).filterMap sel) ys->Q (.ref D) H'):CompGo own js g tt te σ Q (Itd a o xs) H1:=by
 intro D hD
 have tupI:∀ i,tupAll ((uaf i).filterMap sel)=true:=λ i=>by
  have go:∀ is:List Nat,tupAll (is.filterMap sel)=true:=λ is=>by
   induction is with
   | nil=>rfl
   | cons j r ih =>
    rw[uca]
    cases e:sel j with
    | none=>exact ih
    | some d=>show (tupD d&&tupAll (r.filterMap sel))=true;rw[tup j d e,ih];rfl
  exact go _
 refine⟨λ i m ys σ' H'=>m=xs.length-i/\i<=xs.length/\Sg σ'/\Same H1 H'/\ys.length<=i/\IsAll K' H' ((uaf i).filterMap sel) ys,⟨xs.length,rfl,ube _,h0,zam hD,uai _,rfl⟩,?_⟩
 rintro i m ys σ' H' ⟨rfl,hi,sg,sm,ly,ia⟩ hd
 have sq:=sm _ _ hx
 by_cases hlt:i<xs.length
 ·refine .inr ⟨⟨sq,hlt⟩,λ x H2 hy=>?_⟩
  obtain⟨rfl,k,y,hy,ex⟩:=hy
  refine step i k y x σ' _ hy ex sm sg
   (λ σ3 v H5=>H5 D=some (.lst ys)/\ys.length<sizeLine/\∃ m',m'<xs.length-i/\(m'=xs.length-(i+1)/\i+1<=xs.length/\Sg σ3/\Same H1 (upd H5 D (.lst (ys++[v])))/\(ys++[v]).length<=i+1/\IsAll K' (upd H5 D (.lst (ys++[v]))) ((uaf (i+1)).filterMap sel) (ys++[v])))
   (λ σ3 H5=>H5 D=some (.lst ys)/\∃ m',m'<xs.length-i/\(m'=xs.length-(i+1)/\i+1<=xs.length/\Sg σ3/\Same H1 H5/\ys.length<=i+1/\IsAll K' H5 ((uaf (i+1)).filterMap sel) ys)) (λ σ3 v d H5 sg3 s5 e hv=>?_) (λ σ3 H5 sg3 s5 e=>?_)
  ·have hd5:=s5 _ _ hd
   have b5:But D H5 (upd H5 D (.lst (ys++[v]))):=λ b o hb z=>by rw[zan hb];exact z
   refine⟨hd5,ubr (by left:ys.length<=1000) (by decide),xs.length-(i+1),by left,rfl,hlt,sg3,λ b o z=>?_,by rw[uar,uax];left,?_⟩
   ·rw[zan (zak z hD)];exact s5 _ _ (sm _ _ z)
   ·rw[ucf,ucj,show [i].filterMap sel=[d] by simp [e]]
    exact IsAll.snoc (Is.but b5 hd5 _ (tup i d e) hv) (IsAll.but b5 hd5 _ (tupI i) (IsAll.same s5 _ ia))
  ·refine⟨s5 _ _ hd,xs.length-(i+1),by left,rfl,hlt,sg3,sm.trans s5,by left,?_⟩
   rw[ucf,ucj,show [i].filterMap sel=[] by simp [e],ud4]
   exact IsAll.same s5 _ ia
 ·have e:i=xs.length:=by left
  subst e
  exact .inl ⟨⟨sq,rfl⟩,fin D ys H' hD sm hd ly ia⟩
end
section
variable {X:Cx}
inductive call_dictPF_i  (xs:List V) (H:Hp) (Q:VK):Prop
 | mk:∀ (p:Addr)(ys:List V)(kvs:List (Int × V)),(xs=[.ref p])->(H p=some (.tup ys))->(ys.length=kvs.length)->((∀ (i:Nat)(y:V),ys[i]?=some y->∃ (c:Addr)(k:Int)(v:V),kvs[i]?=some (k,v)/\y=.ref c/\H c=some (.tup [.int k,v])))->((kvs.map (·.1)).Nodup)->(∀ l o H',Same H H'->H l=none->H' l=some (.frz o (.dK (kvs.map λ p=>(Sum.inl p.1,p.2))))->Q (.ref l) H')->call_dictPF_i xs H Q
theorem zk6 (hc:X.calm=true):CallR X (.type "dict") (call_dictPF_i):=by
 intro pins s σ H xs us Q I r h
 obtain⟨p,ys,kvs,rfl,hp,hl,hy,nd,q⟩:=h
 obtain⟨u,rfl,ru⟩:=vals1 r
 cases ru
 obtain⟨hz,its,rv,ht⟩:=(show ObjOk X.prog X.w H s.heap p (.tup ys) from I.hok p _ hp)
 have fr:H s.heap.objs.size=none:=I.hok.fresh (uai _)
 have li:its.length=kvs.length:=by rw[← rv.length,hl]
  -- the pairs
 have pr:∀ (i:Nat)(v:Value),its[i]?=some v->∃ (c:Addr)(key val:Value)(k:Int)(x:V),v=Value.ref c/\s.heap.IsTuple c #[key,val]/\kvs[i]?=some (k,x)/\keyIs (.inl k) key=true/\RelV x val:=λ i v hv=>by
  have hi:i<ys.length:=by have:=(uak.mp hv).1;left
  obtain⟨c,k,x,e1,e2,e3⟩:=hy i _ (uad hi)
  obtain⟨u,hu,ru⟩:=rv.get (uad hi)
  rw[hv] at hu
  cases hu
  rw[e2] at ru
  obtain rfl:v=Value.ref c:=ru
  obtain⟨_,us,rus,tn⟩:=(show ObjOk X.prog X.w H s.heap c (.tup [.int k,x]) from I.hok c _ e3)
  cases rus with
  | cons r1 r2 =>
   cases r2 with
   | cons r2 r3 =>
    cases r3
    obtain⟨t,rfl⟩:=r1
    exact⟨c,_,_,k,x,rfl,tn.tup,e1,by simp [keyIs,Value.isInt],r2⟩
 obtain⟨vs,kv,lv,hv⟩:=zez li pr
 have nd2:(vs.map (·.1)).Nodup:=by
  have e:vs.map (·.1)=(kvs.map (·.1)).map Sum.inl:=by
   rw[← zp8 kv,uby,uby];rfl
  rw[e]
  exact udx _ (λ a b h z=>h (by injection z)) nd
 refine Dp.call_dict_pairs (knd:=mixKind X.prog X.w) (items:=its.toArray) (I.ok.hd hc) ht vs (by rw[uap,lv]) (by rw[lv,li,← hl];exact hz) (λ i v h=>hv i v (by simpa using h)) λ h' tk hd kk=>?_
 rw[merged_nil_of_nodup vs nd2] at hd
 have lk:(kvs.map λ p=>((Sum.inl p.1,p.2):Key × V)).length<=sizeLine:=by rw[uae,← hl];exact hz
 have big:(s.heap.objs.size==sysModules)=false:=by
  have:=Inv.big I
  simp only [beq_eq_false_iff_ne]
  exact λ z=>by rw[z] at this;exact ubs _ this
 obtain⟨oD,es,ep,eD,rD⟩:=id hd
 exact⟨.ref s.heap.objs.size,upd H s.heap.objs.size (.frz oD (.dK (kvs.map λ p=>(Sum.inl p.1,p.2)))),I.laid (t':=tk) (o:=.frz oD (.dK (kvs.map λ p=>(Sum.inl p.1,p.2)))) kk (uai _) ⟨eD,lk,big,vs,kv,hd⟩,rfl,q _ oD _ (zam fr) fr zai⟩
end
theorem zhz {H:Hp}{a:Addr}{o:Obj}{kvs:List (Key × V)}{k:Key}(e:H a=some (.frz o (.dK kvs))):DGet H a (kV k) (valV kvs k):=.inl ⟨kvs,k,.inr ⟨o,e⟩,rfl,rfl⟩
def BnF (H:Hp)(n:Nat)(ts:List Tie)(ls:List (List Nat))(ys:List V):Prop:=ys.length=n/\∀ v,v<n->∃ d o,ys[v]?=some (.ref d)/\H d=some (.frz o (.dK (bkv n ts ls v)))
theorem BnF.same {H H':Hp}{n:Nat}{ts:List Tie}{ls:List (List Nat)}{ys:List V}(S:Same H H')(h:BnF H n ts ls ys):BnF H' n ts ls ys:=⟨h.1,λ v hv=>let ⟨d,o,e1,e2⟩:=h.2 v hv;⟨d,o,e1,S _ _ e2⟩⟩
def spBunchesF (K:uac):Sp:=λ vs H Q _=>∃ (n:Int)(ts:List Tie)(ls:List (List Nat))(wv lv:V),vs=[wv,lv]/\Is K H (webD n ts) wv/\WebOk n ts/\Lv K H n.toNat ls lv/\∀ l ys H',Same H H'->H l=none->H' l=some (.lst ys)->BnF H' n.toNat ts ls ys->Q (.ref l) H'
def spClTreeF (K:uac):Sp:=λ vs H Q _=>∃ (n:Int)(ts:List Tie)(ls:List (List Nat))(wv:V)(lb:Addr)(ys:List V)(w:Nat),vs=[wv,.ref lb,.int (w:Int)]/\Is K H (webD n ts) wv/\WebOk n ts/\H lb=some (.lst ys)/\BnF H n.toNat ts ls ys/\w<n.toNat/\∀ t H',Same H H'->H' t=some (.tup ((clA n ts ls w).map oa))->Q (.ref t) H'
def spClTreesF (K:uac):Sp:=λ vs H Q _=>∃ (n:Int)(ts:List Tie)(ls:List (List Nat))(wv:V)(lb:Addr)(ys:List V),vs=[wv,.ref lb]/\Is K H (webD n ts) wv/\WebOk n ts/\H lb=some (.lst ys)/\BnF H n.toNat ts ls ys/\∀ v H',Same H H'->Is K H' (treesD n ts ls) v->Q v H'
noncomputable def dq (ts:List Tie)(u v:Nat):Int:=(dvC ts u v).getD 0
variable {n:Int}{ts:List Tie}{ls:List (List Nat)}{a b:Nat}
theorem zbu (ok:WebOk n ts)(u v:Nat):dvC ts u v=dvC ts v u:=((zbl ok v u).back (zbk ok (allOk ts))).unique (zbl ok u v) |> λ h=>h.symm ▸ rfl
theorem zpx (ok:WebOk n ts){v w:Nat}(hv:v<n.toNat)(h:w∈bnL n.toNat ts ls v):dvC ts v w=some (dq ts v w):=by
 obtain⟨hw,hb⟩:=bnL_mem.mp h
 obtain⟨x,ex,_⟩:=bunB_iff.mp hb
 rw[show Far.get (dFC n.toNat ts v) w=dvC ts v w from getC hw] at ex
 unfold dq
 rw[ex];rfl
theorem zpy (ok:WebOk n ts){v w:Nat}(hv:v<n.toNat)(h:w∈bnL n.toNat ts ls v):valV (bkv n.toNat ts ls v) (Sum.inl (w:Int))=some (.int (dq ts v w)):=by
 have hw:=(bnL_mem.mp h).1
 have go:∀ l:List Nat,w∈l->valV ((l.map λ (w:Nat)=>((w:Int),V.int ((Far.get (dFC n.toNat ts v) w).getD 0))).map λ p=>((Sum.inl p.1,p.2):Key × V)) (Sum.inl (w:Int))=some (.int (dq ts v w)):=λ l=>by
  induction l with
  | nil=>intro h;cases h
  | cons x r ih =>
   intro h
   by_cases z:x=w
   ·subst z
    rw[ubg,ubg,zdf rfl,show Far.get (dFC n.toNat ts v) x=dvC ts v x from getC hw];rfl
   ·rw[ubg,ubg,zdg (λ e=>z (by injection e with e;left))]
    exact ih ((uam.mp h).resolve_left (Ne.symm z))
 exact go _ h
def Bth (n:Nat)(ts:List Tie)(ls:List (List Nat))(a b w:Nat):Prop:=w∈bnL n ts ls a/\w∈bnL n ts ls b
noncomputable def sdK (ts:List Tie)(a b w:Nat):List Int:=[dq ts a w+dq ts b w,(w:Int)]
def IsSd (n:Nat)(ts:List Tie)(ls:List (List Nat))(a b w:Nat):Prop:=Bth n ts ls a b w/\∀ w',Bth n ts ls a b w'->HT.lexLt (sdK ts a b w') (sdK ts a b w)=false
noncomputable def sdF (n:Nat)(ts:List Tie)(ls:List (List Nat))(a b:Nat):Nat:=Classical.epsilon (IsSd n ts ls a b)
theorem lex2 {x y x' y':Int}(h:HT.lexLt [x,y] [x',y']=false):x'<x\/(x'=x/\y'<=y):=by
 rw[HT.zby,HT.zby] at h
 by_cases e:x=x'
 ·rw[if_pos e] at h
  by_cases e2:y=y'
  ·exact .inr ⟨e.symm,by left⟩
  ·rw[if_neg e2] at h
   have:=of_decide_eq_false h
   exact .inr ⟨e.symm,by left⟩
 ·rw[if_neg e] at h
  have:=of_decide_eq_false h
  exact .inl (by left)
theorem ztw {w w':Nat}(h:IsSd n.toNat ts ls a b w)(h':IsSd n.toNat ts ls a b w'):w=w':=by
 have h1:=lex2 (h.2 w' h'.1)
 have h2:=lex2 (h'.2 w h.1)
 left
theorem ztx {w:Nat}(h:IsSd n.toNat ts ls a b w):w=sdF n.toNat ts ls a b:=ztw h (Classical.epsilon_spec (p:=IsSd n.toNat ts ls a b) ⟨w,h⟩)
theorem zr7 (ls:List (List Nat))(m:Nat)(D:List (Option Int)):∃ o,IsPiv ls m D o:=by
 have go:∀ L:List Nat,(∀ q∈L,Far.get D q=none)\/∃ p∈L,∃ x,Far.get D p=some x/\∀ q∈L,∀ y,Far.get D q=some y->x<=y/\(y=x->topN ls q<=topN ls p/\(topN ls q=topN ls p->p<=q)):=λ L=>by
  induction L with
  | nil=>exact .inl λ q h=>by cases h
  | cons c r ih =>
   cases ec:Far.get D c with
   | none =>
    rcases ih with h | ⟨p,hp,x,ex,a⟩
    ·exact .inl λ q hq=>(uam.mp hq).elim (λ z=>by rw[z];exact ec) (h q)
    ·refine .inr ⟨p,uan _ hp,x,ex,λ q hq y ey=>?_⟩
     rcases uam.mp hq with z | z
     ·rw[z,ec] at ey;cases ey
     ·exact a q z y ey
   | some z0 =>
    rcases ih with h | ⟨p,hp,x,ex,a⟩
    ·refine .inr ⟨c,ual,z0,ec,λ q hq y ey=>?_⟩
     rcases uam.mp hq with z | z
     ·rw[z,ec] at ey
      cases ey
      rw[z]
      exact⟨ubf _,λ _=>⟨uai _,λ _=>uai _⟩⟩
     ·rw[h q z] at ey;cases ey
    ·by_cases k:z0<x\/(z0=x/\(topN ls p<topN ls c\/(topN ls p=topN ls c/\c<=p)))
     ·refine .inr ⟨c,ual,z0,ec,λ q hq y ey=>?_⟩
      rcases uam.mp hq with z | z
      ·rw[z,ec] at ey
       cases ey
       rw[z]
       exact⟨ubf _,λ _=>⟨uai _,λ _=>uai _⟩⟩
      ·obtain⟨a1,a2⟩:=a q z y ey
       refine⟨by left,λ e=>?_⟩
       have:=a2 (by left)
       refine⟨by left,λ e2=>?_⟩
       have:=this.2 (by left)
       left
     ·refine .inr ⟨p,uan _ hp,x,ex,λ q hq y ey=>?_⟩
      rcases uam.mp hq with z | z
      ·rw[z,ec] at ey
       cases ey
       rw[z]
       refine⟨by left,λ e=>⟨by left,λ e2=>by left⟩⟩
      ·exact a q z y ey
 rcases go (lvl ls m) with h | ⟨p,hp,x,ex,a⟩
 ·exact⟨none,λ _=>h,λ p e=>by cases e⟩
 ·exact⟨some p,λ e=>(by cases e),λ q e=>by cases e;exact⟨hp,x,ex,a⟩⟩
theorem zuu (ok:WebOk n ts)(lo:LevOk n.toNat ls){d:Int}(d0:0<=d):∀ (k j:Nat){w a b:Nat}{Da Db:List (Option Int)}{x:Int},ls.length<=j+k->Cs ts n.toNat ls d j w a b Da Db x->∃ w',w'<n.toNat/\bunB ls Da w'=true/\bunB ls Db w'=true/\∃ x y,Far.get Da w'=some x/\Far.get Db w'=some y/\x+y<=(2*(ls.length:Int)-1)*d
 | k,j,w,a,b,Da,Db,x,hk,h=>by
  have tl:=(zbm lo h.wn).1
  have tp:=h.tp
  cases nb:bunB ls Db w with
  | true =>
   obtain⟨y,ey⟩:=h.yb
   have w1:=(h.fa.2 w h.wn).1 x h.xa
   have w2:=(h.fb.2 a h.an).1 d h.ba
   obtain⟨y2,e2,l2⟩:=(h.fb.2 w h.wn).2 _ (w2.trans w1)
   rw[ey] at e2
   cases e2
   refine⟨w,h.wn,h.bu,nb,x,y,h.xa,ey,?_⟩
   have lim:=h.lim
   have m:(2*(j:Int)+1)*d<=(2*(ls.length:Int)-1)*d:=ubi (by left) d0
   have e:(2*(j:Int)+1)*d=2*(j*d)+d:=by rw[ufk,Int.one_mul,ue1]
   left
  | false =>
   obtain⟨o,po⟩:=zr7 ls (topN ls w+1) Db
   obtain⟨p,x',_,_,h'⟩:=h.step ok lo nb po
   have tl':=(zbm lo h'.wn).1
   have tp':=h'.tp
   match k,hk with
   | 0,hk=>left
   | k+1,hk =>
    obtain⟨w',a1,a2,a3,x1,y1,a4,a5,a6⟩:=zuu ok lo d0 k (j+1) (by left) h'
    exact⟨w',a1,a3,a2,y1,x1,a5,a4,by left⟩
theorem zkg (ok:WebOk n ts)(lo:LevOk n.toNat ls)(an:a<n.toNat)(bn:b<n.toNat){d:Int}(d0:0<=d)(ab:dvC ts a b=some d):∃ w,Bth n.toNat ts ls a b w/\dq ts a w+dq ts b w<=(2*(ls.length:Int)-1)*d:=by
 have st:=Cs.start ok lo (zjf ok a) (zjf ok b) an bn (by rw[show Far.get (dFC n.toNat ts a) b=dvC ts a b from getC bn];exact ab)
 obtain⟨w,hw,b1,b2,x,y,ex,ey,le⟩:=zuu ok lo d0 ls.length 0 (by left) st
 rw[show Far.get (dFC n.toNat ts a) w=dvC ts a w from getC hw] at ex
 rw[show Far.get (dFC n.toNat ts b) w=dvC ts b w from getC hw] at ey
 refine⟨w,⟨bnL_mem.mpr ⟨hw,b1⟩,bnL_mem.mpr ⟨hw,b2⟩⟩,?_⟩
 unfold dq
 rw[ex,ey];exact le
theorem zu5 {w w':Nat}(h:IsSd n.toNat ts ls a b w)(h':Bth n.toNat ts ls a b w'):dq ts a w+dq ts b w<=dq ts a w'+dq ts b w':=by
 have:=lex2 (h.2 w' h')
 left
theorem zel (ok:WebOk n ts){k:Nat}(hk:k<ts.length):∃ d,dvC ts (tieAt ts k).1.toNat (tieAt ts k).2.1.toNat=some d/\0<=d/\d<=(tieAt ts k).2.2:=by
 have m:((tieAt ts k).1.toNat,(tieAt ts k).2.1.toNat,(tieAt ts k).2.2)∈arcs ts (uaf ts.length):=arcs_mem.mpr ⟨k,uaq.mpr hk,a2_iff.mpr (.inl ⟨rfl,rfl⟩)⟩
 have D:=zbl ok (tieAt ts k).1.toNat (tieAt ts k).2.1.toNat
 have w:=(Far.Walk.nil (A:=arcs ts (uaf ts.length)) (s:=(tieAt ts k).1.toNat)).snoc m
 obtain⟨d,e,le⟩:=D.2 _ w
 exact⟨d,e,(D.1 d e).nonneg (zbh ok (allOk ts)),by left⟩
section
variable {X:Cx}
end
section
variable {X:Cx}
end
section
variable {X:Cx}
end
end L3
namespace Hx
open PySem PySem.W
structure Ch where
 i:Nat
 a:Nat
 t:Nat
 j:Nat
 u:Nat
 b:Nat:=0
def stt (p:Program)(i:Nat):Stmt:=p.main.body.getD i (.Pass ⟨0,0,0,0⟩)
def fileS:Str:=Str.ofString "/claim/cut.py"
def mdV (p:Program)(c:Ch):Value:=match stt p c.j with
 | .Assign _ (.Constant (.str x) _ _) _=>.str x c.u
 | _=>.str (Str.ofString "__main__") c.u
def sT (xs:List Value):Obj:=⟨.type "tuple",none,.seq xs.toArray 0,#[]⟩
def fE (xs:List Value):Obj:=⟨.none,none,.fields xs.toArray,#[]⟩
def tks:List Str->Nat->List Value
 | [],_=>[]
 | v::r,t=>.str v t::tks r (t+1)
def z:Value:=.int 0 0
def cdO (nm q:Str)(t:Nat)(l:Int)(na fl:Int)(k:Value)(fn:Bool)(tb vs cs tp:Value)(u:Nat):Obj :=
 ⟨.type "code",none,.fields #[.str nm t,.str q (t+1),.str fileS (t+2),.int l 0,.int na 0,z,z,.int fl 0,k,.bool fn,.int 181 0,tb,.none,vs,cs,tp,.int u 0,.int l 0,.str fileS (u+1)],#[]⟩
def ent (P:Params)(s:Str)(t:Nat)(v:Value):DictEntry:=⟨PyData.keyHash P s,.str s t,v⟩
def dO (es:List DictEntry)(n:Nat):Obj:=⟨.type "dict",none,.dict es.toArray n,#[]⟩
structure Got where
 os:List Obj
 en:List DictEntry
 tb:List Value
def fO (P:Params)(md:Value)(a t:Nat)(name:Str)(args:Arguments)(body:List Stmt)(scope:Scope)(bind:Str)(pos:Pos):Got :=
 let fd:FuncData:=⟨name,bind,args,.stmts body,scope,0,[],.none,.none,.none,.none,none,.none,.none,0⟩
 let k (vs cs:Value) (b u:Nat) (h:List Obj):Got :=
  ⟨h++[⟨.none,none,.func fd,#[]⟩,cdO name bind t pos.line args.args.length 3 (.ref a) true (.ref (a+1)) vs cs (.ref b) u,
   ⟨.type "function",none,.func ⟨name,bind,args,.stmts body,scope,3,[],.none,.none,.none,md,none,.ref (b+1),.none,0⟩,#[]⟩],
   [ent P name (u+2) (.ref (b+2))],[.int pos.line 0,.int pos.col 0,.ref (b+1)]⟩
 match localNames args scope (.stmts body) with
 | none=>k .none .none (a+2) (t+3) [sT [],fE []]
 | some (vs,cs)=>k (.ref (a+2)) (.ref (a+3)) (a+4) (t+3+vs.length+cs.length) [sT [],fE [],sT (tks vs (t+3)),sT (tks cs (t+3+vs.length))]
def mro0:List Value:=[.type "ValueError",.type "Exception",.type "BaseException",.type "object"]
def clO (P:Params)(md:Value)(a t:Nat)(base:Option Nat)(sub:List Value)(name bind:Str)(pos:Pos):Got :=
 let l:Int:=pos.line
 let w:=base.isNone
 let C:=a+9-(if w then 0 else 0)
 let bs:Value:=match base with | none=>.type "ValueError" | some b=>.ref b
 let e1:=ent P (Str.ofString "__module__") (t+7) md
 let e2:=ent P (Str.ofString "__firstlineno__") (t+11) (.int l (t+10))
 let e3:=ent P (Str.ofString "__static_attributes__") (t+12) (.ref (a+7))
 ⟨[sT [bs],⟨.type "builtin_function_or_method",none,.fields #[.builtin "type.__prepare__",.type "type"],#[]⟩,
  dO [e1,ent P (Str.ofString "__qualname__") (t+9) (.str bind (t+8)),e2,e3] 4,sT [],fE [],
  cdO name bind (t+2) l 0 0 (.ref (a+3)) false (.ref (a+4)) .none .none .none (t+5),
  ⟨.type "frame",none,.plain,#[some (.ref (a+5)),some (.ref 3),some (.ref (a+2)),none,some md,none,some (.ref 0)]⟩,sT [],
  dO (e1::e2::e3::(if w then [ent P (Str.ofString "__weakref__") (t+14) (.ref (a+10)),ent P (Str.ofString "__doc__") (t+15) .none] else [ent P (Str.ofString "__doc__") (t+13) .none])) (if w then 3 else 2),
  ⟨.type "type",none,.cls ⟨name,[bs],.ref C::(match base with | none=>mro0 | some b=>.ref b::mro0),a+8,bind,true,[],sub,false,none,false⟩,
   #[some (.ref a),none,some (.str name t),some (.str bind (t+8)),some (.builtin "ValueError.__new__"),some (.bool true)]⟩] ++
  (if w then [⟨.type "getset_descriptor",none,.fields #[.str (Str.ofString "__weakref__") (t+13),.ref C,.builtin "ExceptionGroup.__weakref__",.none],#[]⟩] else []) ++
  [⟨.type "super",none,.fields #[.ref C,.ref C,.ref C],#[]⟩,⟨.type "builtin_function_or_method",none,.fields #[.builtin "object.__init_subclass__",.ref C],#[]⟩],
  [ent P name (t+(if w then 17 else 15)) (.ref C)],[.int l 0,.int pos.col 0,.ref (a+5)]⟩
def got (p:Program)(P:Params)(cs:List Ch)(c:Ch):Got:=match stt p c.i with
 | .FunctionDef name args body _ _ _ scope _ bind pos=>fO P (mdV p c) c.a c.t name args body scope bind pos
 | .ClassDef name _ _ _ _ _ _ _ bind _ pos=>clO P (mdV p c) c.a c.t (if c.b==0 then none else some c.b) (cs.filterMap λ d=>if d.b==c.a+9 then some (.ref (d.a+9)) else none) name bind pos
 | _=>⟨[],[],[]⟩
def nameNow (p:Program)(cs:List Ch):Option Value:=match cs.getLast? with
 | some c=>some (mdV p { c with j:=c.j,u:=c.u })
 | none=>none
def setName (P:Params)(v:Option Value):List DictEntry->List DictEntry
 | e::r=>(match v with | some v=>{ e with val:=v } | none=>e)::r
 | []=>[]
def globO (p:Program)(P:Params)(cs:List Ch)(en:List DictEntry):Obj->Obj
 | ⟨c,d,.dict es n,s⟩=>⟨c,d,.dict (setName P (nameNow p cs) es.toList++en).toArray (n+en.length),s⟩
 | o=>o
def objs (p:Program)(P:Params)(B:List Obj)(cs:List Ch):List Obj :=
 let gs:=cs.map (got p P cs)
 match B with
 | b0::b1::b2::b3::r=>b0::b1::b2::globO p P cs (gs.flatMap (·.en)) b3::(r++(sT []::fE (gs.flatMap (·.tb)) ::
  cdO (Str.ofString "<module>") (Str.ofString "<module>") 182 1 0 0 (.ref 11) false (.ref 12) .none .none .none 185 ::
  ⟨.type "frame",none,.plain,#[some (.ref 13),some (.ref 3),some (.ref 3),none,some (.str (Str.ofString "__main__") 164),none,some (.ref 0)]⟩::gs.flatMap (·.os)))
 | _=>[]
def spl:List Obj->List Obj × List Obj
 | []=>([],[])
 | x::r=>(x::(spl r).2,(spl r).1)
def braun:Nat->List Obj->BT
 | 0,_=>.nil
 | _+1,[]=>.nil
 | f+1,o::r=>.node o (braun f (spl r).1) (braun f (spl r).2)
structure Cut where
 k:Nat
 n:Nat
 t:Nat
def hpT (p:Program)(B:Params->List Obj)(cs:List Ch)(c:Cut)(P:Params):Heap:=absHeap (braun 12 (objs p P (B P) (cs.take c.k))) c.n {}
def stT (p:Program)(B:Params->List Obj)(D:Drawn)(cs:List Ch)(c:Cut)(w:World)(os:OsState):SharedT :=
 ⟨braun 12 (objs p w.params (B w.params) (cs.take c.k)),c.n,{},ueu [],D,c.t,os⟩
def env (p:Program):Env:={ scope:=p.main.scope,locals:=mainNs,globals:=mainNs,cells:=[],code:=.ref 13,frame:=some 14 }
def cE (p:Program):Code:=.body p.main.body (env p)
def pos0:Pos:=⟨0,0,0,0⟩
def posOf (p:Program):Nat->Pos
 | 0=>pos0
 | k+1=>match stt p k with
  | .Assign [.Name _ q] _ _=>q
  | .FunctionDef _ _ _ _ _ _ _ _ _ q=>q
  | .ClassDef _ _ _ _ _ _ _ _ _ _ q=>q
  | _=>pos0
def ann0:Option Value:=some (.ref 6)
def PieceT (p:Program)(B:Params->List Obj)(D:Drawn)(cs:List Ch)(a b:Cut)(N:Nat):Prop:=∀ w:World,
 (λ os=>segRunT treeTable p w 11 ann0 1 N (stT p B D cs a w os) (piecesOf ((p.main.body.drop a.k).take (b.k-a.k)) (env p) (cE p) (posOf p a.k) [topFrame pos0]))=λ os=>some (Flow.next,stT p B D cs b w os,cE p,posOf p b.k)
def PreT (p:Program)(B:Params->List Obj)(D:Drawn)(h:Params->Heap)(t:Nat)(cs:List Ch)(a:Cut):Prop:=∀ w:World,
 (λ os=>topGo treeTable p w 11 ann0 12 ⟨h w.params,ueu [],D,t,os⟩ (topStub p))=λ os=>some ((stT p B D cs a w os).abs,⟨denote treeTable (cE p),cE p,pos0,[topFrame pos0]⟩)
def BlockT (p:Program):Prop:=∀ (w:World)(s:Shared),segRun treeTable p w 11 ann0 1 1 s (blockOf p.main.body (env p) (cE p) pos0 [topFrame pos0])=some (.next,s,cE p,pos0)
noncomputable def boots (P:Params):List Obj:=[boot_o_0 P,boot_o_1 P,boot_o_2 P,boot_o_3 P,boot_o_4 P,boot_o_5 P,boot_o_6 P,boot_o_7 P,boot_o_8 P,boot_o_9 P,boot_o_10 P]
def qv (p:Program)(is:List Nat):Program:={ p with main:={ p.main with body:=is.map (stt p) } }
def nmO:Stmt->Option Str
 | .FunctionDef n ..=>some n
 | .ClassDef n ..=>some n
 | _=>none
def lz (p:Program)(is:List Nat)(n:Nat):List Str:=(uaf n).filterMap λ i=>if is.contains i then none else nmO (stt p i)
def kk (a:Nat)(g:Got):List (Nat × Obj):=match g.os with
 | [_,_,_,c,f]=>[(a+3,c),(a+4,f)]
 | [_,_,_,_,_,c,f]=>[(a+5,c),(a+6,f)]
 | _::_::_::_::_::_::_::_::d::C::_=>[(a+8,d),(a+9,C)]
 | _=>[]
def Kf (p:Program)(B:Params->List Obj)(cs:List Ch)(P:Params):Frag :=
 let gs:=cs.map (got p P cs)
 (3,globO p P cs (gs.flatMap (·.en)) ((B P).getD 3 (sT [])))::(cs.zip gs).flatMap λ c=>kk c.1.a c.2
def LookA (p:Program)(B:Params->List Obj)(D:Drawn)(h:Params->Heap)(cs:List Ch)(c:Cut):Prop:=∀ w:World,(λ os =>
  (staticsOk (importedModules p.main.body) (h w.params) (hpT p B cs c w.params)&&namesBound p (hpT p B cs c w.params)&&gensDone ⟨hpT p B cs c w.params,ueu [],D,c.t,os⟩&&laidKept (h w.params) (hpT p B cs c w.params)))=λ _:OsState=>true
def LookB (p:Program)(B:Params->List Obj)(D:Drawn)(cs:List Ch)(c:Cut)(is:List Nat)(rc:WRecords):Prop:=∀ w:World,(λ os =>
  openSeen (qv p is) (lz p is c.k) (importedModules p.main.body) (λ s=>xlAt (qv p is) [] s&&recOk rc s) true ⟨hpT p B cs c w.params,ueu [],D,c.t,os⟩)=λ _:OsState=>openGood (qv p is) (lz p is c.k)
def LookC (p:Program)(B:Params->List Obj)(cs:List Ch)(c:Cut)(as:List Nat):Prop:=∀ w:World,as.map (hpT p B cs c w.params).get?=(Kf p B cs w.params).map λ p=>some p.2
section
variable {p:Program}{D:Drawn}{cs:List Ch}
theorem ztk {w:World}{s:Shared}{c:Code}{q:Pos}:topRun treeTable p w 11 ann0 2 s ⟨doneF .next,c,q,[topFrame pos0]⟩=some s:=rfl
theorem zpo {w:World}{os:OsState}{c:Cut}(h:p.main.body.drop c.k=[]) :
  topRun treeTable p w 11 ann0 2 (stT p boots boot_drawn cs c w os).abs (restOf (p.main.body.drop c.k) (env p) (cE p) (posOf p c.k) [topFrame pos0])=some (stT p boots boot_drawn cs c w os).abs:=by
 rw[h];exact piece_nil ztk
theorem chain {w:World}{os:OsState}{a b:Cut}{N M:Nat}{r:Shared}(h:PieceT p boots boot_drawn cs a b N)(le:a.k<=b.k)
  (k:topRun treeTable p w 11 ann0 M (stT p boots boot_drawn cs b w os).abs (restOf (p.main.body.drop b.k) (env p) (cE p) (posOf p b.k) [topFrame pos0])=some r) :
  topRun treeTable p w 11 ann0 (N+M) (stT p boots boot_drawn cs a w os).abs (restOf (p.main.body.drop a.k) (env p) (cE p) (posOf p a.k) [topFrame pos0])=some r:=by
 have e:p.main.body.drop a.k=(p.main.body.drop a.k).take (b.k-a.k)++p.main.body.drop b.k:=by
  have x:=(List.take_append_drop (b.k-a.k) (p.main.body.drop a.k)).symm
  rw[List.drop_drop,Nat.add_sub_cancel' le] at x;exact x
 rw[e];exact piece_app (segRun_of (congrFun (h w) os)) k
theorem zs1 {w:World}{os:OsState}{M:Nat}{r:Shared}(pre:PreT p boots boot_drawn boot_heap boot_toks cs ⟨0,15,187⟩)(bl:BlockT p)
  (k:topRun treeTable p w 11 ann0 M (stT p boots boot_drawn cs ⟨0,15,187⟩ w os).abs (restOf (p.main.body.drop 0) (env p) (cE p) (posOf p 0) [topFrame pos0])=some r) :
  topRun treeTable p w 11 ann0 (12+(1+M)) ⟨boot_heap w.params,ueu [],boot_drawn,boot_toks,os⟩ (topStub p)=some r :=
 go_top (congrFun (pre w) os) (piece_block (bl w _) k)
theorem zte {is as:List Nat}{rc:WRecords}{c:Cut}{M N:Nat}{e:∀ P,as=(Kf p boots cs P).map (·.1)}
  (op:opening p=plainProg p.main.scope.names) (hN:Nat.ble 600 N=true) (fe:∀ s,fenceModules? p s=some s)
  (size:∀ w:World,((boot_heap w.params).isNs mainGlobals&&(ueu []:Array GenState).size==0,(boot_heap w.params).objs.size,(boot_heap w.params).nsMap mainGlobals "__annotations__")=(true,11,ann0))
  (run:∀ (w:World)(os:OsState),topRun treeTable p w 11 ann0 M ⟨boot_heap w.params,ueu [],boot_drawn,boot_toks,os⟩ (topStub p)=some (stT p boots boot_drawn cs c w os).abs) (le:Nat.ble M N=true)
  (hA:LookA p boots boot_drawn boot_heap cs c) (hB:LookB p boots boot_drawn cs c is rc) (hC:LookC p boots cs c as) :
  LeftO p (qv p is) (lz p is c.k) (λ s=>xlAt (qv p is) [] s&&recOk rc s) (Hook.obs (kHook (Kf p boots cs) as e)) (Hook.val (kHook (Kf p boots cs) as e)) N :=
 LeftO.of_pieces (H₀:=boot_heap) (H₁:=hpT p boots cs c) (boot_open op hN fe) size run le λ w=>funext λ os=>by
  have a:=congrFun (hA w) os
  have b:=congrFun (hB w) os
  have c:=hC w
  exact looks_pair a (looks_pair b c)
end
end Hx
set_option hygiene false
local macro_rules | `(tactic| exists $k, $s) => `(tactic| (refine zug (k := $k) D $s (fun vs H Q E h => by first | (obtain ⟨_, rfl, _⟩ := h; rfl) | (obtain ⟨_, _, rfl, _⟩ := h; rfl) | (obtain ⟨_, _, _, rfl, _⟩ := h; rfl) | (obtain ⟨_, _, _, _, rfl, _⟩ := h; rfl) | (obtain ⟨_, _, _, _, _, rfl, _⟩ := h; rfl) | (obtain ⟨_, _, _, _, _, _, rfl, _⟩ := h; rfl) | (obtain ⟨_, _, _, _, _, _, _, rfl, _⟩ := h; rfl) | (obtain ⟨_, _, _, _, _, _, _, _, rfl, _⟩ := h; rfl) | (obtain ⟨_, _, _, _, _, _, _, _, _, rfl, _⟩ := h; rfl) | (obtain ⟨_, _, _, _, _, _, _, _, _, _, rfl, _⟩ := h; rfl) | (obtain ⟨_, _, _, _, _, _, _, _, _, _, _, rfl, _⟩ := h; rfl) | (obtain ⟨_, _, _, _, _, _, _, _, _, _, _, _, rfl, _⟩ := h; rfl) | (obtain ⟨_, _, _, _, _, _, _, _, _, _, _, _, _, rfl, _⟩ := h; rfl) | (obtain ⟨_, _, _, _, _, _, _, _, _, _, _, _, _, _, rfl, _⟩ := h; rfl) | (obtain ⟨_, _, _, _, _, _, _, _, _, _, _, _, _, _, _, rfl, _⟩ := h; rfl)) (fun f cdv A outer s H vs Q E hr h => ?_); have nd := ($s).nd))
local macro_rules | `(tactic| exists $k, $s, $s2) => `(tactic| refine zug (k := $k) D $s (fun vs H Q E h => ?_) (fun f cdv A outer s H vs Q E hr h => ?_))
local macro_rules | `(‹$n:num›) => `(Ok P w K mg base $n)
set_option hygiene true
namespace Me
open PySem PySem.Spec PyProof.Rows L2 L3
def top (i:Nat):Stmt:=uaa.main.body.getD i (.Pass ⟨0,0,0,0⟩)
abbrev s_is_whole:Stmt:=top 1
theorem sc_is_whole:FnScope ["thing"] ["thing"] (defScope s_is_whole):=by right
abbrev s_is_rising:Stmt:=top 2
theorem sc_is_rising:FnScope ["parts"] ["parts"] (defScope s_is_rising):=by right
abbrev s_is_tuple_of:Stmt:=top 3
theorem sc_is_tuple_of:FnScope ["thing","many"] ["thing","many"] (defScope s_is_tuple_of):=by right
abbrev s_is_place:Stmt:=top 9
theorem sc_is_place:FnScope ["web","thing"] ["web","thing"] (defScope s_is_place):=by right
abbrev s_whole:Stmt:=top 10
theorem sc_whole:FnScope ["web"] ["web"] (defScope s_whole):=by right
abbrev s_tie_between:Stmt:=top 11
theorem sc_tie_between:FnScope ["web","a","b","ends","number","tie"] ["web","a","b"] (defScope s_tie_between):=by right
abbrev s_are_unlike_places:Stmt:=top 13
theorem sc_are_unlike_places:FnScope ["web","thing"] ["web","thing"] (defScope s_are_unlike_places):=by right
abbrev s_ties_along:Stmt:=top 14
theorem sc_ties_along:FnScope ["web","places"] ["web","places"] (defScope s_ties_along):=by right
abbrev s_way_length:Stmt:=top 15
theorem sc_way_length:FnScope ["web","way"] ["web","way"] (defScope s_way_length):=by right
abbrev s_tie_weights:Stmt:=top 16
theorem sc_tie_weights:FnScope ["web","weights","weight","tie"] ["web"] (defScope s_tie_weights):=by right
abbrev s_cost_with:Stmt:=top 17
theorem sc_cost_with:FnScope ["cost","length","weight"] ["cost","length","weight"] (defScope s_cost_with):=by right
abbrev s_reached_from:Stmt:=top 18
theorem sc_reached_from:FnScope ["web","keep","root","weights","costs","ahead","again","tie","a","b","length","one","other","cost"] ["web","keep","root"] (defScope s_reached_from):=by right
abbrev s_fars_from:Stmt:=top 19
theorem sc_fars_from:FnScope ["web","keep","root","costs","ahead"] ["web","keep","root"] (defScope s_fars_from):=by right
abbrev s_far:Stmt:=top 20
theorem sc_far:FnScope ["web","keep","a","b"] ["web","keep","a","b"] (defScope s_far):=by right
abbrev s_tree_from:Stmt:=top 21
theorem sc_tree_from:FnScope ["web","keep","root","costs","ahead"] ["web","keep","root"] (defScope s_tree_from):=by right
abbrev s_the_way:Stmt:=top 22
theorem sc_the_way:FnScope ["web","keep","a","b","tree","way"] ["web","keep","a","b"] (defScope s_the_way):=by right
abbrev s_led_to_root:Stmt:=top 23
theorem sc_led_to_root:FnScope ["web","keep","tree","root","place","way","ahead"] ["web","keep","tree","root","place"] (defScope s_led_to_root):=by right
abbrev s_is_level:Stmt:=top 25
theorem sc_is_level:FnScope ["web","thing"] ["web","thing"] (defScope s_is_level):=by right
abbrev s_lies_within:Stmt:=top 26
theorem sc_lies_within:FnScope ["level","ahead"] ["level","ahead"] (defScope s_lies_within):=by right
abbrev s_are_levels:Stmt:=top 27
theorem sc_are_levels:FnScope ["web","thing"] ["web","thing"] (defScope s_are_levels):=by right
abbrev s_need_levels:Stmt:=top 28
theorem sc_need_levels:FnScope ["web","levels"] ["web","levels"] (defScope s_need_levels):=by right
abbrev s_top_of:Stmt:=top 29
theorem sc_top_of:FnScope ["levels","place"] ["levels","place"] (defScope s_top_of):=by right
abbrev s_nearest_of:Stmt:=top 30
theorem sc_nearest_of:FnScope ["levels","number","fars"] ["levels","number","fars"] (defScope s_nearest_of):=by right
abbrev s_is_bunched:Stmt:=top 31
theorem sc_is_bunched:FnScope ["levels","fars","w","behind"] ["levels","fars","w"] (defScope s_is_bunched):=by right
abbrev s_pivot_by:Stmt:=top 32
theorem sc_pivot_by:FnScope ["levels","i","fars","near"] ["levels","i","fars"] (defScope s_pivot_by):=by right
abbrev s_web_fars:Stmt:=top 33
theorem sc_web_fars:FnScope ["web","place"] ["web","place"] (defScope s_web_fars):=by right
abbrev s_bunch:Stmt:=top 34
theorem sc_bunch:FnScope ["web","levels","v","fars"] ["web","levels","v"] (defScope s_bunch):=by right
abbrev s_climb:Stmt:=top 35
theorem sc_climb:FnScope ["web","levels","u","v","here","there","told","w","start","end","length"] ["web","levels","u","v"] (defScope s_climb):=by right
abbrev s_heights_from:Stmt:=top 37
theorem sc_heights_from:FnScope ["web","keep","a","roof"] ["web","keep","a","roof"] (defScope s_heights_from):=by right
abbrev s_tree_ties:Stmt:=top 39
theorem sc_tree_ties:FnScope ["web","tree"] ["web","tree"] (defScope s_tree_ties):=by right
abbrev s_need_times:Stmt:=top 41
theorem sc_need_times:FnScope ["t"] ["t"] (defScope s_need_times):=by right
abbrev s_not_kept:Stmt:=top 42
theorem sc_not_kept:FnScope ["web","keep"] ["web","keep"] (defScope s_not_kept):=by right
abbrev s_way_of:Stmt:=top 43
theorem sc_way_of:FnScope ["web","keep","tie","a","b","length"] ["web","keep","tie"] (defScope s_way_of):=by right
abbrev s_is_within:Stmt:=top 44
theorem sc_is_within:FnScope ["web","tie","t","way"] ["web","tie","t","way"] (defScope s_is_within):=by right
abbrev s_heights_of:Stmt:=top 45
theorem sc_heights_of:FnScope ["web","keep","tie","t","a","b","length"] ["web","keep","tie","t"] (defScope s_heights_of):=by right
abbrev s_times_told:Stmt:=top 46
theorem sc_times_told:FnScope ["web","keep","t","ways","tie","way"] ["web","keep","t"] (defScope s_times_told):=by right
abbrev s_common_part:Stmt:=top 47
theorem sc_common_part:FnScope ["one","other","rest"] ["one","other"] (defScope s_common_part):=by right
abbrev s_least_ratio:Stmt:=top 48
theorem sc_least_ratio:FnScope ["web","keep","top","bottom","tie","a","b","length","grown","part"] ["web","keep"] (defScope s_least_ratio):=by right
abbrev s_bunches_of:Stmt:=top 50
theorem sc_bunches_of:FnScope ["web","levels"] ["web","levels"] (defScope s_bunches_of):=by right
abbrev s_cluster_tree:Stmt:=top 51
theorem sc_cluster_tree:FnScope ["web","bunches","w","tree"] ["web","bunches","w"] (defScope s_cluster_tree):=by right
abbrev s_cluster_trees:Stmt:=top 52
theorem sc_cluster_trees:FnScope ["web","bunches"] ["web","bunches"] (defScope s_cluster_trees):=by right
abbrev s_ties_of_trees:Stmt:=top 53
theorem sc_ties_of_trees:FnScope ["web","trees","ties","root","tree"] ["web","trees"] (defScope s_ties_of_trees):=by right
abbrev s_level_keep:Stmt:=top 54
theorem sc_level_keep:FnScope ["web","levels"] ["web","levels"] (defScope s_level_keep):=by right
abbrev s_best_side:Stmt:=top 55
theorem sc_best_side:FnScope ["web","bunches","tie","a","b","length"] ["web","bunches","tie"] (defScope s_best_side):=by right
abbrev s_level_paper:Stmt:=top 56
theorem sc_level_paper:FnScope ["web","levels","bunches","trees","ties"] ["web","levels"] (defScope s_level_paper):=by right
abbrev s_is_rooted:Stmt:=top 57
theorem sc_is_rooted:FnScope ["web","pair","root","tree"] ["web","pair"] (defScope s_is_rooted):=by right
abbrev s_side_right:Stmt:=top 58
theorem sc_side_right:FnScope ["web","keep","t","trees","tie","side","a","b","length","one","other"] ["web","keep","t","trees","tie","side"] (defScope s_side_right):=by right
abbrev s_trees_right:Stmt:=top 59
theorem sc_trees_right:FnScope ["web","keep","t","paper","trees","sides","ties"] ["web","keep","t","paper"] (defScope s_trees_right):=by right
abbrev s__law_pot:Stmt:=top 61
theorem sc__law_pot:FnScope ["script","k","cell","prime"] ["script","k"] (defScope s__law_pot):=by right
abbrev s__law_take:Stmt:=top 62
theorem sc__law_take:FnScope ["pot","many","found"] ["pot","many"] (defScope s__law_take):=by right
abbrev s__law_length:Stmt:=top 63
theorem sc__law_length:FnScope ["pot","way"] ["pot","way"] (defScope s__law_length):=by right
abbrev s__law_tied:Stmt:=top 64
theorem sc__law_tied:FnScope ["pot","n","style","a","b","beside"] ["pot","n","style","a","b"] (defScope s__law_tied):=by right
abbrev s__law_order:Stmt:=top 65
theorem sc__law_order:FnScope ["pot","many","left","found","turn"] ["pot","many"] (defScope s__law_order):=by right
abbrev s__law_web:Stmt:=top 66
theorem sc__law_web:FnScope ["pot","most","n","style","way","names","ties","b","a","one","other"] ["pot","most"] (defScope s__law_web):=by right
abbrev s__law_levels:Stmt:=top 67
theorem sc__law_levels:FnScope ["pot","n","found","turn","share"] ["pot","n"] (defScope s__law_levels):=by right
abbrev s__law_most:Stmt:=top 68
theorem sc__law_most:FnScope ["pot","k"] ["pot","k"] (defScope s__law_most):=by right
abbrev s__law_tie_right:Stmt:=top 69
theorem sc__law_tie_right:FnScope ["web","levels","keep","number","a","b","length","row","place","one","other","gone","more"] ["web","levels","keep","number"] (defScope s__law_tie_right):=by right
abbrev s__law_kept_right:Stmt:=top 70
theorem sc__law_kept_right:FnScope ["web","levels","keep","most","ratio"] ["web","levels","keep"] (defScope s__law_kept_right):=by right
abbrev s_law:Stmt:=top 71
theorem sc_law:FnScope ["script","k","pot","web","levels","keep","left","at","place","other","gone"] ["script"] (defScope s_law):=by right
section
variable {P:Program}{w:World}{K:uac}{mg:Str->Option Value}{base:Heap}
theorem zi6 (T:Bi mg)(D:DefOk K mg "_law_take" s__law_take ["pot","many"]):‹1› "_law_take" ["pot","many"] spTake:=by
 exists 0,sc__law_take
 obtain⟨p,m,rfl,⟨a,b,hp,ha,hb,hb2⟩,hm,hm2,q⟩:=h
 refine⟨_,(zac (zbb (zao zhb (zaq zay (pv 0) zae (λ _ _=>rfl)) zae (nomark _)) (zac (zap (i:=2) nd rfl (uaw rfl) (zax zcl (zaq zay (pv 0) zae (λ _ _=>rfl)) (pv 1))) (zac (zbn (zax zof (zaq zay (pv 0) zae (λ _ _=>rfl)) (pv 1)) (zix (pv 0) zae zdj)) (zaf (zaj (pv 2))))) zar) (zac (zbn (zax zcl (zax zbt (zax zce (zaq zay (pv 0) zae (λ _ _=>rfl)) zae) zae) zae) (zix (pv 0) zae zdj)) (zaf (zaj (zax zcl (zax zof (zax zcl (zax zcm (zaq zay (pv 0) zae (λ _ _=>rfl)) zae) zae) zae) (pv 1)))))),?_⟩
 refine⟨_,rfl,p,_,_,_,rfl,rfl,SqL.of hp,rfl,_,_,rfl,rfl,_,rfl,?_⟩
 refine ite2 (λ c=>?_) (λ c=>?_)
 ·refine⟨_,rfl,p,_,_,_,rfl,rfl,SqL.of hp,rfl,_,rfl,_,_,rfl,rfl,hm,?_⟩
  refine⟨_,rfl,p,_,_,_,rfl,rfl,SqL.of hp,rfl,_,rfl,_,_,rfl,rfl,⟨hm,hm2⟩,?_⟩
  refine⟨_,rfl,p,_,0,0,rfl,rfl,hp,rfl,_,rfl,?_⟩
  refine q _ _ (udg _ (by left)) (udc _ hm) But.upd ⟨a / m,b,zai,Int.ediv_nonneg ha (by left),hb,hb2⟩
 ·refine⟨_,rfl,p,_,_,_,rfl,rfl,SqL.of hp,rfl,_,_,rfl,rfl,.inr ⟨by decide,by decide⟩,_,_,rfl,rfl,_,_,rfl,rfl,(by show (0:Int)<2147483647;decide),?_⟩
  refine⟨_,rfl,p,_,1,1,rfl,rfl,hp,rfl,?_⟩
  have n1:0<=(b*48271+12820163)%2147483647:=udg _ (by decide)
  have n2:(b*48271+12820163)%2147483647<2147483647:=udc _ (by decide)
  refine⟨_,rfl,p,_,_,_,rfl,rfl,SqL.of zai,rfl,_,_,rfl,rfl,⟨by decide,by decide,by left⟩,_,_,rfl,rfl,(by show (0:Int)<2147483629;decide),_,_,rfl,rfl,⟨by decide,by decide⟩,_,rfl,_,_,rfl,rfl,hm,?_⟩
  exact q _ _ (udg _ (by left)) (udc _ hm) But.upd ⟨a,_,zai,ha,n1,n2⟩
theorem zkr (T:Bi mg)(D:DefOk K mg "_law_pot" s__law_pot ["script","k"]):‹1› "_law_pot" ["script","k"] (spPot K):=by
 exists 0,sc__law_pot
 obtain⟨a,k,ns,rfl,hS,hk0,hk1,q⟩:=h
 have hl:(ns.map V.int).length=ns.length:=uae _
 refine⟨_,(zac (zap (i:=2) nd rfl (uaw rfl) zae) (zac (zbb (zao zec (pv 1) (zal zas rfl T.z_len (by symm) (zaa (pv 0) zab)) (nomark _)) (zaf (zap (i:=2) nd rfl (uaw rfl) (zax zcl (zaq zay (pv 0) (pv 1) (λ _ _=>rfl)) (zax zod (zax zod (zax zcm zae zae) (zax zcm zae zae)) (zax zcm zae zae))))) zar) (zac (zap (i:=3) nd rfl (uaw rfl) (zaq zay (zex (zaa zae (zaa zae (zaa zae (zaa zae (zaa zae zab)))))) (zax zcl (pv 1) zae) (λ _ _=>rfl))) (zaf (zaj (zex (zaa (zal (zfm rfl) rfl T.z_max (by symm) (zaa zae (zaa (zax zc7 (pv 2) (zax zcm zae zae)) zab))) (zaa (zax zcl (zax zcm (zax zbt (zax zbt (zax zcl (pv 2) (pv 3)) (zax zce zae (pv 1))) zae) zae) zae) zab)))))))),?_⟩
  -- behind the test: cell is some number that is not below nought
 have rest : ∀ (cell : Int), 0 <= cell → ∀ (σ : L2.St), σ = [some (.ref a), some (.int k), some (.int cell), none] →
     (tSeq (tAsg (tOp (rIxL K) (tLst (tCons (tC (.int 2147483629)) (tCons (tC (.int 2147483587)) (tCons (tC (.int 2147483579)) (tCons (tC (.int 2147483563)) (tCons (tC (.int 2147483549)) tNil)))))) (tOp (rI (λ _ j=>0<j) λ i j=>.int (i%j)) (tVar 1) (tC (.int 5)))) (gName 3))
       (tRet (tLst (tCons (tCB (λ xs H Q=>∃ i j,xs=[.int i,.int j]/\Q (.int (if j>i then j else i)) H) (tCons (tC (.int 0)) (tCons (tOp (rI0 λ i j=>.int (i-j)) (tVar 2) (tOp (rI CPow λ i j=>.int (i^j.toNat)) (tC (.int 10)) (tC (.int 18)))) tNil)))
         (tCons (tOp (rI (λ _ j=>0<j) λ i j=>.int (i%j)) (tOp (rI CPow λ i j=>.int (i^j.toNat)) (tOp (rI0 λ i j=>.int (i+j)) (tOp (rI0 λ i j=>.int (i+j)) (tOp (rI (λ _ j=>0<j) λ i j=>.int (i%j)) (tVar 2) (tVar 3)) (tOp (rI CMul λ i j=>.int (i*j)) (tC (.int 7919)) (tVar 1))) (tC (.int 11))) (tC (.int 3))) (tC (.int 2147483647))) tNil)))))
       { nx:=λ _ H'=>Q .non H',rt:=Q } σ H:=by
  intro cell hc σ hσ
  subst hσ
  refine⟨(by show 5<=sizeLine;decide),λ l hl=>?_⟩
  refine⟨_,rfl,_,_,rfl,rfl,(by show (0:Int)<5;decide),?_⟩
  have m0:0<=k%5:=udg _ (by decide)
  have m1:k%5<5:=udc _ (by decide)
  have pr:∃ v:Int,atI [V.int 2147483629,V.int 2147483587,V.int 2147483579,V.int 2147483563,V.int 2147483549] (k%5)=some (.int v)/\2147483549<=v/\v<=2147483629:=by
   have:k%5=0\/k%5=1\/k%5=2\/k%5=3\/k%5=4:=by left
   rcases this with e | e | e | e | e <;> rw[e] <;> exact⟨_,rfl,by decide,by decide⟩
  obtain⟨v,hv,v1,v2⟩:=pr
  refine⟨l,_,_,_,rfl,rfl,SqL.of zai,hv,?_⟩
  have S1:Same H (upd H l (.lst [V.int 2147483629,V.int 2147483587,V.int 2147483579,V.int 2147483563,V.int 2147483549])):=zam hl
  refine⟨_,rfl,_,_,rfl,rfl,⟨by decide,by decide,by decide⟩,_,_,rfl,rfl,_,_,rfl,?_⟩
  refine⟨_,rfl,_,rfl,_,_,rfl,rfl,(by show (0:Int)<v;left),_,rfl,_,_,rfl,rfl,.inl ⟨by decide,by decide⟩,_,_,rfl,rfl,_,_,rfl,rfl,_,_,rfl,rfl,⟨by decide,by decide,?_⟩,_,_,rfl,rfl,(by show (0:Int)<2147483647;decide),?_⟩
  ·have c0:0<=cell%v:=udg _ (by left)
   have c1:cell%v<v:=udc _ (by left)
   left
  refine⟨(by show 2<=sizeLine;decide),λ l2 hl2=>?_⟩
  refine q l2 _ (S1.trans (zam hl2)) (S1.free hl2) ⟨_,_,zai,?_,udg _ (by decide),udc _ (by decide)⟩
  split <;> left
 refine⟨_,rfl,_,rfl,a,_,rfl,.inl hS,_,_,rfl,rfl,_,rfl,?_⟩
 refine ite2 (λ c=>?_) (λ c=>?_)
 ·have c':k<(((ns.map V.int).length:Nat):Int):=of_decide_eq_true c
  rw[hl] at c'
  obtain⟨v,hv⟩:∃ v:Int,atI (ns.map V.int) k=some (.int v):=by
   have hk:k.toNat<ns.length:=by left
   have ek:k=((k.toNat:Nat):Int):=by left
   have z:atI (ns.map V.int) ((k.toNat:Nat):Int)=some (.int ns[k.toNat]):=zp3 (by rw[uaj,uad hk] <;> rfl)
   rw[← ek] at z
   exact⟨_,z⟩
  refine⟨_,rfl,_,rfl,a,_,_,_,rfl,rfl,hS,hv,?_⟩
  refine⟨_,_,rfl,rfl,⟨by decide,by decide,by decide⟩,_,_,rfl,rfl,⟨by decide,by decide,by decide⟩,_,_,rfl,rfl,mulB,_,_,rfl,rfl,⟨by decide,by decide,by decide⟩,_,_,rfl,rfl,mulB2,_,_,rfl,rfl,posB,?_⟩
  exact rest _ (udg _ (by have:=posB;left)) _ rfl
 ·exact rest 5 (by decide) _ rfl
theorem zf5 (T:Bi mg)(D:DefOk K mg "_law_length" s__law_length ["pot","way"])(O__law_take:‹1› "_law_take" ["pot","many"] spTake):‹2› "_law_length" ["pot","way"] spLength:=by
 exists 1,sc__law_length
 obtain⟨p,y,rfl,hp,hy0,hy5,q⟩:=h
 refine⟨_,(zac (zbb (zao zec (pv 1) zae (nomark _)) (zaf (zaj (zaq zay (zex (zaa zae (zaa (zax zbt zae (zad O__law_take hr rfl (zaa (pv 0) (zaa zae zab)))) zab))) (pv 1) (λ _ _=>rfl)))) zar) (zac (zbb (zao zcc (pv 1) zae (nomark _)) (zaf (zaj (zax zbt zae (zad O__law_take hr rfl (zaa (pv 0) (zaa zae zab)))))) zar) (zac (zbb (zao zcc (pv 1) zae (nomark _)) (zaf (zaj (zaq zay (zex (zaa zae (zaa zae (zaa zae (zaa (zax zcm zae zae) (zaa (zax zc7 (zax zcm zae zae) zae) (zaa (zax zcm zae zae) zab))))))) (zad O__law_take hr rfl (zaa (pv 0) (zaa zae zab))) (λ _ _=>rfl)))) zar) (zaf (zaj (zax zbt zae (zax zce (zad O__law_take hr rfl (zaa (pv 0) (zaa (zax zcm zae zae) zab))) (zad O__law_take hr rfl (zaa (pv 0) (zaa (zax zbt (zax zcm zae zae) zae) zab)))))))))),?_⟩
 refine⟨_,rfl,_,_,rfl,rfl,_,rfl,?_⟩
 refine ite2 (λ c=>?_) (λ c=>?_)
 ·have c':y<2:=of_decide_eq_true c
  refine⟨_,rfl,p,3,rfl,hp,by decide,by decide,λ r H1 r0 r1 b1 p1=>?_⟩
  refine⟨_,_,rfl,rfl,(by show 2<=sizeLine;decide),λ l hl=>?_⟩
  have at_:∃ v:Int,atI [V.int 1,V.int (1+r)] y=some (.int v)/\1<=v/\v<=10^18:=by
   have:y=0\/y=1:=by left
   rcases this with e | e <;> rw[e]
   ·exact⟨1,rfl,by symm,by symm⟩
   ·exact⟨1+r,rfl,by left,by left⟩
  obtain⟨v,hv,v0,v1⟩:=at_
  refine⟨_,rfl,l,_,_,_,rfl,rfl,SqL.of zai,hv,?_⟩
  obtain⟨a',b',e',z⟩:=p1
  exact q v _ v0 v1 (b1.trans (But.new hl)) ⟨a',b',(zam hl) _ _ e',z⟩
 refine⟨_,rfl,rfl,_,rfl,?_⟩
 refine ite2 (λ c2=>?_) (λ c2=>?_)
 ·refine⟨_,rfl,p,50,rfl,hp,by decide,by decide,λ r H1 r0 r1 b1 p1=>?_⟩
  exact⟨_,_,rfl,rfl,q _ _ (by left) (by left) b1 p1⟩
 refine⟨_,rfl,rfl,_,rfl,?_⟩
 refine ite2 (λ c3=>?_) (λ c3=>?_)
 ·refine⟨_,_,rfl,rfl,⟨by decide,by decide,by decide⟩,_,_,rfl,rfl,⟨by decide,by decide,by decide⟩,_,_,rfl,rfl,_,_,rfl,rfl,⟨by decide,by decide,by decide⟩,(by show 6<=sizeLine;decide),λ l hl=>?_⟩
  have hp':Pot (upd H l (.lst [V.int 1,V.int 2,V.int 3,V.int ((10:Int)^(18:Int).toNat),V.int ((10:Int)^(18:Int).toNat-1),V.int ((10:Int)^(17:Int).toNat)])) p:=by
   obtain⟨a',b',e',z⟩:=hp
   exact⟨a',b',(zam hl) _ _ e',z⟩
  have lp:l≠p:=by
   obtain⟨a',b',e',z⟩:=hp
   exact λ e=>by rw[e,e'] at hl;cases hl
  refine⟨_,rfl,p,6,rfl,hp',by decide,by decide,λ r H1 r0 r1 b1 p1=>?_⟩
  have at_:∃ v:Int,atI [V.int 1,V.int 2,V.int 3,V.int ((10:Int)^(18:Int).toNat),V.int ((10:Int)^(18:Int).toNat-1),V.int ((10:Int)^(17:Int).toNat)] r=some (.int v)/\1<=v/\v<=10^18:=by
   have:r=0\/r=1\/r=2\/r=3\/r=4\/r=5:=by left
   rcases this with e | e | e | e | e | e <;> rw[e] <;> exact⟨_,rfl,by symm,by symm⟩
  obtain⟨v,hv,v0,v1⟩:=at_
  refine⟨l,_,_,_,rfl,rfl,SqL.of (b1 _ _ lp zai),hv,?_⟩
  exact q v _ v0 v1 ((But.new hl).trans b1) p1
 ·refine⟨_,rfl,_,_,rfl,rfl,⟨by decide,by decide,by decide⟩,p,_,rfl,hp,by decide,by decide,λ r H1 r0 r1 b1 p1=>?_⟩
  refine⟨_,rfl,_,_,rfl,rfl,⟨by decide,by decide,by decide⟩,_,_,rfl,rfl,p,_,rfl,p1,by decide,by decide,λ r2 H2 r20 r21 b2 p2=>?_⟩
  have e9:((10:Int)^(9:Int).toNat)=1000000000:=by decide
  rw[e9] at r1 r21
  refine⟨_,_,rfl,rfl,.inl ⟨by left,by left⟩,_,_,rfl,rfl,?_⟩
  have m0:0<=r*r2:=Int.mul_nonneg r0 r20
  have m1:r*r2<=999999999*1000000000:=Int.mul_le_mul (by left) (by left) r20 (by decide)
  exact q _ _ (by left) (by left) (b1.trans b2) p2
theorem zi5 (T:Bi mg)(D:DefOk K mg "_law_tied" s__law_tied ["pot","n","style","a","b"])(O__law_take:‹1› "_law_take" ["pot","many"] spTake):‹2› "_law_tied" ["pot","n","style","a","b"] spTied:=by
 exists 1,sc__law_tied
 obtain⟨p,n,y,a,b,rfl,hp,q⟩:=h
 have q0:∀ k,Q (.bl k) H:=λ k=>q k H But.refl hp
 refine⟨_,(zac (zap (i:=5) nd rfl (uaw rfl) (zn5 (za0 zcc (zax zc7 (pv 4) (pv 3)) zae (nomark _)) (zb1 (za0 zcc (zax zc7 (pv 4) (pv 3)) (zax zc7 (pv 1) zae) (nomark _))))) (zac (zbb (zao zec (pv 2) zae (nomark _)) (zaf (zaj (zn5 (pv 5) (zb1 (zc6 (za0 zcc (pv 2) zae (nomark _)) (zb1 (za0 zcc (zad O__law_take hr rfl (zaa (pv 0) (zaa zae zab))) zae (nomark _)))))))) zar) (zac (zbb (zao zec (pv 2) zae (nomark _)) (zaf (zaj (za0 zcc (za0 zhb (zad O__law_take hr rfl (zaa (pv 0) (zaa zae zab))) zae (nomark _)) (za0 zcc (pv 2) zae (nomark _)) (nomark _)))) zar) (zac (zbb (zao zcc (pv 2) zae (nomark _)) (zaf (zaj (zn5 (za0 zcc (zax zc7 (pv 4) (pv 3)) zae (nomark _)) (zb1 (zc6 (za0 zcc (zax zc7 (pv 4) (pv 3)) zae (nomark _)) (zb1 (za0 zhb (zax zcl (pv 4) zae) zae (nomark _)))))))) zar) (zac (zbb (zao zec (pv 2) zae (nomark _)) (zaf (zaj (zc6 (za0 zcc (za0 zcc (zax zcl (pv 3) zae) (zax zcl (pv 4) zae) (nomark _)) (za0 zcc (pv 2) zae (nomark _)) (nomark _)) (zb1 (za0 zhb (zad O__law_take hr rfl (zaa (pv 0) (zaa zae zab))) zae (nomark _)))))) zar) (zaf (zaj zb2))))))),?_⟩
 refine⟨_,rfl,_,rfl,_,_,rfl,rfl,rfl,_,rfl,?_⟩
 refine ite2 (λ c=>?_) (λ c=>?_)
 all_goals (try refine⟨_,rfl,_,rfl,_,_,rfl,rfl,_,rfl,_,_,rfl,rfl,rfl,?_⟩)
 all_goals
  refine⟨_,rfl,_,_,rfl,rfl,_,rfl,?_⟩
  refine ite2 (λ c1=>?_) (λ c1=>?_)
  ·refine⟨_,rfl,_,rfl,?_⟩
   refine ite2 (λ d=>?_) (λ d=>?_)
   ·exact q0 _
   ·refine⟨_,rfl,rfl,_,rfl,?_⟩
    refine ite2 (λ d=>?_) (λ d=>?_)
    ·exact⟨_,rfl,p,_,rfl,hp,by decide,by decide,λ r H' _ _ b1 p1=>⟨rfl,q _ _ b1 p1⟩⟩
    ·exact q0 _
  refine⟨_,rfl,_,_,rfl,rfl,_,rfl,?_⟩
  refine ite2 (λ c2=>?_) (λ c2=>?_)
  ·exact⟨_,rfl,p,_,rfl,hp,by decide,by decide,λ r H' _ _ b1 p1=>⟨_,_,rfl,rfl,_,rfl,rfl,rfl,q _ _ b1 p1⟩⟩
  refine⟨_,rfl,rfl,_,rfl,?_⟩
  refine ite2 (λ c3=>?_) (λ c3=>?_)
  ·refine⟨_,rfl,_,rfl,_,_,rfl,rfl,rfl,_,rfl,?_⟩
   refine ite2 (λ d=>?_) (λ d=>?_)
   ·exact q0 _
   ·refine⟨_,rfl,_,rfl,_,_,rfl,rfl,rfl,_,rfl,?_⟩
    refine ite2 (λ d=>?_) (λ d=>?_)
    ·exact⟨_,rfl,_,_,rfl,rfl,(by show (0:Int)<3;decide),_,_,rfl,rfl,q0 _⟩
    ·exact q0 _
  refine⟨_,rfl,_,_,rfl,rfl,_,rfl,?_⟩
  refine ite2 (λ c4=>?_) (λ c4=>?_)
  ·refine⟨_,rfl,_,_,rfl,rfl,(by show (0:Int)<2;decide),_,rfl,_,_,rfl,rfl,(by show (0:Int)<2;decide),rfl,_,rfl,rfl,rfl,_,rfl,?_⟩
   refine ite2 (λ d=>?_) (λ d=>?_)
   ·exact⟨_,rfl,p,_,rfl,hp,by decide,by decide,λ r H' _ _ b1 p1=>⟨_,_,rfl,rfl,q _ _ b1 p1⟩⟩
   ·exact q0 _
  ·exact q0 _
theorem zho (T:Bi mg)(D:DefOk K mg "_law_order" s__law_order ["pot","many"])(O__law_take:‹1› "_law_take" ["pot","many"] spTake):‹2› "_law_order" ["pot","many"] spOrder:=by
 exists 1,sc__law_order
 obtain⟨p,m,rfl,hp,hm0,hm1,q⟩:=h
 refine⟨_,(zac (zap (i:=2) nd rfl (uaw rfl) (zau (zh8 rfl) rfl T.z_list (by symm) (zaa (zau zd8 rfl T.z_range (by symm) (zaa (pv 1) zab)) zab))) (zac (zap (i:=3) nd rfl (uaw rfl) (zex zab)) (zac (zb5 PassesOwn.never rfl (zbs rfl T.z_range (zaa (pv 1) zab)) (zag (i:=4) nd rfl (uaw rfl)) (zaf (zbq (zfu ubo ub4 ub3 zdn (pv 3) (zaa (zfu ubo PySem.F.slot_list_pop PySem.F.type_list_pop zq7 (pv 2) (zaa (zad O__law_take hr rfl (zaa (pv 0) (zaa (zal zas rfl T.z_len (by symm) (zaa (pv 2) zab)) zab))) zab)) zab))))) (zaf (zaj (pv 3)))))),?_⟩
 refine⟨_,rfl,m,rfl,λ g hg=>?_⟩
 refine⟨g,m,rfl,zai,hm0,hm1,λ l hl=>?_⟩
 refine⟨(by show 0<=sizeLine;decide),λ l2 hl2=>?_⟩
 obtain⟨H0,eH0⟩:∃ H0,H0=upd (upd (upd H g (.rng 0 m)) l (.lst ((uaf m.toNat).map λ i:Nat=>V.int (i:Int)))) l2 (.lst []):=⟨_,rfl⟩
 rw[← eH0]
 have S1:Same H (upd H g (.rng 0 m)):=zam hg
 have S2:=S1.trans (zam (o:=.lst ((uaf m.toNat).map λ i:Nat=>V.int (i:Int))) hl)
 have S3:Same H H0:=by rw[eH0];exact S2.trans (zam hl2)
 have fl:H l=none:=S1.free hl
 have fl2:H l2=none:=S2.free hl2
 have ll2:l≠l2:=λ e=>by rw[← e,zai] at hl2;cases hl2
 have el:H0 l=some (.lst ((uaf m.toNat).map λ i:Nat=>V.int (i:Int))):=by rw[eH0,zan ll2,zai]
 have el2:H0 l2=some (.lst []):=by rw[eH0,zai]
 have hp0:Pot H0 p:=by
  obtain⟨a,b,e,z⟩:=hp
  exact⟨a,b,S3 _ _ e,z⟩
 have nlp:l≠p:=by
  obtain⟨a,b,e,z⟩:=hp
  exact λ x=>by rw[x,e] at fl;cases fl
 have nl2p:l2≠p:=by
  obtain⟨a,b,e,z⟩:=hp
  exact λ x=>by rw[x,e] at fl2;cases fl2
 refine⟨_,rfl,m,rfl,by left,by left,?_⟩
 refine zcn (n:=m.toNat) (λ i σ H'=>∃ (t:Option V)(ls ms:List Int),σ=[some (.ref p),some (.int m),some (.ref l),some (.ref l2),t]/\H' l=some (.lst (ls.map V.int))/\H' l2=some (.lst (ms.map V.int))/\Pot H' p /\
  (∀ b o,b≠p->H b=some o->H' b=some o)/\(ms++ls).Perm ((uaf m.toNat).map λ i:Nat=>(i:Int))/\ms.length=i) ?start ?turn ?fin
 case start=>exact⟨none,(uaf m.toNat).map λ i:Nat=>(i:Int),[],rfl,by rw[el,uby];rfl,el2,hp0,λ b o _ e=>S3 b o e,List.Perm.refl _,rfl⟩
 case turn =>
  rintro i σ H' hi ⟨t,ls,ms,rfl,e1,e2,hp',kp,pm,hl'⟩
  have hlen:ls.length=m.toNat-i:=by
   have:=pm.length_eq
   rw[uar,uae,uay] at this
   left
  refine⟨_,rfl,.inl ⟨rfl,_,SqL.of e2⟩,_,rfl,.inl ⟨rfl,_,SqL.of e1⟩,_,rfl,_,rfl,l,_,rfl,.inl (SqL.of e1),?_⟩
  refine⟨p,_,rfl,hp',(by rw[uae];left),(by rw[uae];left),λ r H1 r0 r1 b1 p1=>?_⟩
  rw[uae] at r1
  have hr1:r.toNat<ls.length:=by left
  have er:r=((r.toNat:Nat):Int):=by left
  have six:seqIndex? r (ls.map V.int).length=some r.toNat:=(zkv (by unfold ixN;rw[if_pos r0,if_pos (by rw[uae];left)])).1
  refine⟨l,_,r,r.toNat,.int ls[r.toNat],rfl,rfl,b1 _ _ nlp e1,by left,by left,six,by rw[uaj,uad hr1];rfl,?_⟩
  refine⟨l2,_,_,rfl,rfl,by rw[zan ll2.symm];exact b1 _ _ nl2p e2,?_,?_⟩
  ·rw[uae]
   exact ubr (by left:ms.length<=1000) (by decide)
  ·refine⟨_,ls.eraseIdx r.toNat,ms++[ls[r.toNat]],rfl,?_,?_,?_,?_,?_,by rw[uar,uax];left⟩
   ·rw[zan ll2,zai,zi8]
   ·rw[zai,ucm];rfl
   ·obtain⟨a,b,e,z⟩:=p1
    exact⟨a,b,by rw[zan nl2p.symm,zan nlp.symm];exact e,z⟩
   ·intro b o hb e
    have n1:b≠l:=λ x=>by rw[x,fl] at e;cases e
    have n2:b≠l2:=λ x=>by rw[x,fl2] at e;cases e
    rw[zan n2,zan n1]
    exact b1 _ _ hb (kp _ _ hb e)
   ·refine List.Perm.trans ?_ pm
    rw[ueb]
    refine ugn _ ?_
    show (ls[r.toNat]::ls.eraseIdx r.toNat).Perm ls
    exact zgw ls r.toNat hr1
 case fin =>
  rintro σ H' ⟨t,ls,ms,rfl,e1,e2,hp',kp,pm,hl'⟩
  have hlen:ls=[]:=by
   have:=pm.length_eq
   rw[uar,uae,uay] at this
   exact uf4 (by left)
  subst hlen
  rw[ud4] at pm
  exact⟨_,rfl,q l2 H' ms kp hp' fl2 nl2p e2 pm⟩
def WInv (H:Hp)(p ln lt:Addr)(m n st wy:Int)(ms:List Int)(b a:Nat)(σ:L2.St)(H':Hp):Prop :=
 ∃ (t7 t8 t9 t10:Option V)(ys:List V)(ties:List Tie),σ=[some (.ref p),some (.int m),some (.int n),some (.int st),some (.int wy),some (.ref ln),some (.ref lt),t7,t8,t9,t10] /\
  H' ln=some (.lst (ms.map V.int))/\H' lt=some (.lst ys)/\TieL H' ys ties/\Pot H' p/\(∀ b o,b≠p->H b=some o->H' b=some o)/\Grown n.toNat ms b a ties
theorem zkq (T:Bi mg)(D:DefOk K mg "_law_web" s__law_web ["pot","most"])(O__law_take:‹2› "_law_take" ["pot","many"] spTake)(O__law_order:‹2› "_law_order" ["pot","many"] spOrder)
  (O__law_tied:‹2› "_law_tied" ["pot","n","style","a","b"] spTied) (O__law_length:‹2› "_law_length" ["pot","way"] spLength):‹3› "_law_web" ["pot","most"] (spWeb K):=by
 exists 2,sc__law_web
 obtain⟨p,m,rfl,hp,hm0,hm1,q⟩:=h
 refine⟨_,(zac (zap (i:=2) nd rfl (uaw rfl) (zax zbt zae (zad O__law_take hr rfl (zaa (pv 0) (zaa (pv 1) zab))))) (zac (zap (i:=3) nd rfl (uaw rfl) (zad O__law_take hr rfl (zaa (pv 0) (zaa zae zab)))) (zac (zap (i:=4) nd rfl (uaw rfl) (zad O__law_take hr rfl (zaa (pv 0) (zaa zae zab)))) (zac (zap (i:=5) nd rfl (uaw rfl) (zad O__law_order hr rfl (zaa (pv 0) (zaa (pv 2) zab)))) (zac (zap (i:=6) nd rfl (uaw rfl) (zex zab)) (zac (zb5 PassesOwn.never rfl (zbs rfl T.z_range (zaa (pv 2) zab)) (zag (i:=7) nd rfl (uaw rfl)) (zaf (zb5 PassesOwn.never rfl (zbs rfl T.z_range (zaa (pv 7) zab)) (zag (i:=8) nd rfl (uaw rfl)) (zaf (zbb (PW.pt (zr6 (zbf (zad O__law_tied hr rfl (zaa (pv 0) (zaa (pv 2) (zaa (pv 3) (zaa (pv 8) (zaa (pv 7) zab))))))) (zny (zao zec (zal zas rfl T.z_len (by symm) (zaa (pv 6) zab)) zae (nomark _))))) (zac (zbn (zal zjl rfl T.z_sorted (by symm) (zaa (zex (zaa (zaq zay (pv 5) (pv 8) (λ _ _=>rfl)) (zaa (zaq zay (pv 5) (pv 7) (λ _ _=>rfl)) zab))) zab)) (zt6 (n:=2) rfl (zah (zag (i:=9) nd rfl (uaw rfl)) (zah (zag (i:=10) nd rfl (uaw rfl)) za1)))) (zaf (zbq (zfu ubo ub4 ub3 zdn (pv 6) (zaa (zr8 (zaa (pv 9) (zaa (pv 10) (zaa (zad O__law_length hr rfl (zaa (pv 0) (zaa (pv 4) zab))) zab)))) zab))))) zar))))) (zaf (zaj (zr8 (zaa (pv 2) (zaa (zau zdt rfl T.z_tuple (by symm) (zaa (zal zjj rfl T.z_sorted (by symm) (zaa (pv 6) zab)) zab)) zab))))))))))),?_⟩
 refine⟨_,rfl,_,rfl,p,m,rfl,hp,by left,by left,λ r1 H1 r10 r11 b1 p1=>?_⟩
 refine⟨_,_,rfl,rfl,?_⟩
 refine⟨_,rfl,p,8,rfl,p1,by decide,by decide,λ st H2 _ _ b2 p2=>?_⟩
 refine⟨_,rfl,p,5,rfl,p2,by decide,by decide,λ wy H3 wy0 wy1 b3 p3=>?_⟩
 refine⟨_,rfl,_,rfl,p,_,rfl,p3,by left,by left,λ ln H4 ms b4 p4 f4 n4 e4 pm=>?_⟩
 obtain⟨n,en⟩:∃ n:Int,n=1+r1:=⟨_,rfl⟩
 rw[← en] at pm
 have bt4:But p H H4:=b1.trans (b2.trans (b3.trans b4))
 have fln:H ln=none:=by
  cases e:H ln with
  | none=>rfl
  | some u=>rw[(b1.trans (b2.trans b3)) _ _ n4 e] at f4;cases f4
 refine⟨(by show 0<=sizeLine;decide),λ lt hlt=>?_⟩
 have flt:H lt=none:=by
  by_cases z:lt=p
  ·obtain⟨a',b',e',_⟩:=p4;rw[z,e'] at hlt;cases hlt
  ·cases e:H lt with
   | none=>rfl
   | some u=>rw[bt4 _ _ z e] at hlt;cases hlt
 have nlt:lt≠p:=by
  obtain⟨a',b',e',_⟩:=p4
  exact λ x=>by rw[x,e'] at hlt;cases hlt
 have nln:ln≠lt:=λ x=>by rw[← x,e4] at hlt;cases hlt
 have pm0:Perm0 n.toNat ms:=Perm0.of pm
 refine⟨_,rfl,n,by rw[en],by left,by left,?_⟩
 refine zcn (n:=n.toNat) (λ i σ H'=>WInv H p ln lt m n st wy ms i 0 σ H') ?start ?turn ?fin
 case start =>
  refine⟨none,none,none,none,[],[],by rw[en];rfl,by rw[zan nln];exact e4,zai,.nil,?_,λ b o hb e=>?_,Grown.start⟩
  ·obtain⟨a',b',e',z⟩:=p4
   exact⟨a',b',by rw[zan nlt.symm];exact e',z⟩
  ·rw[zan (λ x=>by rw[x,flt] at e;cases e)]
   exact bt4 _ _ hb e
 case turn =>
  rintro i σ H' hi ⟨t7,t8,t9,t10,ys,ties,rfl,g1,g2,g3,g4,g5,g6⟩
  refine⟨_,rfl,_,rfl,by left,by left,?_⟩
  have ei:((0+(i:Int)):Int).toNat=i:=by left
  rw[ei]
  refine zcn (n:=i) (λ k σ H''=>(∃ t7,σ[7]?=some (some (.int (0+(i:Int))))/\t7=())/\WInv H p ln lt m n st wy ms i k σ H'') ?start2 ?turn2 ?fin2
  case start2=>exact⟨⟨(),rfl,rfl⟩,some (.int (0+(i:Int))),t8,t9,t10,ys,ties,rfl,g1,g2,g3,g4,g5,g6⟩
  case fin2 =>
   rintro σ H'' ⟨_,t7,t8,t9,t10,ys,ties,rfl,g1,g2,g3,g4,g5,g6⟩
   exact⟨t7,t8,t9,t10,ys,ties,rfl,g1,g2,g3,g4,g5,g6.down⟩
  case turn2 =>
   rintro k σ K1 hk ⟨⟨_,h7,_⟩,t7,t8,t9,t10,ys,ties,rfl,g1,g2,g3,g4,g5,g6⟩
   have e7:t7=some (.int (0+(i:Int))):=by simpa using h7
   subst e7
   have again : ∀ {u8 u9 u10 : Option V}{ys' : List V}{ts : List Tie}{J : Hp}, J ln = some (.lst (ms.map V.int)) → J lt = some (.lst ys') → TieL J ys' ts → Pot J p → (∀ b o, b ≠ p → H b = some o → J b = some o) → Grown n.toNat ms i (k+1) ts →
       (∃ t7,([some (.ref p),some (.int m),some (.int n),some (.int st),some (.int wy),some (.ref ln),some (.ref lt),some (.int (0+(i:Int))),u8,u9,u10]:L2.St)[7]?=some (some (.int (0+(i:Int))))/\t7=())/\WInv H p ln lt m n st wy ms i (k+1) [some (.ref p),some (.int m),some (.int n),some (.int st),some (.int wy),some (.ref ln),some (.ref lt),some (.int (0+(i:Int))),u8,u9,u10] J :=
    λ a1 a2 a3 a4 a5 a6=>⟨⟨(),rfl,rfl⟩,_,_,_,_,_,_,rfl,a1,a2,a3,a4,a5,a6⟩
   refine⟨_,rfl,_,rfl,_,rfl,_,rfl,_,rfl,p,_,_,_,_,rfl,g4,λ kk K2 c2 d2=>⟨kk,rfl,?_⟩⟩
   have nlnp:ln≠p:=n4
   have l1:K2 ln=some (.lst (ms.map V.int)):=c2 _ _ nlnp g1
   have l2:K2 lt=some (.lst ys):=c2 _ _ nlt g2
   have tup2:∀ a xs,K1 a=some (.tup xs)->K2 a=some (.tup xs):=λ a xs e=>c2 _ _ (λ x=>by
    obtain⟨a',b',e',_⟩:=g4
    rw[x,e'] at e;cases e) e
   have l3:TieL K2 ys ties:=g3.keep tup2
   have l5:∀ b o,b≠p->H b=some o->K2 b=some o:=λ b o hb e=>c2 _ _ hb (g5 _ _ hb e)
   have ylen:ys.length=ties.length:=Paired.length g3
   cases kk with
   | false =>
    refine iteF (iteF ?_)
    exact again l1 l2 l3 d2 l5 g6.skip
   | true =>
    refine iteT ?_
    refine⟨_,rfl,lt,_,rfl,.inl (SqL.of l2),_,_,rfl,rfl,_,rfl,?_⟩
    refine ite2 (λ c=>?_) (λ c=>?_)
    case refine_2=>exact again l1 l2 l3 d2 l5 g6.skip
    have c':((ys.length:Nat):Int)<60:=of_decide_eq_true c
    have hkn:k<n.toNat:=by left
    have at_:∀ j:Nat,j<n.toNat->atI (ms.map V.int) (j:Int)=some (.int (ms.getD j 0)):=λ j hj=>by
     have hj':j<ms.length:=by rw[pm0.len];exact hj
     refine zp3 ?_
     rw[uaj,uad hj']
     simp [ude,hj']
    have ak:atI (ms.map V.int) (0+(k:Int))=some (.int (ms.getD k 0)):=by rw[uf5];exact at_ k hkn
    have ai:atI (ms.map V.int) (0+(i:Int))=some (.int (ms.getD i 0)):=by rw[uf5];exact at_ i hi
    refine⟨_,rfl,_,rfl,ln,_,_,_,rfl,rfl,SqL.of l1,ak,_,rfl,_,rfl,ln,_,_,_,rfl,rfl,SqL.of l1,ai,(by show 2<=sizeLine;decide),λ s1 hs1=>?_⟩
    refine⟨s1,[ms.getD k 0,ms.getD i 0],rfl,SqL.of zai,(by show 2<64;decide),λ zs pz wz s2 hs2=>?_⟩
    obtain⟨x,y,rfl,hxy,hor⟩:=zmj pz wz
    refine⟨s2,_,rfl,SqL.of zai,rfl,?_⟩
    refine⟨_,_,rfl,_,_,rfl,rfl,?_⟩
    have n1:∀ b o,K2 b=some o->b≠s1:=λ b o e=>zak e hs1
    have n2:∀ b o,K2 b=some o->b≠s2:=λ b o e=>zak (zam hs1 b o e) hs2
    have up:∀ b o,K2 b=some o->upd (upd K2 s1 (.lst [.int (ms.getD k 0),.int (ms.getD i 0)])) s2 (.lst [.int x,.int y]) b=some o:=λ b o e=>by rw[zan (n2 b o e),zan (n1 b o e)];exact e
    refine⟨_,rfl,.inl ⟨rfl,_,SqL.of (up _ _ l2)⟩,_,rfl,_,rfl,_,rfl,_,rfl,?_⟩
    refine⟨p,wy,rfl,?_,wy0,wy1,λ len K5 ln0 ln1 c5 d5=>?_⟩
    ·obtain⟨a',b',e',z⟩:=d2
     exact⟨a',b',up _ _ e',z⟩
    refine⟨(by show 3<=sizeLine;decide),λ tp htp=>?_⟩
    have pl:∃ xs,K2 p=some (.lst xs):=d2.lst
    have up5:∀ b o,b≠p->K2 b=some o->upd K5 tp (.tup [.int x,.int y,.int len]) b=some o:=λ b o hb e=>by
     have e5:=c5 b o hb (up b o e)
     rw[zan (zak e5 htp)];exact e5
    refine⟨lt,_,_,rfl,rfl,up5 _ _ nlt l2,?_,?_⟩
    ·exact ubr (by left:ys.length<=1000) (by decide)
    have k5:∀ b o,b≠p->b≠lt->K2 b=some o->upd (upd K5 tp (.tup [.int x,.int y,.int len])) lt (.lst (ys++[.ref tp])) b=some o:=λ b o hb hb2 e=>by rw[zan hb2];exact up5 b o hb e
    have ntp:tp≠lt:=λ z=>by
     have:=c5 _ _ nlt (up _ _ l2)
     rw[← z,htp] at this;cases this
    refine again (k5 _ _ nlnp nln l1) zai (TieL.snoc (TieL.keep l3 λ a xs e=>k5 _ _ ?_ ?_ e) ?_) ?_ (λ b o hb e=>k5 _ _ hb (λ z=>by rw[z,flt] at e;cases e) (l5 _ _ hb e))
     (g6.add (x:=x) (y:=y) (l:=len) pm0 hk hi (by left) ln0 ln1 hor hxy)
    ·intro z
     obtain⟨xs',e'⟩:=pl
     rw[z,e'] at e;cases e
    ·intro z
     rw[z,l2] at e;cases e
    ·rw[zan ntp,zai];rfl
    ·obtain⟨a',b',e',z⟩:=d5
     exact⟨a',b',by rw[zan nlt.symm,zan (zak e' htp)];exact e',z⟩
 case fin =>
  rintro σ H' ⟨t7,t8,t9,t10,ys,ties,rfl,g1,g2,g3,g4,g5,g6⟩
  have ylen:ys.length=ties.length:=Paired.length g3
  have few:=g6.few
  refine⟨_,rfl,_,rfl,lt,ys,ties.map tieI,rfl,SqL.of g2,by left,zey (λ y t ⟨a,e1,e2⟩=>⟨a,e1,SqT.of e2⟩) g3,λ k hk=>?_,λ qs pq wq l hl=>?_⟩
  ·obtain⟨t,_,rfl⟩:=ubx.mp hk
   exact λ z=>by cases z
  obtain⟨ts,pt,tl,wt⟩:=zst g3 pq wq
  refine⟨l,_,rfl,.inl ⟨SqL.of zai,λ l' hl'=>?_⟩⟩
  refine⟨(by show 2<=sizeLine;decide),λ v hv=>?_⟩
  have S1:Same H' (upd H' l (.lst (qs.map (·.1)))):=zam hl
  have S2:=S1.trans (zam (o:=.tup (qs.map (·.1))) hl')
  have S3:=S2.trans (zam (o:=.tup [.int n,.ref l']) hv)
  refine q (.ref v) _ n ts (λ b o hb e=>S3 _ _ (g5 _ _ hb e)) ?_ ⟨by left,by left,zs2 wt ((pt.pairwise_iff (λ {a b} h z=>h ⟨z.1.symm,z.2.symm⟩)).mpr g6.nd),by have:=pt.length_eq;left,λ t ht=>?_⟩ (by left) ?_
  ·obtain⟨a',b',e',z⟩:=g4
   exact⟨a',b',S3 _ _ e',z⟩
  ·have:=g6.ok t (pt.mem_iff.mp ht)
   have e:((n.toNat:Nat):Int)=n:=by left
   rw[e] at this
   exact this
  ·refine⟨v,_,rfl,zai,_,_,rfl,rfl,_,_,rfl,⟨l',qs.map (·.1),rfl,?_,?_⟩,rfl⟩
   ·exact (zam hv) _ _ zai
   ·exact TieL.is (tl.keep λ a xs e=>S3 _ _ e)
theorem zfw (T:Bi mg)(D:DefOk K mg "tie_weights" s_tie_weights ["web"]):‹1› "tie_weights" ["web"] (spWeights K):=by
 exists 0,sc_tie_weights
 obtain⟨n,ts,v,rfl,hw,few60,q⟩:=h
 obtain⟨g0,g,ws,rfl,hg0,hg,hall,hlw⟩:=zaz hw
 refine⟨_,(zac (zap (i:=1) nd rfl (uaw rfl) (zcb zab)) (zac (zap (i:=2) nd rfl (uaw rfl) zae) (zac (zb5 PassesOwn.never rfl (zb0 (zaq zav (pv 0) zae (λ _ _=>rfl))) (zag (i:=3) nd rfl (uaw rfl)) (zac (zbq (zfu ubo ub4 ub3 zbx (pv 1) (zaa (pv 2) zab))) (zaf (zap (i:=2) nd rfl (uaw rfl) (zax zce zae (pv 2)))))) (zaf (zaj (pv 1)))))),?_⟩
 refine⟨(by show 0<=1000;decide),λ l J0 S0 f0 e0=>?_⟩
 refine⟨_,rfl,g0,_,_,_,rfl,rfl,SqT.of (S0 _ _ hg0),rfl,g,rfl,⟨_,SqT.of (S0 _ _ hg)⟩,?_⟩
 refine zfg (xs:=ws) (λ i σ J=>∃ y3:Option V,σ=[some (.ref g0),some (.ref l),some (.int (2^i)),y3]/\Same H J/\J l=some (.lst (pows i))) ⟨none,rfl,S0,e0⟩ (λ i σ J _ h=>by obtain⟨_,_,s,_⟩:=h;exact SqT.of (s _ _ hg)) (λ i x σ J hx h=>?_) (λ σ J h=>?_)
 ·obtain⟨y3,rfl,s1,e1⟩:=h
  have hi:i<ws.length:=(uak.mp hx).1
  refine⟨_,rfl,.inl ⟨rfl,_,SqL.of e1⟩,_,rfl,l,_,_,rfl,rfl,e1,(by unfold pows;rw[uae,uay];left),λ J1 b1 e2=>?_⟩
  refine⟨_,rfl,_,_,rfl,rfl,.inl ⟨by decide,by decide⟩,?_⟩
  refine⟨some x,?_,λ b o e=>b1 _ _ (zak e f0) (s1 _ _ e),by rw[e2,zn0]⟩
  have ep:(2:Int)*2^i=2^(i+1):=by rw[Int.pow_succ,Int.mul_comm]
  show [some (V.ref g0),some (V.ref l),some (V.int (2*2^i)),some x]=_
  rw[ep]
 ·obtain⟨y3,rfl,s1,e1⟩:=h
  exact⟨_,rfl,q l J s1 f0 (by rw[e1,hlw])⟩
theorem zi3 (T:Bi mg)(D:DefOk K mg "cost_with" s_cost_with ["cost","length","weight"]):‹1› "cost_with" ["cost","length","weight"] (spCost K):=by
 exists 0,sc_cost_with
 obtain⟨c,x,y,l,ww,rfl,hc,q⟩:=h
 refine⟨_,(zaf (zaj (zbc (zaa (zax zbt (zaq zav (pv 0) zae (λ _ _=>rfl)) (pv 1)) (zaa (zax zbt (zaq zav (pv 0) zae (λ _ _=>rfl)) (pv 2)) zab))))),?_⟩
 exact⟨_,rfl,c,_,_,_,rfl,rfl,SqT.of hc,rfl,_,rfl,_,_,rfl,rfl,_,rfl,c,_,_,_,rfl,rfl,SqT.of hc,rfl,_,rfl,_,_,rfl,rfl,(by show 2<=1000;decide),λ t J S f e=>q t J S e⟩
def rWB (H:Hp)(wv kv:V)(n r:Int)(ts:List Tie)(ks:List Nat)(lw lc la:Addr)(m:Nat)(σ:L2.St)(J:Hp):Prop:=∃ (cs:List (Option (Int × Int)))(as:List (Option Nat))(ag:Bool)(y7 y8 y9 y10 y11 y12 y13:Option V),σ=[some wv,some kv,some (.int r),some (.ref lw),some (.ref lc),some (.ref la),some (.bl ag),y7,y8,y9,y10,y11,y12,y13] /\
 RA H J lw lc la (pows ts.length) cs as/\Far.Good (arcs ts ks) n.toNat r.toNat cs/\Far.Run (arcsB ts ks) r.toNat cs as/\(ag=false->Far.Stab2 (arcsB ts ks) cs)/\m=Far.mu cs+(if ag=true then 1 else 0)
theorem zee (T:Bi mg)(D:DefOk K mg "reached_from" s_reached_from ["web","keep","root"])(O_tie_weights:‹1› "tie_weights" ["web"] (spWeights K))(O_cost_with:‹1› "cost_with" ["cost","length","weight"] (spCost K)):‹2› "reached_from" ["web","keep","root"] (spReachedC K):=by
 exists 1,sc_reached_from
 obtain⟨n,ts,ks,wv,kv,r,rfl,⟨isw,ok,isk,ko⟩,r0,r1,q⟩:=h
 have few60:=ok.few
 have n1:=ok.n1
 have n24:=ok.n24
 obtain⟨g0,g,ws,rfl,hg0,hg,hall,hlw⟩:=zaz isw
 obtain⟨kp,rfl,hkp⟩:=zd3 isk
 have P:=zbh ok ko
 refine⟨_,(zac (zap (i:=3) nd rfl (uaw rfl) (zad O_tie_weights hr rfl (zaa (pv 0) zab))) (zac (zap (i:=4) nd rfl (uaw rfl) (zax zoa (zcb (zaa za7 zab)) (zaq zav (pv 0) zae (λ _ _=>rfl)))) (zac (zap (i:=5) nd rfl (uaw rfl) (zax zoa (zcb (zaa za7 zab)) (zaq zav (pv 0) zae (λ _ _=>rfl)))) (zac (zbn (zbc (zaa zae (zaa zae zab))) (zix (pv 4) (pv 2) zdj)) (zac (zap (i:=6) nd rfl (uaw rfl) zb2) (zac (zdl PassesOwn.never (zbf (pv 6)) (zac (zap (i:=6) nd rfl (uaw rfl) zb2) (zaf (zb5 PassesOwn.never rfl (zb0 (pv 1)) (zag (i:=7) nd rfl (uaw rfl)) (zac (zbn (zaq zav (zaq zav (pv 0) zae (λ _ _=>rfl)) (pv 7) (λ _ _=>rfl)) (zbp (n:=3) rfl (zah (zag (i:=8) nd rfl (uaw rfl)) (zah (zag (i:=9) nd rfl (uaw rfl)) (zah (zag (i:=10) nd rfl (uaw rfl)) za1))))) (zaf (zb5 PassesOwn.never rfl (zb0 (zbc (zaa (zbc (zaa (pv 8) (zaa (pv 9) zab))) (zaa (zbc (zaa (pv 9) (zaa (pv 8) zab))) zab)))) (zbp (n:=2) rfl (zah (zag (i:=11) nd rfl (uaw rfl)) (zah (zag (i:=12) nd rfl (uaw rfl)) za1))) (zac (zbb (zao zb6 (zaq zay (pv 4) (pv 11) (λ _ _=>rfl)) za7 (nomark _)) (zaf zkh) zar) (zac (zap (i:=13) nd rfl (uaw rfl) (zad O_cost_with hr rfl (zaa (zaq zay (pv 4) (pv 11) (λ _ _=>rfl)) (zaa (pv 10) (zaa (zaq zay (pv 3) (pv 7) (λ _ _=>rfl)) zab))))) (zaf (zbb (PW.pt (zc1 (zao zb6 (zaq zay (pv 4) (pv 12) (λ _ _=>rfl)) za7 (nomark _)) (zcd (zao (zub hr.units0) (pv 13) (zaq zay (pv 4) (pv 12) (λ _ _=>rfl)) (nomark _))))) (zac (zbn (pv 13) (zix (pv 4) (pv 12) zdj)) (zac (zbn (pv 11) (zix (pv 5) (pv 12) zdj)) (zaf (zap (i:=6) nd rfl (uaw rfl) zb2)))) zar))))))))))) (zaf (zaj (zbc (zaa (pv 4) (zaa (pv 5) zab))))))))))),?_⟩
 refine⟨_,rfl,n,ts,_,rfl,isw,few60,λ lw J1 S1 f1 e1=>?_⟩
 refine⟨(by show 1<=1000;decide),λ t0 J2 S2 f2 e2=>⟨_,rfl,g0,_,_,_,rfl,rfl,SqT.of (S2 _ _ (S1 _ _ hg0)),rfl,t0,n,_,rfl,rfl,e2,by left,by left,λ lc J3 S3 f3 e3=>?_⟩⟩
 have S13:=S1.trans (S2.trans S3)
 refine⟨(by show 1<=1000;decide),λ t1 J4 S4 f4 e4=>⟨_,rfl,g0,_,_,_,rfl,rfl,SqT.of (S4 _ _ (S13 _ _ hg0)),rfl,t1,n,_,rfl,rfl,e4,by left,by left,λ la J5 S5 f5 e5=>?_⟩⟩
 refine⟨(by show 2<=1000;decide),λ t2 J6 S6 f6 e6=>?_⟩
 have S36:=S4.trans (S5.trans S6)
 have elc:=S36 _ _ e3
 refine⟨_,rfl,_,rfl,lc,_,r,r.toNat,rfl,rfl,elc,zfd r0 (by rw[ubq];left),?_⟩
 have Sall:Same H J6:=S13.trans S36
 have fc:H lc=none:=(S1.trans S2).free f3
 have fa:H la=none:=(S13.trans S4).free f5
 have nwc:lw≠lc:=λ z=>by rw[← z,S2 _ _ e1] at f3;cases f3
 have nwa:lw≠la:=λ z=>by rw[← z,S4 _ _ (S3 _ _ (S2 _ _ e1))] at f5;cases f5
 have nca:lc≠la:=λ z=>by rw[← z,S4 _ _ e3] at f5;cases f5
 have R0:RA H J6 lw lc la (pows ts.length) (ua0 n.toNat none) (ua0 n.toNat none):=⟨Sall,fc,fa,nwc,nwa,nca,S36 _ _ (S3 _ _ (S2 _ _ e1)),⟨_,elc,CostL.first _⟩,by rw[S6 _ _ e5,List.map_replicate];rfl⟩
 have R1:=R0.put (k:=r.toNat) elc (by rw[ubq];left) e6
  -- the passes
 refine⟨rWB H (.ref g0) (.ref kp) n r ts ks lw lc la,⟨_,_,_,true,none,none,none,none,none,none,none,rfl,R1,Far.Good.first (by left),Far.Run.first (by left),λ z=>(by cases z),rfl⟩,?_⟩
 rintro m σ J ⟨c0,as0,ag,y7,y8,y9,y10,y11,y12,y13,rfl,R,G,AH,St,rfl⟩
 refine⟨_,rfl,ag,rfl,?_⟩
 cases ag with
 | false =>
  refine iteF ?_
  obtain⟨cvs,hc,cl⟩:=R.co
  exact⟨_,rfl,_,rfl,(by show 2<=1000;decide),λ p J' S' f' e'=>q p lc la cvs as0 c0 J' (R.same.trans S') e' (S' _ _ hc) (S' _ _ R.ah) (cl.keep (zno S')) (AH.best P G (St rfl)) G (zsx (St rfl))⟩
 | true =>
  refine iteT ⟨λ σ' J'=>∃ m',m'<Far.mu c0+1/\rWB H (.ref g0) (.ref kp) n r ts ks lw lc la m' σ' J',λ _ _ h=>h,?_⟩
  refine⟨_,rfl,kp,rfl,⟨_,SqT.of (R.same _ _ hkp)⟩,?_⟩
  refine zfg (xs:=(keepI ks).map V.int) (λ i σ J=>∃ (cs:List (Option (Int × Int)))(as:List (Option Nat))(ag:Bool)(y7 y8 y9 y10 y11 y12 y13:Option V),σ=[some (.ref g0),some (.ref kp),some (.int r),some (.ref lw),some (.ref lc),some (.ref la),some (.bl ag),y7,y8,y9,y10,y11,y12,y13] /\
   RA H J lw lc la (pows ts.length) cs as/\Far.Good (arcs ts ks) n.toNat r.toNat cs/\Far.Run (arcsB ts ks) r.toNat cs as/\Far.PS2 c0 (λ z=>z∈arcsB ts (ks.take i)) cs ag) ⟨c0,as0,false,_,_,_,_,_,_,_,rfl,R,G,AH,.inl ⟨rfl,rfl,λ u v l k c z=>by cases z⟩⟩ (λ i σ J _ h=>?_) (λ i x σ J hx h=>?_) (λ σ J h=>?_)
  ·obtain⟨cs,as,ag,y7,y8,y9,y10,y11,y12,y13,rfl,R,_⟩:=h
   exact SqT.of (R.same _ _ hkp)
  ·obtain⟨cs,as,ag,y7,y8,y9,y10,y11,y12,y13,rfl,R,G,AH,Pt⟩:=h
   obtain⟨k,hk,rfl⟩:=zox hx
   have hkl:k<ts.length:=ko.2 k (ua2 hk)
   obtain⟨ta,hta,htie⟩:=zbz hall hkl
   obtain⟨t,et⟩:∃ t,t=tieAt ts k:=⟨_,rfl⟩
   rw[← et] at htie
   have tk:=ok.tie _ (za6 hkl).2
   rw[← et] at tk
   refine⟨_,rfl,g0,_,_,_,rfl,rfl,SqT.of (R.same _ _ hg0),rfl,_,rfl,g,_,_,_,rfl,rfl,SqT.of (R.same _ _ hg),zat (uav _) hta,ta,_,rfl,SqT.of (R.same _ _ htie),rfl,_,_,rfl,_,_,rfl,_,_,rfl,rfl,?_⟩
   refine⟨_,rfl,_,rfl,(by show 2<=1000;decide),λ t1 K1 T1 u1 v1=>⟨_,rfl,_,rfl,(by show 2<=1000;decide),λ t2 K2 T2 u2 v2=>⟨(by show 2<=1000;decide),λ t3 K3 T3 u3 v3=>⟨t3,rfl,⟨_,SqT.of v3⟩,?_⟩⟩⟩⟩
   have R3:=R.step (T1.trans (T2.trans T3))
   have v1':=T3 _ _ (T2 _ _ v1)
   have v2':=T3 _ _ v2
   refine zfg (xs:=[V.ref t1,.ref t2]) (λ j σ J=>∃ (cs:List (Option (Int × Int)))(as:List (Option Nat))(ag:Bool)(y11 y12 y13:Option V),σ=[some (.ref g0),some (.ref kp),some (.int r),some (.ref lw),some (.ref lc),some (.ref la),some (.bl ag),some (.int (k:Int)),some (.int t.1),some (.int t.2.1),some (.int t.2.2),y11,y12,y13] /\
    RA H J lw lc la (pows ts.length) cs as/\Far.Good (arcs ts ks) n.toNat r.toNat cs/\Far.Run (arcsB ts ks) r.toNat cs as/\Far.PS2 c0 (λ z=>z∈arcsB ts (ks.take i)\/z∈(arcs2B t k).take j) cs ag/\TupKeep K3 J) ⟨cs,as,ag,_,_,_,rfl,R3,G,AH,Pt.less λ a z=>z.elim id λ z=>(by cases z),λ _ _ e=>e⟩ (λ j σ J _ h=>?_) (λ j x σ J hx h=>?_) (λ σ J h=>?_)
   ·obtain⟨cs,as,ag,y11,y12,y13,rfl,R,G,AH,Pt,tk⟩:=h
    exact SqT.of (tk _ _ v3)
   ·obtain⟨cs,as,ag,y11,y12,y13,rfl,R,G,AH,Pt,tkp⟩:=h
    obtain⟨p,u,v,rfl,hp,u0,un,v0,vn,arc,arcB,more⟩:∃ p u v,x=.ref p/\J p=some (.tup [.int u,.int v])/\0<=u/\u<n/\0<=v/\v<n/\(u.toNat,v.toNat,t.2.2)∈arcs ts ks/\(u.toNat,v.toNat,t.2.2,k)∈arcsB ts ks/\∀ z,z∈(arcs2B t k).take (j+1)->z∈(arcs2B t k).take j\/z=(u.toNat,v.toNat,t.2.2,k):=by
     have memB:∀ z,z∈arcs2B t k->z∈arcsB ts ks:=λ z hz=>arcsB_mem.mpr ⟨k,ua2 hk,by rw[← et];exact hz⟩
     have mem:∀ z,z∈arcs2 t->z∈arcs ts ks:=λ z hz=>arcs_mem.mpr ⟨k,ua2 hk,by rw[← et];exact hz⟩
     match j,hx with
     | 0,hx=>cases hx;exact⟨t1,t.1,t.2.1,rfl,tkp _ _ v1',by left,by left,by left,by left,mem _ (arcs2_mem.mpr (.inl rfl)),memB _ (arcs2B_mem.mpr (.inl rfl)),λ z hz=>by unfold arcs2B at *;simpa using hz⟩
     | 1,hx=>cases hx;exact⟨t2,t.2.1,t.1,rfl,tkp _ _ v2',by left,by left,by left,by left,mem _ (arcs2_mem.mpr (.inr rfl)),memB _ (arcs2B_mem.mpr (.inr rfl)),λ z hz=>by unfold arcs2B at *;simpa using hz⟩
    refine⟨p,_,rfl,SqT.of hp,rfl,_,_,rfl,_,_,rfl,rfl,?_⟩
    obtain⟨cvs,hc,cl⟩:=R.co
    have lenC:cvs.length=n.toNat:=by rw[cl.1];exact G.len
    obtain⟨x1,at1,cv1⟩:=zph cl u0 (by rw[G.len];left)
    obtain⟨x2,at2,cv2⟩:=zph cl v0 (by rw[G.len];left)
    have next:∀ {cs':List (Option (Int × Int))}{ag':Bool},Far.PS2 c0 (Far.plusA (λ z=>z∈arcsB ts (ks.take i)\/z∈(arcs2B t k).take j) (u.toNat,v.toNat,t.2.2,k)) cs' ag'->Far.PS2 c0 (λ z=>z∈arcsB ts (ks.take i)\/z∈(arcs2B t k).take (j+1)) cs' ag':=λ h=>h.less λ z hz=>by
     rcases hz with hz | hz
     ·exact .inl (.inl hz)
     ·exact (more z hz).elim (λ y=>.inl (.inr y)) .inr
    refine⟨_,rfl,_,rfl,lc,_,_,_,rfl,rfl,SqL.of hc,at1,rfl,_,rfl,ite2 (λ c1=>?_) (λ c1=>?_)⟩
    ·-- not reached
     have gu:Far.get cs u.toNat=none:=by
      cases e:Far.get cs u.toNat with
      | none=>rfl
      | some d =>
       rw[e] at cv1
       obtain⟨tt,rfl,_⟩:=cv1
       cases of_decide_eq_true c1
     exact⟨cs,as,ag,_,_,_,rfl,R,G,AH,next (Pt.no gu),tkp⟩
    ·obtain⟨d,gu⟩:∃ d,Far.get cs u.toNat=some d:=by
      cases e:Far.get cs u.toNat with
      | none=>rw[e] at cv1;exact absurd (decide_eq_true (show x1=V.non from cv1)) c1
      | some d=>exact⟨d,rfl⟩
     rw[gu] at cv1
     obtain⟨td,rfl,htd⟩:=cv1
     have pw:=zt2 (i:=k) (by left)
     refine⟨_,rfl,_,rfl,lc,_,_,_,rfl,rfl,SqL.of hc,at1,_,rfl,_,rfl,_,rfl,lw,_,_,_,rfl,rfl,SqL.of R.wl,zat (uav _) (zs4 hkl),td,_,_,_,_,rfl,htd,λ tn L1 Z1 en=>?_⟩
     have R':=R.step Z1
     have hc':=Z1 _ _ hc
     have tkp':TupKeep K3 L1:=λ a xs e=>Z1 _ _ (tkp a xs e)
     have done : ∀ (hlt : Far.get cs v.toNat = none \/ ∃ c', Far.get cs v.toNat = some c' /\ Far.lt2 (d.1+t.2.2, d.2+2^k) c') , ∀ L, L = upd (upd L1 lc (.lst (cvs.set v.toNat (.ref tn)))) la (.lst ((as.map oa).set v.toNat (.int u))) →
         RA H L lw lc la (pows ts.length) (cs.set v.toNat (some (d.1+t.2.2,d.2+2^k))) (as.set v.toNat (some u.toNat))/\Far.Good (arcs ts ks) n.toNat r.toNat (cs.set v.toNat (some (d.1+t.2.2,d.2+2^k)))/\Far.Run (arcsB ts ks) r.toNat (cs.set v.toNat (some (d.1+t.2.2,d.2+2^k))) (as.set v.toNat (some u.toNat))/\Far.PS2 c0 (λ z=>z∈arcsB ts (ks.take i)\/z∈(arcs2B t k).take (j+1)) (cs.set v.toNat (some (d.1+t.2.2,d.2+2^k))) true/\TupKeep K3 L:=λ hlt L eL=>by
      subst eL
      obtain⟨G',mm⟩:=G.step P (by left) arc (by left) pw.1 pw.2 (by left) gu hlt
      have Rp:=R'.put hc' (k:=v.toNat) (by left) en
      have Rm:=Rp.mark (k:=v.toNat) (u:=u.toNat)
      rw[ua6 u0] at Rm
      exact⟨Rm,G',Far.Run.step P G AH arc arcB (by left) gu hlt,next (Pt.put mm),λ a xs e=>ziq Rp.ah _ _ (ziq hc' _ _ (tkp' a xs e))⟩
     have ha:=R'.ah
     have hal:(as.map oa).length=n.toNat:=by rw[uae,AH.len];exact G.len
     refine⟨_,rfl,_,rfl,lc,_,_,_,rfl,rfl,SqL.of hc',at2,rfl,_,rfl,ite2 (λ c2=>iteT ?_) (λ c2=>?_)⟩
     ·have gv:Far.get cs v.toNat=none:=by
       cases e:Far.get cs v.toNat with
       | none=>rfl
       | some d =>
        rw[e] at cv2
        obtain⟨tt,rfl,_⟩:=cv2
        cases of_decide_eq_true c2
      obtain⟨R2,G2,A2,P2,k2⟩:=done (.inl gv) _ rfl
      exact⟨_,rfl,_,rfl,_,rfl,lc,_,_,_,rfl,rfl,hc',zfd v0 (by left),_,rfl,_,rfl,_,rfl,la,_,_,_,rfl,rfl,(by rw[zan R.nca.symm];exact ha),zfd v0 (by left),_,_,true,_,_,_,rfl,R2,G2,A2,P2,k2⟩
     ·obtain⟨d2,gv⟩:∃ d,Far.get cs v.toNat=some d:=by
       cases e:Far.get cs v.toNat with
       | none=>rw[e] at cv2;exact absurd (decide_eq_true (show x2=V.non from cv2)) c2
       | some d=>exact⟨d,rfl⟩
      rw[gv] at cv2
      obtain⟨te,rfl,hte⟩:=cv2
      refine⟨_,rfl,_,rfl,_,rfl,lc,_,_,_,rfl,rfl,SqL.of hc',at2,tn,te,L3.e2 (d.1+t.2.2,d.2+2^k),L3.e2 d2,rfl,rfl,SqT.of en,SqT.of (Z1 _ _ hte),_,rfl,ite2 (λ c3=>?_) (λ c3=>?_)⟩
      ·have hl:=(zlx _ _).mp c3
       obtain⟨R2,G2,A2,P2,k2⟩:=done (.inr ⟨d2,gv,hl⟩) _ rfl
       exact⟨_,rfl,_,rfl,_,rfl,lc,_,_,_,rfl,rfl,hc',zfd v0 (by left),_,rfl,_,rfl,_,rfl,la,_,_,_,rfl,rfl,(by rw[zan R.nca.symm];exact ha),zfd v0 (by left),_,_,true,_,_,_,rfl,R2,G2,A2,P2,k2⟩
      ·have hn:¬ Far.lt2 (d.1+t.2.2,d.2+2^k) d2:=λ z=>c3 ((zlx _ _).mpr z)
       exact⟨cs,as,ag,_,_,_,rfl,R',G,AH,next (Pt.old gu gv hn),tkp'⟩
   ·obtain⟨cs,as,ag,y11,y12,y13,rfl,R,G,AH,Pt,tkp⟩:=h
    refine⟨cs,as,ag,_,_,_,_,_,_,_,rfl,R,G,AH,Pt.less λ z hz=>?_⟩
    exact (zm9 hk hz).elim .inl λ y=>.inr (by rw[← et] at y;exact y)
  ·obtain⟨cs,as,ag,y7,y8,y9,y10,y11,y12,y13,rfl,R2,G2,A2,Pt⟩:=h
   have lk:((keepI ks).map V.int).length=ks.length:=by unfold keepI;rw[uae,uae]
   rw[lk,uex] at Pt
   rcases Pt with ⟨ea,ec,st⟩ | ⟨ea,lt⟩
   ·subst ea
    rw[← ec] at st
    exact⟨Far.mu cs+0,by rw[ec];left,cs,as,false,_,_,_,_,_,_,_,rfl,R2,G2,A2,λ _=>st,rfl⟩
   ·subst ea
    exact⟨Far.mu cs+1,by left,cs,as,true,_,_,_,_,_,_,_,rfl,R2,G2,A2,λ z=>(by cases z),rfl⟩
theorem zi2 (T:Bi mg)(D:DefOk K mg "fars_from" s_fars_from ["web","keep","root"])(O_reached_from:‹2› "reached_from" ["web","keep","root"] (spReached K)):‹3› "fars_from" ["web","keep","root"] (spFars K):=by
 exists 2,sc_fars_from
 obtain⟨n,ts,ks,wv,kv,r,rfl,wk,r0,r1,q⟩:=h
 have n24:=wk.2.1.n24
 refine⟨_,(zac (zbn (zad O_reached_from hr rfl (zaa (pv 0) (zaa (pv 1) (zaa (pv 2) zab)))) (zbp (n:=2) rfl (zah (zag (i:=3) nd rfl (uaw rfl)) (zah (zag (i:=4) nd rfl (uaw rfl)) za1)))) (zaf (zaj (za4 (N:=["web","keep","root","costs","ahead"]) (sc0:=defScope s_fars_from) (own:=["cost"]) (fr:=[]) (js:=[]) rfl (zda (pv 3)) (λ _ _ _ _=>(zag (i:=0) (by show ua7 [("cost":Str)];decide +kernel) rfl (uaw rfl))) (λ _ _ _ _=>zbe) (λ _ _ _ _=>(zg6 (zao zb6 (pv 0) za7 (nomark _)) za7 (zaq zhu (pv 0) zae (λ _ _=>rfl)))))))),?_⟩
 refine⟨_,rfl,_,rfl,_,rfl,n,ts,ks,wv,kv,r,rfl,wk,r0,r1,λ p lc la cvs avs cs J S ep ec ea cl G St=>?_⟩
 refine⟨p,_,rfl,SqT.of ep,rfl,_,_,rfl,_,_,rfl,rfl,?_⟩
 have lenC:cvs.length=n.toNat:=by rw[cl.1];exact G.len
 refine⟨_,rfl,lc,rfl,⟨_,SqL.of ec⟩,?_⟩
 refine zep ec (λ σ'=>σ'.length=1) (λ i v _=>v=ov ((Far.get cs i).map (·.1))) (by left) (by rfl) (λ _ _ _ _ _ h=>h) (λ i x σ' H' hx s2 sg C hC=>?_) (λ L ys H2 hL s2 hH hly hys=>?_)
 ·match σ',sg with
  | [o],_ =>
   have cv:=cl.2 i x hx
   refine⟨_,rfl,rfl,_,rfl,ite2 (λ c=>?_) (λ c=>?_)⟩
   ·have e:Far.get cs i=none:=by
     cases e:Far.get cs i with
     | none=>rfl
     | some d =>
      rw[e] at cv
      obtain⟨tt,rfl,_⟩:=cv
      cases of_decide_eq_true c
    exact hC _ _ _ rfl (Same.refl _) (by rw[e];rfl)
   ·obtain⟨d,gu⟩:∃ d,Far.get cs i=some d:=by
     cases e:Far.get cs i with
     | none=>rw[e] at cv;exact absurd (decide_eq_true (show x=V.non from cv)) c
     | some d=>exact⟨d,rfl⟩
    rw[gu] at cv
    obtain⟨td,rfl,htd⟩:=cv
    exact⟨_,rfl,td,_,_,_,rfl,rfl,SqT.of (s2 _ _ htd),rfl,hC _ _ _ rfl (Same.refl _) (by rw[gu];rfl)⟩
 ·obtain⟨DD,eD⟩:∃ DD,DD=cs.map λ o=>o.map (·.1):=⟨_,rfl⟩
  have gD:∀ v,Far.get DD v=(Far.get cs v).map (·.1):=λ v=>by
   rw[eD];unfold Far.get
   rw[uag,uaj,uag]
   cases cs[v]? <;> rfl
  refine q L DD H2 (S.trans s2) (S.free hL) ?_ (by rw[eD,uae];exact G.len) λ v hv=>by rw[gD];exact G.dst St v
  rw[hH]
  refine congrArg (λ z=>some (HO.lst z)) (ucc λ i=>?_)
  have lD:DD.length=n.toNat:=by rw[eD,uae];exact G.len
  by_cases hi:i<n.toNat
  ·rw[zg8 (by left),gD]
   have e:ys[i]?=some ys[i]:=uad (by left)
   rw[e,hys i _ e]
  ·rw[uat (by left),uat (by rw[uae];left)]
theorem zue (T:Bi mg)(D:DefOk K mg "far" s_far ["web","keep","a","b"])(O_fars_from:‹3› "fars_from" ["web","keep","root"] (spFars K)):‹4› "far" ["web","keep","a","b"] (spFar K):=by
 exists 3,sc_far
 obtain⟨n,ts,ks,wv,kv,a,b,rfl,wk,a0,a1,b0,b1,q⟩:=h
 refine⟨_,(zaf (zaj (zaq zay (zad O_fars_from hr rfl (zaa (pv 0) (zaa (pv 1) (zaa (pv 2) zab)))) (pv 3) (λ _ _=>rfl)))),?_⟩
 refine⟨_,rfl,_,rfl,_,rfl,n,ts,ks,wv,kv,a,rfl,wk,a0,a1,λ l DD J S f1 e1 lD hD=>?_⟩
 exact⟨_,rfl,l,_,_,_,rfl,rfl,SqL.of e1,zat b0 (zg8 (by left)),q _ _ S (hD _ (by left))⟩
theorem ze3 (T:Bi mg)(D:DefOk K mg "heights_from" s_heights_from ["web","keep","a","roof"])(O_fars_from:‹3› "fars_from" ["web","keep","root"] (spFars K)):‹4› "heights_from" ["web","keep","a","roof"] (spHFrom K):=by
 exists 3,sc_heights_from
 obtain⟨n,ts,ks,wv,kv,a,roof,rfl,wk,a0,a1,q⟩:=h
 have n24:=wk.2.1.n24
 refine⟨_,(zaf (zaj (zau za2 rfl T.z_tuple (by symm) (zaa (za4 (N:=["web","keep","a","roof"]) (sc0:=defScope s_heights_from) (own:=["length"]) (fr:=["roof"]) (js:=[3]) rfl (zda (zad O_fars_from hr rfl (zaa (pv 0) (zaa (pv 1) (zaa (pv 2) zab))))) (λ _ _ _ _=>(zag (i:=0) (by show ua7 [("length":Str),("roof":Str)];decide +kernel) rfl (uaw rfl))) (λ _ _ _ _=>zbe) (λ _ _ _ _=>(zg6 (zao zb6 (pv 0) za7 (nomark _)) (pv 1) (zal (zfl rfl) rfl T.z_min (by symm) (zaa (pv 0) (zaa (pv 1) zab)))))) zab)))),?_⟩
 refine⟨_,rfl,_,rfl,_,rfl,n,ts,ks,wv,kv,a,rfl,wk,a0,a1,λ l DD J S f1 e1 lD hD=>?_⟩
 refine⟨l,rfl,⟨_,SqL.of e1⟩,?_⟩
 refine zep e1 (λ σ'=>∃ o,σ'=[o,some (.int roof)]) (λ i v _=>v=.int (capO roof (Far.get DD i))) (by rw[uae];left) (by exact⟨none,rfl⟩) (λ _ _ _ _ _ h=>h) (λ i x σ' H' hx s2 sg C hC=>?_) (λ L ys H2 hL s2 hH hly hys=>?_)
 ·obtain⟨o,rfl⟩:=sg
  have hi:i<DD.length:=by have:=(uak.mp hx).1;rw[uae] at this;exact this
  rw[zg8 hi] at hx
  cases hx
  refine⟨_,rfl,rfl,_,rfl,?_⟩
  cases e:Far.get DD i with
  | none=>exact iteT ⟨_,rfl,hC _ _ _ ⟨_,rfl⟩ (Same.refl _) (by rw[e];rfl)⟩
  | some x=>exact iteF ⟨_,rfl,_,rfl,_,_,rfl,hC _ _ _ ⟨_,rfl⟩ (Same.refl _) (by rw[e];rfl)⟩
 ·have lY:ys.length=DD.length:=by rw[hly,uae]
  refine⟨L,_,rfl,hH,λ t J2 S2 f2 e2=>q t DD J2 (S.trans (s2.trans S2)) ?_ lD hD⟩
  rw[e2]
  refine congrArg (λ z=>some (HO.tup z)) (ucc λ i=>?_)
  by_cases hi:i<DD.length
  ·have e:ys[i]?=some ys[i]:=uad (by left)
   rw[e,hys i _ e,uaj,uaj,uad hi]
   unfold Far.get
   rw[uag,uad hi];rfl
  ·rw[uat (by left),uat (by rw[uae,uae];left)]
theorem zhe (T:Bi mg)(D:DefOk K mg "tree_from" s_tree_from ["web","keep","root"])(O_reached_from:‹2› "reached_from" ["web","keep","root"] (spReachedB K)):‹3› "tree_from" ["web","keep","root"] (spTreeB K):=by
 exists 2,sc_tree_from
 obtain⟨n,ts,ks,wv,kv,r,rfl,wk,r0,r1,q⟩:=h
 refine⟨_,(zac (zbn (zad O_reached_from hr rfl (zaa (pv 0) (zaa (pv 1) (zaa (pv 2) zab)))) (zbp (n:=2) rfl (zah (zag (i:=3) nd rfl (uaw rfl)) (zah (zag (i:=4) nd rfl (uaw rfl)) za1)))) (zaf (zaj (zau za2 rfl T.z_tuple (by symm) (zaa (pv 4) zab))))),?_⟩
 refine⟨_,rfl,_,rfl,_,rfl,n,ts,ks,wv,kv,r,rfl,wk,r0,r1,λ p lc la cvs as cs J S ep ec ea cl G=>?_⟩
 refine⟨p,_,rfl,SqT.of ep,rfl,_,_,rfl,_,_,rfl,rfl,?_⟩
 exact⟨_,rfl,la,_,rfl,ea,λ t J2 S2 f2 e2=>q t as cs J2 (S.trans S2) e2 G⟩
theorem zmg {ws:List V}{x:V}:atI (ws++[x]) (-1)=some x:=by
 unfold atI ixN
 rw[if_neg (by decide),if_pos (by rw[uar,uax];left)]
 show (ws++[x])[(-1+((ws++[x]).length:Int)).toNat]?=some x
 rw[uar,uax,show (-1+((ws.length+1:Nat):Int)).toNat=ws.length by left]
 simp
theorem zkk (T:Bi mg)(D:DefOk K mg "the_way" s_the_way ["web","keep","a","b"])(O_tree_from:‹3› "tree_from" ["web","keep","root"] (spTreeB K)):‹4› "the_way" ["web","keep","a","b"] (spWayB K):=by
 exists 3,sc_the_way
 obtain⟨n,ts,ks,wv,kv,a,b,rfl,wk,a0,a1,b0,b1,q⟩:=h
 have n24:=wk.2.1.n24
 have KB:=zbi wk.2.1 wk.2.2.2
 refine⟨_,(zac (zap (i:=4) nd rfl (uaw rfl) (zad O_tree_from hr rfl (zaa (pv 0) (zaa (pv 1) (zaa (pv 3) zab))))) (zac (zap (i:=5) nd rfl (uaw rfl) (zcb (zaa (pv 2) zab))) (zac (zdl PassesOwn.never (zao zoc (zaq zay (pv 5) (zft zc5 zae) (λ _ _=>rfl)) (pv 3) (nomark _)) (zac (zbb (zao zb6 (zaq zav (pv 4) (zaq zay (pv 5) (zft zc5 zae) (λ _ _=>rfl)) (λ _ _=>rfl)) za7 (nomark _)) (zaf (zaj za7)) zar) (zaf (zbq (zfu ubo ub4 ub3 zbx (pv 5) (zaa (zaq zav (pv 4) (zaq zay (pv 5) (zft zc5 zae) (λ _ _=>rfl)) (λ _ _=>rfl)) zab)))))) (zaf (zaj (zau za2 rfl T.z_tuple (by symm) (zaa (pv 5) zab))))))),?_⟩
 refine⟨_,rfl,_,rfl,_,rfl,n,ts,ks,wv,kv,b,rfl,wk,b0,b1,λ p as cs J S ep G=>?_⟩
 refine⟨_,rfl,(by show 1<=1000;decide),λ lw J1 S1 f1 e1=>?_⟩
 have lA:=G.alen
 have ep1:=S1 _ _ ep
 have fw:H lw=none:=S.free f1
 have nlp:p≠lw:=λ z=>by rw[z,f1] at ep;cases ep
 refine⟨λ m σ J2=>∃ (pre:List Nat)(c:Nat),σ=[some wv,some kv,some (.int a),some (.int b),some (.ref p),some (.ref lw)]/\Same H J2/\J2 p=some (.tup (as.map oa))/\J2 lw=some (.lst (natV (pre++[c])))/\c<n.toNat /\
  ((pre=[]/\c=a.toNat/\Far.get cs c=none/\m=0)\/∃ ca cc,Far.get cs a.toNat=some ca/\Far.get cs c=some cc/\(∀ P,Far.TPw as b.toNat P c->Far.TPw as b.toNat (P++pre.reverse) a.toNat)/\pre.length+1<=Far.beyond n.toNat cs cc.1/\m=cc.1.toNat),?_,?_⟩
 ·have e1':J1 lw=some (.lst (natV ([]++[a.toNat]))):=by rw[e1];show some (HO.lst [V.int a])=some (HO.lst [V.int ((a.toNat:Nat):Int)]);rw[ua6 a0]
  cases e:Far.get cs a.toNat with
  | none=>exact⟨0,[],a.toNat,rfl,S.trans S1,ep1,e1',by left,.inl ⟨rfl,rfl,e,rfl⟩⟩
  | some ca=>exact⟨_,[],a.toNat,rfl,S.trans S1,ep1,e1',by left,.inr ⟨ca,ca,rfl,e,λ P t=>by rw[List.reverse_nil,ud4];exact t,Far.zm4 (by left) e,rfl⟩⟩
 rintro m σ J2 ⟨pre,c,rfl,sm,hp,hw,hc,inv⟩
 have lastV:atI (natV (pre++[c])) (-1)=some (.int (c:Int)):=by
  unfold natV;rw[ucm];exact zmg
 have hat:atI (as.map oa) (c:Int)=some (oa (Far.get as c)):=zat (uav _) (by rw[uao];exact zmq (by left))
 refine⟨_,rfl,_,rfl,lw,_,_,_,rfl,rfl,SqL.of hw,lastV,_,rfl,rfl,_,rfl,?_⟩
 by_cases cb:c=b.toNat
 ·refine iteNS (by rw[cb,ua6 b0]) ?_
  refine⟨_,rfl,lw,_,rfl,hw,λ t J3 S3 f3 e3=>q _ J3 (sm.trans S3) ⟨cs,as,G,.inr ?_⟩⟩
  rcases inv with ⟨_,_,ec,_⟩ | ⟨ca,cc,e1',e2',tp,hl,_⟩
  ·rw[cb,G.start] at ec;cases ec
  ·have:=Far.zjr n.toNat cs cc.1
   refine⟨t,pre++[c],ca,rfl,e3,by rw[uar,uax];left,e1',?_⟩
   rw[uef]
   have:=tp [b.toNat] (by rw[cb];exact .root)
   rw[cb];exact this
 ·have ne:decide (V.int (c:Int)=V.int b)=false:=decide_eq_false λ z=>cb (by injection z with z;left)
  rw[ne]
  refine iteT ⟨λ σ' J'=>∃ m',m'<m/\∃ (pre:List Nat)(c:Nat),σ'=[some wv,some kv,some (.int a),some (.int b),some (.ref p),some (.ref lw)]/\Same H J'/\J' p=some (.tup (as.map oa))/\J' lw=some (.lst (natV (pre++[c])))/\c<n.toNat /\
   ((pre=[]/\c=a.toNat/\Far.get cs c=none/\m'=0)\/∃ ca cc,Far.get cs a.toNat=some ca/\Far.get cs c=some cc/\(∀ P,Far.TPw as b.toNat P c->Far.TPw as b.toNat (P++pre.reverse) a.toNat)/\pre.length+1<=Far.beyond n.toNat cs cc.1/\m'=cc.1.toNat),λ _ _ h=>h,?_⟩
  refine⟨_,rfl,_,rfl,_,rfl,lw,_,_,_,rfl,rfl,SqL.of hw,lastV,p,_,_,_,rfl,rfl,SqT.of hp,hat,rfl,_,rfl,?_⟩
  cases ea:Far.get as c with
  | none =>
   refine iteT (q _ _ sm ⟨cs,as,G,.inl ⟨rfl,?_⟩⟩)
   rcases inv with ⟨_,ec,e2',_⟩ | ⟨ca,cc,_,e2',_⟩
   ·rw[← ec];exact e2'
   ·exact absurd ea (G.has c cc e2' cb)
  | some u =>
   obtain⟨l,k,cu,mm,e1',e2'⟩:=G.arc _ _ ea
   rw[ea] at hat
   rcases inv with ⟨_,_,ec,_⟩ | ⟨ca,cc,e3',e4',tp,hl,rfl⟩
   ·rw[ec] at e2';cases e2'
   ·have ecc:cc=(cu.1+l,cu.2+2^k):=ubj (e4'.symm.trans e2')
    have l1:=KB.pos _ _ _ _ mm
    have cu0:=G.nn _ _ e1'
    have hu:=(zc0 wk.2.1 wk.2.2.2 mm).1
    have c1:cc.1=cu.1+l:=by rw[ecc]
    have bl:=Far.zp0 hu e1' (show cu.1<cc.1 by left)
    have ble:=Far.zjr n.toNat cs cu.1
    have lenW:(natV (pre++[c])).length=pre.length+1:=by unfold natV;rw[uae,uar,uax]
    refine iteF ⟨_,rfl,.inl ⟨rfl,_,SqL.of hw⟩,_,rfl,_,rfl,_,rfl,lw,_,_,_,rfl,rfl,SqL.of hw,lastV,p,_,_,_,rfl,rfl,SqT.of hp,hat,lw,_,_,rfl,rfl,hw,by left,λ J3 b3 e3=>?_⟩
    refine⟨cu.1.toNat,by left,pre++[c],u,rfl,λ c o z=>b3 _ _ (zak z fw) (sm _ _ z),b3 _ _ nlp hp,?_,hu,.inr ⟨ca,cu,e3',e1',λ P t=>?_,by rw[uar,uax];left,rfl⟩⟩
    ·rw[e3];unfold natV;rw[ucm (l₂:=[u])];rfl
    ·have:=tp (P++[c]) (.step ea t)
     rw[uef]
     rw[ueb] at this
     exact this
theorem zfx (T:Bi mg)(D:DefOk K mg "tie_between" s_tie_between ["web","a","b"]):‹1› "tie_between" ["web","a","b"] (spTB K):=by
 exists 0,sc_tie_between
 obtain⟨n,ts,wv,u,v,rfl,isw,few60,q⟩:=h
 have units:∀ {x:Nat},x<=3->(A.deeper (envOfC "tie_between" (defScope s_tie_between) s.heap.objs.size f cdv)).units+x<cLine:=λ {x} hu=>by have:=hr.units;left
 obtain⟨g0,g,ws,rfl,hg0,hg,hall,hlw⟩:=zaz isw
 refine⟨_,(zac (zap (i:=3) nd rfl (uaw rfl) (zbc (zaa (zal (zfl rfl) rfl T.z_min (by symm) (zaa (pv 1) (zaa (pv 2) zab))) (zaa (zal (zfm rfl) rfl T.z_max (by symm) (zaa (pv 1) (zaa (pv 2) zab))) zab)))) (zac (zb5 PassesOwn.never rfl (zev true rfl T.z_enumerate (zaa (zaq zav (pv 0) zae (λ _ _=>rfl)) zab)) (zbp (n:=2) rfl (zah (zag (i:=4) nd rfl (uaw rfl)) (zah (zag (i:=5) nd rfl (uaw rfl)) za1))) (zaf (zbb (zao zuc (zct zg3 (pv 5) zdx (zdw zae)) (pv 3) (nomark _)) (zaf (zaj (pv 4))) zar))) (zaf (zaj za7)))),?_⟩
 refine⟨_,rfl,_,rfl,_,_,rfl,_,rfl,_,rfl,_,_,rfl,(by show 2<=1000;decide),λ te J1 S1 f1 e1=>?_⟩
 have eMin:(if (v:Int)<(u:Int) then (v:Int) else u)=min (u:Int) v:=by split <;> left
 have eMax:(if (v:Int)>(u:Int) then (v:Int) else u)=max (u:Int) v:=by split <;> left
 rw[eMin,eMax] at e1
 refine⟨_,rfl,g0,_,_,_,rfl,rfl,SqT.of (S1 _ _ hg0),rfl,g,rfl,⟨ws,SqX.of (S1 _ _ hg)⟩,?_⟩
 refine⟨λ i m σ J=>m=ts.length-i/\i<=ts.length/\(∃ y4 y5:Option V,σ=[some (.ref g0),some (.int (u:Int)),some (.int (v:Int)),some (.ref te),y4,y5])/\Same J1 J/\∀ k,k<i->isTB ts u v k=false,⟨_,rfl,ube _,⟨none,none,rfl⟩,Same.refl _,λ k hk=>(by left)⟩,?_⟩
 rintro i m σ J ⟨rfl,hi,⟨y4,y5,rfl⟩,sm,pre⟩
 have sH:=S1.trans sm
 have sq:SqX true K J g ws:=SqX.of (sH _ _ hg)
 by_cases hlt:i<ts.length
 ·refine .inr ⟨⟨ws,ws[i]'(by left),sq,by simp [show i<ws.length by left]⟩,λ σ' J'=>∃ m',m'<ts.length-i/\(m'=ts.length-(i+1)/\i+1<=ts.length/\(∃ y4 y5:Option V,σ'=[some (.ref g0),some (.int (u:Int)),some (.int (v:Int)),some (.ref te),y4,y5])/\Same J1 J'/\∀ k,k<i+1->isTB ts u v k=false),λ _ _ h=>h,λ x J' hy=>?_⟩
  obtain⟨T',y,hT,rfl,rfl,ey⟩:=hy
  have hyi:=ey ws sq
  obtain⟨ta,hta,htie⟩:=zbz hall hlt
  rw[hta] at hyi
  cases hyi
  have S2:=zam (o:=.tup [.int (i:Nat),.ref ta]) hT
  have htie':=S2 _ _ (sH _ _ htie)
  refine⟨T',_,rfl,SqT.of zai,rfl,_,_,rfl,_,_,rfl,rfl,?_⟩
  refine⟨_,rfl,_,rfl,ta,_,rfl,htie',λ tc J3 S3 e3=>?_⟩
  have e3':J3 tc=some (.tup (([(tieAt ts i).1,(tieAt ts i).2.1]:List Int).map V.int)):=e3
  have e1':J3 te=some (.tup (([min (u:Int) v,max (u:Int) v]:List Int).map V.int)):=S3 _ _ (S2 _ _ (sm _ _ e1))
  refine⟨_,rfl,.tuple (([(tieAt ts i).1,(tieAt ts i).2.1]:List Int).map .int),.tuple (([min (u:Int) v,max (u:Int) v]:List Int).map .int),⟨tc,_,rfl,e3',IsAll.ints _⟩,⟨te,_,rfl,e1',IsAll.ints _⟩,zb8 _,zb8 _,?_,_,rfl,?_⟩
  ·have d1:=zje [(tieAt ts i).1,(tieAt ts i).2.1]
   have d2:PyData.depth (.tuple (([(tieAt ts i).1,(tieAt ts i).2.1]:List Int).map .int))=PyData.depthAll (([(tieAt ts i).1,(tieAt ts i).2.1]:List Int).map .int)+1:=rfl
   exact units (ubt (Nat.min_le_left _ _) (by rw[d2];left))
  have eq:PyData.eqv (.tuple (([(tieAt ts i).1,(tieAt ts i).2.1]:List Int).map .int)) (.tuple (([min (u:Int) v,max (u:Int) v]:List Int).map .int))=isTB ts u v i:=zq1 _ _ _ _
  rw[eq]
  have SS:=S2.trans S3
  refine ite2 (λ c=>?_) (λ c=>?_)
  ·have et:tbN ts u v=some i:=by
    unfold tbN
    refine List.find?_range_eq_some.mpr ⟨c,uaq.mpr hlt,λ j hj=>?_⟩
    rw[pre j hj];rfl
   have q1:=q J3 (sH.trans SS)
   rw[et] at q1
   exact⟨_,rfl,q1⟩
  ·refine⟨ts.length-(i+1),by left,rfl,hlt,⟨_,_,rfl⟩,sm.trans SS,λ k hk=>?_⟩
   by_cases z:k=i
   ·rw[z];exact ucr.mpr c
   ·exact pre k (by left)
 ·have e:i=ts.length:=by left
  subst e
  refine .inl ⟨⟨ws,sq,by left⟩,?_⟩
  have et:tbN ts u v=none:=by
   unfold tbN
   refine List.find?_eq_none.mpr λ k hk=>?_
   rw[pre k (uaq.mp hk)];exact uau
  have q1:=q J sH
  rw[et] at q1
  exact q1
theorem zhf (T:Bi mg)(D:DefOk K mg "ties_along" s_ties_along ["web","places"])(O_tie_between:‹1› "tie_between" ["web","a","b"] (spTB K)):‹2› "ties_along" ["web","places"] (spAlong K):=by
 exists 1,sc_ties_along
 obtain⟨n,ts,wv,t,ws,rfl,isw,few60,ht,l24,lk,q⟩:=h
 have lenW:(natV ws).length=ws.length:=by unfold natV;rw[uae]
 have ecut:cutV (natV ws) (some 1) none=natV (ws.drop 1):=by
  unfold cutV
  have h1:HT.sIx (natV ws).length (natV ws).length none=(natV ws).length:=rfl
  rw[h1]
  by_cases z:ws=[]
  ·subst z;rfl
  ·have pos:=udy.mpr z
   have h0:HT.sIx (natV ws).length 0 (some 1)=1:=by
    unfold HT.sIx
    simp
    left
   rw[h0,uc6 (by rw[udm];exact uai _)]
   unfold natV
   rw[ug3]
 refine⟨_,(zaf (zaj (za4 (N:=["web","places"]) (sc0:=defScope s_ties_along) (own:=["one","other"]) (fr:=["web"]) (js:=[0]) rfl (ziw true true rfl T.z_zip (zaa (pv 1) (zaa (zct zg3 (pv 1) (zdw zae) zdx) zab))) (λ _ _ _ _=>(zca (n:=2) rfl (zah (zag (i:=0) (by show ua7 [("one":Str),("other":Str),("web":Str)];decide +kernel) rfl (uaw rfl)) (zah (zag (i:=1) (by show ua7 [("one":Str),("other":Str),("web":Str)];decide +kernel) rfl (uaw rfl)) za1)))) (λ _ _ _ _=>zbe) (λ _ _ _ _=>(zad O_tie_between hr rfl (zaa (pv 2) (zaa (pv 0) (zaa (pv 1) zab)))))))),?_⟩
 refine⟨_,rfl,_,rfl,_,rfl,t,_,rfl,ht,λ t2 J1 S1 e1=>?_⟩
 rw[ecut] at e1
 refine⟨t,t2,rfl,⟨_,SqX.of (t:=true) (S1 _ _ ht)⟩,⟨_,SqX.of (t:=true) e1⟩,?_⟩
 have lenD:(natV (ws.drop 1)).length=ws.length-1:=by unfold natV;rw[uae,udm]
 refine zdr (t1:=true) (t2:=true) (xs:=natV ws) (zs:=natV (ws.drop 1)) (S1 _ _ ht) e1 (λ σ'=>∃ o1 o2,σ'=[o1,o2,some wv]) (λ i x _=>x=V.int (((tbN ts (ws.getD i 0) (ws.getD (i+1) 0)).getD 0:Nat):Int)) (by left) (by exact⟨none,none,rfl⟩) (λ _ _ _ _ _ h=>h) (λ i x z U σ' H' hxi hzi s2 hU sg C hC=>?_) (λ L ys H2 hL s2 hH hly hys=>?_)
 ·obtain⟨o1,o2,rfl⟩:=sg
  obtain⟨u,hu,rfl⟩:=zb7 hxi
  obtain⟨v,hv,rfl⟩:=zb7 hzi
  rw[uen,ufb] at hv
  obtain⟨k,ek,hk⟩:=ze8 lk hu hv
  have eu:ws.getD i 0=u:=by rw[uag,hu];rfl
  have ev:ws.getD (i+1) 0=v:=by rw[uag,hv];rfl
  refine⟨U,_,rfl,SqT.of zai,rfl,_,_,rfl,_,_,rfl,rfl,?_⟩
  have SU:=zam (o:=.tup [V.int (u:Int),.int (v:Int)]) hU
  refine⟨_,rfl,_,rfl,_,rfl,n,ts,wv,u,v,rfl,Is.same (S1.trans (s2.trans SU)) _ isw,few60,λ H5 s5=>hC _ _ _ ⟨_,_,rfl⟩ (SU.trans s5) ?_⟩
  rw[eu,ev,ek];rfl
 ·refine q L H2 (S1.trans s2) ?_
  rw[hH]
  refine congrArg (λ z=>some (HO.lst z)) (ucc λ i=>?_)
  have hl2:ys.length=ws.length-1:=by rw[hly,lenW,lenD];left
  unfold alongN natV
  rw[uby,uaj]
  by_cases hi:i<ws.length-1
  ·have e:ys[i]?=some ys[i]:=uad (by left)
   rw[e,hys i _ e,ub9 hi];rfl
  ·rw[uat (by left),uat (by rw[uay];left)];rfl
theorem zhc (T:Bi mg)(D:DefOk K mg "way_length" s_way_length ["web","way"])(O_ties_along:‹2› "ties_along" ["web","places"] (spAlong K)):‹3› "way_length" ["web","way"] (spWLen K):=by
 exists 2,sc_way_length
 obtain⟨n,ts,wv,t,ws,rfl,isw,few60,ht,l24,lk,q⟩:=h
 obtain⟨g0,g,tws,rfl,hg0,hg,hall,hlw⟩:=zaz isw
 refine⟨_,(zaf (zaj (zal (zpp rfl) rfl T.z_sum (by symm) (zaa (za4 (N:=["web","way"]) (sc0:=defScope s_way_length) (own:=["tie"]) (fr:=["web"]) (js:=[0]) rfl (zda (zad O_ties_along hr rfl (zaa (pv 0) (zaa (pv 1) zab)))) (λ _ _ _ _=>(zag (i:=0) (by show ua7 [("tie":Str),("web":Str)];decide +kernel) rfl (uaw rfl))) (λ _ _ _ _=>zbe) (λ _ _ _ _=>(zaq zhu (zaq zhu (zaq zhu (pv 1) zae (λ _ _=>rfl)) (pv 0) (λ _ _=>rfl)) zae (λ _ _=>rfl)))) zab)))),?_⟩
 refine⟨_,rfl,_,rfl,n,ts,_,t,ws,rfl,isw,few60,ht,l24,lk,λ l J1 S1 e1=>?_⟩
 refine⟨l,rfl,⟨_,SqL.of e1⟩,?_⟩
 have lenA:(natV (alongN ts ws)).length=ws.length-1:=by unfold natV alongN;rw[uae,uae,uay]
 refine zep e1 (λ σ'=>∃ o,σ'=[o,some (.ref g0)]) (λ i x _=>x=V.int (tieAt ts ((alongN ts ws).getD i 0)).2.2) (by left) (by exact⟨none,rfl⟩) (λ _ _ _ _ _ h=>h) (λ i x σ' H' hx s2 sg C hC=>?_) (λ L ys H2 hL s2 hH hly hys=>?_)
 ·obtain⟨o,rfl⟩:=sg
  obtain⟨k,hk,rfl⟩:=zb7 hx
  have hkl:=zr5 lk k (ua2 hk)
  obtain⟨ta,hta,htie⟩:=zbz hall hkl
  have s12:=S1.trans s2
  have ek:(alongN ts ws).getD i 0=k:=by rw[uag,hk];rfl
  exact⟨_,rfl,g0,_,_,_,rfl,rfl,SqT.of (s12 _ _ hg0),rfl,_,rfl,g,_,_,_,rfl,rfl,SqT.of (s12 _ _ hg),zat (uav _) hta,ta,_,_,_,rfl,rfl,SqT.of (s12 _ _ htie),rfl,hC _ _ _ ⟨_,rfl⟩ (Same.refl _) (by rw[ek])⟩
 ·refine⟨L,(alongN ts ws).map λ k=>(tieAt ts k).2.2,rfl,?_,?_⟩
  ·rw[hH]
   refine congrArg (λ z=>some (HO.lst z)) (ucc λ i=>?_)
   have hl2:ys.length=ws.length-1:=by rw[hly,lenA]
   have la:(alongN ts ws).length=ws.length-1:=by unfold alongN;rw[uae,uay]
   rw[uaj,uaj]
   by_cases hi:i<ws.length-1
   ·have e:ys[i]?=some ys[i]:=uad (by left)
    have e2:(alongN ts ws)[i]?=some ((alongN ts ws).getD i 0):=by rw[uag,uad (by left)];rfl
    rw[e,hys i _ e,e2];rfl
   ·rw[uat (by left),uat (by left)];rfl
  ·rw[zj5]
   exact q H2 (S1.trans s2)
theorem zq3 (T:Bi mg)(D:DefOk K mg "whole" s_whole ["web"]):‹1› "whole" ["web"] (spWhole K):=by
 exists 0,sc_whole
 obtain⟨n,ts,v,rfl,hw,few60,q⟩:=h
 obtain⟨g0,g,ws,rfl,hg0,hg,hall,hlw⟩:=zaz hw
 refine⟨_,(zaf (zaj (zau (zc8 rfl) rfl T.z_tuple (by symm) (zaa (zau zd8 rfl T.z_range (by symm) (zaa (zal zas rfl T.z_len (by symm) (zaa (zaq zav (pv 0) zae (λ _ _=>rfl)) zab)) zab)) zab)))),?_⟩
 refine⟨_,rfl,g0,_,_,_,rfl,rfl,SqT.of hg0,rfl,g,_,rfl,.inr (SqT.of hg),_,rfl,λ r hr'=>?_⟩
 refine⟨r,_,rfl,zai,by left,by left,λ l H' S f e=>q l H' ((zam hr').trans S) ((zam (o:=.rng 0 _) hr').free f) ?_⟩
 rw[e,show ((ws.length:Nat):Int).toNat=ts.length by left]
theorem zkm (T:Bi mg)(D:DefOk K mg "not_kept" s_not_kept ["web","keep"])(O_whole:‹1› "whole" ["web"] (spWhole K)):‹2› "not_kept" ["web","keep"] (spOuts K):=by
 exists 1,sc_not_kept
 obtain⟨n,ts,ks,wv,kv,rfl,wk,q⟩:=h
 have few60:=wk.2.1.few
 obtain⟨kp,rfl,hkp⟩:=zd3 wk.2.2.1
 rw[← zbg] at hkp
 refine⟨_,(zaf (zaj (za4 (N:=["web","keep"]) (sc0:=defScope s_not_kept) (own:=["tie"]) (fr:=["keep"]) (js:=[1]) rfl (zb0 (zad O_whole hr rfl (zaa (pv 0) zab))) (λ _ _ _ _=>(zag (i:=0) (by show ua7 [("tie":Str),("keep":Str)];decide +kernel) rfl (uaw rfl))) (λ _ _ _ _=>(zci (zao zdm (pv 0) (pv 1) (by with_unfolding_all rfl)))) (λ _ _ _ _=>(pv 0))))),?_⟩
 refine⟨_,rfl,n,ts,wv,rfl,wk.1,few60,λ l H1 s1 f1 e1=>?_⟩
 refine⟨l,rfl,⟨_,SqT.of e1⟩,?_⟩
 have len:(natV (uaf ts.length)).length=ts.length:=by unfold natV;rw[uae,uay]
 refine zjg e1 (λ σ'=>∃ o,σ'=[o,some (.ref kp)]) (λ i=>if decide (i∉ks)=true then some (V.int (i:Int)) else none) (by left) (by exact⟨none,rfl⟩) (λ i x σ' H' hx s2 sg C L hC hL=>?_) (λ L H2 hL s2 hH=>?_)
 ·obtain⟨o,rfl⟩:=sg
  obtain⟨k,hk,rfl⟩:=zb7 hx
  have ek:k=i:=by
   have hi:=(uak.mp hk).1
   rw[uay] at hi
   rw[ub9 hi] at hk
   cases hk;rfl
  subst ek
  refine⟨_,rfl,_,rfl,kp,_,rfl,.inr (SqT.of ((s1.trans s2) _ _ hkp)),rfl,zcw ks,_,rfl,?_⟩
  show if (!inV (V.int (k:Int)) (natV ks))=true then _ else _
  rw[zd4 (uav _),uao]
  refine iteB2 (λ c=>?_) (λ c=>?_)
  ·refine hL _ _ ⟨_,rfl⟩ (Same.refl _) ?_
   rw[if_neg]
   exact λ z=>of_decide_eq_true z (of_decide_eq_true c)
  ·refine⟨_,rfl,hC _ _ _ ⟨_,rfl⟩ (Same.refl _) ?_⟩
   rw[if_pos (decide_eq_true (of_decide_eq_false c))]
 ·refine q L H2 (s1.trans s2) (s1.free hL) ?_
  rw[hH,len,zen];rfl
theorem zf2 (T:Bi mg)(D:DefOk K mg "common_part" s_common_part ["one","other"]):‹1› "common_part" ["one","other"] spGcd:=by
 exists 0,sc_common_part
 obtain⟨a,b,rfl,a0,b0,q⟩:=h
 refine⟨_,(zac (zdl PassesOwn.never (zao zhb (pv 1) zae (nomark _)) (zac (zap (i:=2) nd rfl (uaw rfl) (zax zcl (pv 0) (pv 1))) (zac (zap (i:=0) nd rfl (uaw rfl) (pv 1)) (zaf (zap (i:=1) nd rfl (uaw rfl) (pv 2)))))) (zaf (zaj (pv 0)))),?_⟩
 refine⟨λ m σ J=>∃ (p' q':Int)(y:Option V),σ=[some (.int p'),some (.int q'),y]/\J=H/\0<=p'/\0<=q'/\uda p'.toNat q'.toNat=uda a.toNat b.toNat/\m=q'.toNat,⟨_,a,b,none,rfl,rfl,a0,b0,rfl,rfl⟩,?_⟩
 rintro m σ J ⟨p',q',y,rfl,rfl,p0,q0,eg,rfl⟩
 refine⟨_,rfl,_,_,rfl,rfl,_,rfl,ite2 (λ c=>?_) (λ c=>?_)⟩
 ·have qp:0<q':=of_decide_eq_true c
  refine⟨λ σ' J'=>∃ m',m'<q'.toNat/\∃ (p2 q2:Int)(y:Option V),σ'=[some (.int p2),some (.int q2),y]/\J'=J/\0<=p2/\0<=q2/\uda p2.toNat q2.toNat=uda a.toNat b.toNat/\m'=q2.toNat,λ _ _ h=>h,?_⟩
  have lt:=udc p' qp
  have nn:=udg p' (show q'≠0 by left)
  exact⟨_,rfl,_,rfl,_,_,rfl,rfl,qp,_,rfl,_,rfl,(p'%q').toNat,by left,q',p'%q',_,rfl,rfl,q0,nn,(zrl p0 qp).trans eg,rfl⟩
 ·have qz:q'=0:=by have:=of_decide_eq_false (ucr.mpr c);left
  subst qz
  have e:p'=((uda a.toNat b.toNat:Nat):Int):=by
   rw[← eg,show (0:Int).toNat=0 from rfl,Nat.gcd_zero_right];left
  refine⟨_,rfl,?_⟩
  rw[e];exact q
theorem zf1 (T:Bi mg)(D:DefOk K mg "least_ratio" s_least_ratio ["web","keep"])(O_not_kept:‹4› "not_kept" ["web","keep"] (spOuts K))(O_far:‹4› "far" ["web","keep","a","b"] (spFar K))(O_common_part:‹4› "common_part" ["one","other"] spGcd):‹5› "least_ratio" ["web","keep"] (spRatio K):=by
 exists 4,sc_least_ratio
 obtain⟨n,ts,ks,wv,kv,rfl,wk,q⟩:=h
 have ok:=wk.2.1
 have few60:=ok.few
 obtain⟨g0,g,ws,rfl,hg0,hg,hall,hlw⟩:=zaz wk.1
 have P:=zbh ok wk.2.2.2
 refine⟨_,(zac (zap (i:=2) nd rfl (uaw rfl) zae) (zac (zap (i:=3) nd rfl (uaw rfl) zae) (zac (zb5 PassesOwn.never rfl (zda (zad O_not_kept hr rfl (zaa (pv 0) (zaa (pv 1) zab)))) (zag (i:=4) nd rfl (uaw rfl)) (zac (zbn (zaq zav (zaq zav (pv 0) zae (λ _ _=>rfl)) (pv 4) (λ _ _=>rfl)) (zbp (n:=3) rfl (zah (zag (i:=5) nd rfl (uaw rfl)) (zah (zag (i:=6) nd rfl (uaw rfl)) (zah (zag (i:=7) nd rfl (uaw rfl)) za1))))) (zac (zap (i:=8) nd rfl (uaw rfl) (zad O_far hr rfl (zaa (pv 0) (zaa (pv 1) (zaa (pv 5) (zaa (pv 6) zab)))))) (zac (zbb (zao zb6 (pv 8) za7 (nomark _)) (zaf (zaj za7)) zar) (zaf (zbb (zao zhb (zax zce (pv 8) (pv 3)) (zax zce (pv 2) (pv 7)) (nomark _)) (zac (zap (i:=2) nd rfl (uaw rfl) (pv 8)) (zaf (zap (i:=3) nd rfl (uaw rfl) (pv 7)))) zar)))))) (zac (zap (i:=9) nd rfl (uaw rfl) (zad O_common_part hr rfl (zaa (pv 2) (zaa (pv 3) zab)))) (zaf (zaj (zbc (zaa (zax zlu (pv 2) (pv 9)) (zaa (zax zlu (pv 3) (pv 9)) zab))))))))),?_⟩
 refine⟨_,rfl,_,rfl,n,ts,ks,_,kv,rfl,wk,λ lo H1 s1 f1 e1=>?_⟩
 refine⟨lo,rfl,⟨_,SqL.of e1⟩,?_⟩
 have len:(natV (outs ts.length ks)).length=(outs ts.length ks).length:=by unfold natV;rw[uae]
 refine zhv (xs:=natV (outs ts.length ks)) (λ i σ J=>∃ (p b:Int)(y4 y5 y6 y7 y8 y9:Option V),σ=[some (.ref g0),some kv,some (.int p),some (.int b),y4,y5,y6,y7,y8,y9]/\Same H1 J/\0<=p/\1<=b/\b<=10^18/\ratF (gO ts ks) ts ((outs ts.length ks).drop i) (p,b)=ratF (gO ts ks) ts (outs ts.length ks) (1,1)) ⟨1,1,none,none,none,none,none,none,rfl,Same.refl _,by decide,by decide,by decide,rfl⟩ (λ i σ J _ h=>?_) (λ i x σ J hx h=>?_) (λ σ J h=>?_)
 ·obtain⟨p,b,y4,y5,y6,y7,y8,y9,rfl,sm,_⟩:=h
  exact SqL.of (sm _ _ e1)
 ·obtain⟨p,b,y4,y5,y6,y7,y8,y9,rfl,sm,p0,b1,b18,er⟩:=h
  obtain⟨k,hk,rfl⟩:=zb7 hx
  have hkl:k<ts.length:=(outs_mem.mp (ua2 hk)).1
  obtain⟨ta,hta,htie⟩:=zbz hall hkl
  have tk:=ok.tie _ (za6 hkl).2
  have sH:=s1.trans sm
  have ed:(outs ts.length ks).drop i=k::(outs ts.length ks).drop (i+1):=by
   have hi:=(uak.mp hk)
   rw[uep hi.1,hi.2]
  rw[ed] at er
  refine⟨_,rfl,g0,_,_,_,rfl,rfl,SqT.of (sH _ _ hg0),rfl,_,rfl,g,_,_,_,rfl,rfl,SqT.of (sH _ _ hg),zat (uav _) hta,ta,_,rfl,SqT.of (sH _ _ htie),rfl,_,_,rfl,_,_,rfl,_,_,rfl,rfl,?_⟩
  refine⟨_,rfl,_,rfl,_,rfl,_,rfl,n,ts,ks,_,kv,_,_,rfl,wk.same sH,by left,by left,by left,by left,λ o J2 S2 ho=>?_⟩
  have eG:gO ts ks k=o:=zrm ho
  refine⟨_,rfl,rfl,_,rfl,?_⟩
  cases o with
  | none =>
   refine iteT (q _ _ (sH.trans S2) ?_)
   have:ratio ts ks=none:=by
    unfold ratio
    rw[← er]
    show Option.map lowest (match gO ts ks k with | none=>none | some g=>_)=none
    rw[eG];rfl
   rw[this];rfl
  | some gr =>
   have gr0:=(ho.1 gr rfl).nonneg P
   have er':ratF (gO ts ks) ts ((outs ts.length ks).drop (i+1)) (if p*(tieAt ts k).2.2<gr*b then (gr,(tieAt ts k).2.2) else (p,b))=ratF (gO ts ks) ts (outs ts.length ks) (1,1):=by
    rw[← er]
    show _=(match gO ts ks k with | none=>none | some g=>_)
    rw[eG]
   refine iteF ⟨_,rfl,_,rfl,_,_,rfl,rfl,.inr ⟨by left,by left⟩,_,rfl,_,rfl,_,_,rfl,rfl,.inr ⟨by left,by left⟩,_,_,rfl,rfl,_,rfl,ite2 (λ c=>?_) (λ c=>?_)⟩
   ·rw[if_pos (of_decide_eq_true c)] at er'
    exact⟨_,rfl,_,rfl,gr,(tieAt ts k).2.2,_,_,_,_,_,_,rfl,sm.trans S2,gr0,by left,by left,er'⟩
   ·rw[if_neg (of_decide_eq_false (ucr.mpr c))] at er'
    exact⟨p,b,_,_,_,_,_,_,rfl,sm.trans S2,p0,b1,b18,er'⟩
 ·obtain⟨p,b,y4,y5,y6,y7,y8,y9,rfl,sm,p0,b1,b18,er⟩:=h
  rw[len,List.drop_length] at er
  have eR:ratio ts ks=some (lowest (p,b)):=by
   unfold ratio
   rw[← er];rfl
  have gp:0<uda p.toNat b.toNat:=ug1 _ (by left)
  have gl:uda p.toNat b.toNat<=b.toNat:=Nat.gcd_le_right _ (by left)
  refine⟨_,rfl,_,rfl,p,b,rfl,p0,by left,?_⟩
  refine⟨_,rfl,_,rfl,_,_,rfl,rfl,⟨by left,by left⟩,_,rfl,_,rfl,_,_,rfl,rfl,⟨by left,by left⟩,(by show 2<=1000;decide),λ t J2 S2 f2 e2=>q _ _ (s1.trans (sm.trans S2)) ?_⟩
  rw[eR]
  exact⟨t,rfl,e2⟩
theorem zkn (T:Bi mg)(D:DefOk K mg "is_whole" s_is_whole ["thing"]):‹1› "is_whole" ["thing"] (spD1 K (λ _=>True) wholeB):=by
 exists 0,sc_is_whole
 obtain⟨d,v,rfl,hd,_,q⟩:=h
 have q0:=q H (Same.refl H)
 have ty:=zu2 hd
 refine⟨_,(zaf (zaj (zc6 (zal (zcz (n:="int")) rfl T.z_isinstance (by symm) (zaa (pv 0) (zaa (zdy (v:=.ty "int") rfl T.z_int (by symm) rfl) zab))) (zb1 (zt8 (zal (zcz (n:="bool")) rfl T.z_isinstance (by symm) (zaa (pv 0) (zaa (zdy (v:=.ty "bool") rfl T.z_bool (by symm) rfl) zab)))))))),?_⟩
 cases d with
 | int i=>exact⟨_,rfl,_,_,_,rfl,ty,rfl,_,rfl,iteT ⟨_,rfl,_,_,_,rfl,ty,rfl,_,rfl,q0⟩⟩
 | bool b=>exact⟨_,rfl,_,_,_,rfl,ty,rfl,_,rfl,iteT ⟨_,rfl,_,_,_,rfl,ty,rfl,_,rfl,q0⟩⟩
 | none=>exact⟨_,rfl,_,_,_,rfl,ty,rfl,_,rfl,iteF q0⟩
 | str x=>exact⟨_,rfl,_,_,_,rfl,ty,rfl,_,rfl,iteF q0⟩
 | tuple ds=>exact⟨_,rfl,_,_,_,rfl,ty,rfl,_,rfl,iteF q0⟩
 | list ds=>exact⟨_,rfl,_,_,_,rfl,ty,rfl,_,rfl,iteF q0⟩
 | dict ds=>exact⟨_,rfl,_,_,_,rfl,ty,rfl,_,rfl,iteF q0⟩
def spPlace (K:uac):Sp:=λ vs H Q _=>∃ (n:Int)(ts:List Tie)(wv:V)(i:Int),vs=[wv,.int i]/\Is K H (webD n ts) wv/\∀ H',Same H H'->Q (.bl (decide (0<=i)&&decide (i<n))) H'
def placesB (n:Int)(ns:List Int):Bool:=ns.all λ i=>decide (0<=i)&&decide (i<n)
def spUnlike (K:uac):Sp:=λ vs H Q _=>∃ (n:Int)(ts:List Tie)(wv:V)(p:Addr)(ns:List Int),vs=[wv,.ref p]/\Is K H (webD n ts) wv/\IntT H p ns/\∀ H',Same H H'->Q (.bl (placesB n ns&&decide ns.Nodup)) H'
theorem zko (T:Bi mg)(D:DefOk K mg "is_place" s_is_place ["web","thing"])(O_is_whole:‹1› "is_whole" ["thing"] (spD1 K (λ _=>True) wholeB)):‹2› "is_place" ["web","thing"] (spPlace K):=by
 exists 1,sc_is_place
 obtain⟨n,ts,wv,i,rfl,isw,q⟩:=h
 obtain⟨g0,g,ws,rfl,hg0,_⟩:=zaz isw
 refine⟨_,(zaf (zaj (zc6 (zad O_is_whole hr rfl (zaa (pv 1) zab)) (zb1 (zls zha zec zae (pv 1) (zaq zav (pv 0) zae (λ _ _=>rfl))))))),?_⟩
 refine⟨_,rfl,.int i,.int i,rfl,rfl,trivial,λ H1 s1=>⟨_,rfl,iteT ?_⟩⟩
 have q0:=q H1 s1
 refine⟨_,rfl,_,_,rfl,rfl,_,rfl,ite2 (λ c=>?_) (λ c=>?_)⟩
 ·rw[show decide (0<=i)=true from c,Bool.true_and] at q0
  exact⟨_,rfl,g0,_,_,_,rfl,rfl,SqT.of (s1 _ _ hg0),rfl,_,_,rfl,rfl,q0⟩
 ·rw[show decide (0<=i)=false from ucr.mpr c,ugu] at q0
  exact q0
theorem zc2 (T:Bi mg)(D:DefOk K mg "are_unlike_places" s_are_unlike_places ["web","thing"])(O_is_place:‹2› "is_place" ["web","thing"] (spPlace K)):‹3› "are_unlike_places" ["web","thing"] (spUnlike K):=by
 exists 2,sc_are_unlike_places
 obtain⟨n,ts,wv,p,ns,rfl,isw,it,q⟩:=h
 have lm:(ns.map V.int).length=ns.length:=uae _
 have l1000:=it.2
 refine⟨_,(zac (zbb (PW.pt (zc1 (zbj (zbf (zal (zcz (n:="tuple")) rfl T.z_isinstance (by symm) (zaa (pv 1) (zaa (zdy (v:=.ty "tuple") rfl T.z_tuple (by symm) rfl) zab))))) (zcd (zbj (zbf (zal (zbv rfl) rfl T.z_all (by symm) (zaa (za4 (N:=["web","thing"]) (sc0:=defScope s_are_unlike_places) (own:=["part"]) (fr:=["web"]) (js:=[0]) rfl (zb0 (pv 1)) (λ _ _ _ _=>(zag (i:=0) (by show ua7 [("part":Str),("web":Str)];decide +kernel) rfl (uaw rfl))) (λ _ _ _ _=>zbe) (λ _ _ _ _=>(zad O_is_place hr rfl (zaa (pv 1) (zaa (pv 0) zab))))) zab))))))) (zaf (zaj zb2)) zar) (zaf (zaj (za0 zcc (zal zpu rfl T.z_len (by symm) (zaa (zau (zpq rfl) rfl T.z_set (by symm) (zaa (pv 1) zab)) zab)) (zal zas rfl T.z_len (by symm) (zaa (pv 1) zab)) (nomark _))))),?_⟩
 refine⟨_,rfl,_,_,_,rfl,TyOf.tup it.1,rfl,_,rfl,iteF ?_⟩
 refine⟨_,rfl,p,rfl,⟨_,SqT.of it.1⟩,?_⟩
 refine zcx it.1 (λ σ'=>∃ o,σ'=[o,some wv]) (λ i v _=>v=.bl ((λ i=>decide (0<=ns.getD i 0)&&decide (ns.getD i 0<n)) i)) (by left) (by exact⟨none,rfl⟩) (λ _ _ _ _ _ h=>h) (λ i x σ' H' hx s2 sg C hC=>?_) (λ L ys H2 hL s2 hH hly hys=>?_)
 ·obtain⟨o,rfl⟩:=sg
  rw[uaj] at hx
  obtain⟨j,hj,rfl⟩:=uba.mp hx
  have ej:ns.getD i 0=j:=by rw[uag,hj];rfl
  refine⟨_,rfl,_,rfl,n,ts,wv,j,rfl,Is.same s2 _ isw,λ H5 s5=>hC _ _ _ ⟨_,rfl⟩ s5 ?_⟩
  show V.bl (decide (0<=j)&&decide (j<n))=V.bl (decide (0<=ns.getD i 0)&&decide (ns.getD i 0<n))
  rw[ej]
 ·refine⟨L,_,rfl,SqL.of (by rw[hH,zbw (hly.trans lm) hys]),_,rfl,?_⟩
  have eall:((uaf ns.length).map λ i=>decide (0<=ns.getD i 0)&&decide (ns.getD i 0<n)).all id=placesB n ns:=by
   have z:=congrArg (List.map λ j:Int=>decide (0<=j)&&decide (j<n)) (L3.zba ns 0)
   rw[uby] at z
   have z':((uaf ns.length).map λ i=>decide (0<=ns.getD i 0)&&decide (ns.getD i 0<n))=ns.map λ j=>decide (0<=j)&&decide (j<n):=z
   rw[z',uec];rfl
  have q1:∀ {J:Hp},Same H2 J->Q (.bl (placesB n ns&&decide ns.Nodup)) J:=λ S=>q _ (s2.trans S)
  refine iteB2 (λ c=>?_) (λ c=>?_)
  ·rw[eall] at c
   refine⟨_,rfl,p,ns,rfl,s2 _ _ it.1,l1000,λ u J S f e=>?_⟩
   refine⟨u,_,_,rfl,e,_,rfl,p,_,rfl,.inr (SqT.of (S _ _ (s2 _ _ it.1))),rfl,?_⟩
   have q2:=q1 S
   rw[c,Bool.true_and] at q2
   have ed:decide (V.int ((HT.setN ns ns.length:Nat):Int)=V.int (((ns.map V.int).length:Nat):Int))=decide ns.Nodup:=by
    rw[lm]
    by_cases z:ns.Nodup
    ·rw[decide_eq_true z,(zgn ns).mpr z,decide_eq_true rfl]
    ·rw[decide_eq_false z]
     exact decide_eq_false λ y=>z ((zgn ns).mp (by injection y with y;left))
   rw[ed];exact q2
  ·rw[eall] at c
   have q2:=q1 (Same.refl _)
   rw[c,ugu] at q2
   exact q2
theorem zd0 (T:Bi mg)(D:DefOk K mg "is_rising" s_is_rising ["parts"]):‹1› "is_rising" ["parts"] spRisI:=by
 exists 0,sc_is_rising
 obtain⟨p,ns,rfl,hp,hn,q⟩:=h
 refine⟨_,(zaf (zaj (zal (zbv rfl) rfl T.z_all (by symm) (zaa (za4 (N:=["parts"]) (sc0:=defScope s_is_rising) (own:=["low","high"]) (fr:=[]) (js:=[]) rfl (ziw true true rfl T.z_zip (zaa (pv 0) (zaa (zct zg3 (pv 0) (zdw zae) zdx) zab))) (λ _ _ _ _=>(zca (n:=2) rfl (zah (zag (i:=0) (by show ua7 [("low":Str),("high":Str)];decide +kernel) rfl (uaw rfl)) (zah (zag (i:=1) (by show ua7 [("low":Str),("high":Str)];decide +kernel) rfl (uaw rfl)) za1)))) (λ _ _ _ _=>zbe) (λ _ _ _ _=>(za0 zec (pv 0) (pv 1) (nomark _)))) zab)))),?_⟩
 refine⟨_,rfl,_,rfl,_,rfl,p,_,rfl,hp,λ p2 H1 S1 hp2=>?_⟩
 refine⟨p,p2,rfl,⟨_,SqT.of (S1 _ _ hp)⟩,⟨_,SqT.of hp2⟩,?_⟩
 have e2':H1 p2=some (.tup ((ns.drop 1).map V.int)):=by rw[hp2,cut1,ug3]
 refine zdr (t1:=true) (t2:=true) (xs:=ns.map V.int) (zs:=(ns.drop 1).map V.int) (S1 _ _ hp) e2' (λ σ'=>σ'.length=2) (λ i v _=>v=.bl (decide (ns.getD i 0<(ns.drop 1).getD i 0))) (by rw[uae];left) (by rfl) (λ _ _ _ _ _ h=>h) (λ i x z U σ' H' hx hz s hU sg C hC=>?_) (λ L zs H' hL s hH hly hys=>?_)
 ·match σ',sg with
  | [o1,o2],_ =>
   rw[uaj] at hx hz
   obtain⟨a,ha,rfl⟩:=uba.mp hx
   obtain⟨b,hb,rfl⟩:=uba.mp hz
   refine⟨U,_,rfl,SqT.of zai,rfl,_,_,rfl,_,_,rfl,rfl,?_⟩
   refine⟨_,rfl,_,rfl,a,b,rfl,rfl,?_⟩
   refine hC _ _ _ rfl (zam hU) ?_
   have e1:ns.getD i 0=a:=by simp [ude,ha]
   have e3:(ns.drop 1).getD i 0=b:=by simp only [ude,hb];rfl
   rw[e1,e3]
 ·refine⟨L,_,rfl,SqL.of (by rw[hH,zbw hly hys]),?_⟩
  have q':=q H' (S1.trans s)
  unfold risI at q'
  rw[uae,uae]
  exact q'
theorem zkp (T:Bi mg)(D:DefOk K mg "is_level" s_is_level ["web","thing"])(O_are_unlike_places:‹3› "are_unlike_places" ["web","thing"] (spUnlike K))(O_is_rising:‹3› "is_rising" ["parts"] spRisI):‹4› "is_level" ["web","thing"] (spIsLevel K):=by
 exists 3,sc_is_level
 obtain⟨n,ts,wv,p,l,rfl,isw,hp,l24,ri,inn,q⟩:=h
 have ll:(keepI l).length=l.length:=by unfold keepI;rw[uae]
 rw[zbg] at hp
 have e1:(placesB n (keepI l)&&decide (keepI l).Nodup)=true:=by
  rw[decide_eq_true (zks (ri.imp λ z=>uas z)),Bool.and_true]
  refine uci.mpr λ i hi=>?_
  obtain⟨x,hx,rfl⟩:=ubx.mp hi
  have:=inn x hx
  rw[decide_eq_true (uav _),decide_eq_true (by left)];rfl
 refine⟨_,(zaf (zaj (zc6 (zad O_are_unlike_places hr rfl (zaa (pv 0) (zaa (pv 1) zab))) (zb1 (zad O_is_rising hr rfl (zaa (pv 1) zab)))))),?_⟩
 refine⟨_,rfl,_,rfl,n,ts,wv,p,keepI l,rfl,isw,⟨hp,by left⟩,λ H1 s1=>?_⟩
 rw[e1]
 refine⟨_,rfl,iteT ?_⟩
 refine⟨_,rfl,p,keepI l,rfl,s1 _ _ hp,by left,λ H2 s2=>?_⟩
 rw[znt ri]
 exact q H2 (s1.trans s2)
theorem zfz (T:Bi mg)(D:DefOk K mg "lies_within" s_lies_within ["level","ahead"]):‹1› "lies_within" ["level","ahead"] (spLies K):=by
 exists 0,sc_lies_within
 obtain⟨p,o,l,m,rfl,hp,ho,l24,sub,q⟩:=h
 have len:(natV l).length=l.length:=by unfold natV;rw[uae]
 refine⟨_,(zaf (zaj (zal (zbv rfl) rfl T.z_all (by symm) (zaa (za4 (N:=["level","ahead"]) (sc0:=defScope s_lies_within) (own:=["place"]) (fr:=["ahead"]) (js:=[1]) rfl (zb0 (pv 0)) (λ _ _ _ _=>(zag (i:=0) (by show ua7 [("place":Str),("ahead":Str)];decide +kernel) rfl (uaw rfl))) (λ _ _ _ _=>zbe) (λ _ _ _ _=>(za0 zgr (pv 0) (pv 1) (by with_unfolding_all rfl)))) zab)))),?_⟩
 refine⟨_,rfl,p,rfl,⟨_,SqT.of hp⟩,?_⟩
 refine zcx hp (λ σ'=>∃ y,σ'=[y,some (.ref o)]) (λ i v _=>v=.bl ((λ _=>true) i)) (by left) (by exact⟨none,rfl⟩) (λ _ _ _ _ _ h=>h) (λ i x σ' H' hx s2 sg C hC=>?_) (λ L ys H2 hL s2 hH hly hys=>?_)
 ·obtain⟨y,rfl⟩:=sg
  obtain⟨j,hj,rfl⟩:=zb7 hx
  refine⟨_,rfl,_,rfl,o,_,rfl,.inr (SqT.of (s2 _ _ ho)),rfl,zcw m,hC _ _ _ ⟨_,rfl⟩ (Same.refl _) ?_⟩
  show V.bl (inV (V.int (j:Int)) (natV m))=V.bl true
  rw[zd4 (uav _),uao,decide_eq_true (sub j (ua2 hj))]
 refine⟨L,_,rfl,SqL.of (by rw[hH,zbw hly hys]),?_⟩
 have e:(((uaf (natV l).length).map λ _=>true).all id)=true:=by rw[uec];exact uci.mpr λ _ _=>rfl
 rw[e];exact q H2 s2
theorem zhn (T:Bi mg)(D:DefOk K mg "are_levels" s_are_levels ["web","thing"])(O_is_level:‹4› "is_level" ["web","thing"] (spIsLevel K))(O_lies_within:‹4› "lies_within" ["level","ahead"] (spLies K)):‹5› "are_levels" ["web","thing"] (spAreLev K):=by
 exists 4,sc_are_levels
 obtain⟨n,ts,ls,wv,lv,rfl,isw,n1,⟨isl,lo,n24⟩,q⟩:=h
 obtain⟨p,vs,rfl,hp,hl,hat⟩:=zeo isl
 obtain⟨g0,g,ws,rfl,hg0,hg,hall,hlw⟩:=zaz isw
 have one:=lo.one
 have six:=lo.six
 refine⟨_,(zac (zbb (PW.pt (zc1 (zbj (zbf (zal (zcz (n:="tuple")) rfl T.z_isinstance (by symm) (zaa (pv 1) (zaa (zdy (v:=.ty "tuple") rfl T.z_tuple (by symm) rfl) zab))))) (zcd (zbj (zlq zha zha zae (zal zas rfl T.z_len (by symm) (zaa (pv 1) zab)) zae))))) (zaf (zaj zb2)) zar) (zac (zbb (PW.pt (zc1 (zbj (zbf (zal (zbv rfl) rfl T.z_all (by symm) (zaa (za4 (N:=["web","thing"]) (sc0:=defScope s_are_levels) (own:=["level"]) (fr:=["web"]) (js:=[0]) rfl (zb0 (pv 1)) (λ _ _ _ _=>(zag (i:=0) (by show ua7 [("level":Str),("web":Str)];decide +kernel) rfl (uaw rfl))) (λ _ _ _ _=>zbe) (λ _ _ _ _=>(zad O_is_level hr rfl (zaa (pv 1) (zaa (pv 0) zab))))) zab)))) (zcd (zao zoc (zal zas rfl T.z_len (by symm) (zaa (zaq zav (pv 1) zae (λ _ _=>rfl)) zab)) (zaq zav (pv 0) zae (λ _ _=>rfl)) (nomark _))))) (zaf (zaj zb2)) zar) (zaf (zaj (zal (zbv rfl) rfl T.z_all (by symm) (zaa (za4 (N:=["web","thing"]) (sc0:=defScope s_are_levels) (own:=["ahead","level"]) (fr:=[]) (js:=[]) rfl (ziw true true rfl T.z_zip (zaa (pv 1) (zaa (zct zg3 (pv 1) (zdw zae) zdx) zab))) (λ _ _ _ _=>(zca (n:=2) rfl (zah (zag (i:=0) (by show ua7 [("ahead":Str),("level":Str)];decide +kernel) rfl (uaw rfl)) (zah (zag (i:=1) (by show ua7 [("ahead":Str),("level":Str)];decide +kernel) rfl (uaw rfl)) za1)))) (λ _ _ _ _=>zbe) (λ _ _ _ _=>(zad O_lies_within hr rfl (zaa (pv 1) (zaa (pv 0) zab))))) zab)))))),?_⟩
 refine⟨_,rfl,_,_,_,rfl,TyOf.tup hp,rfl,_,rfl,iteF ?_⟩
 refine⟨_,rfl,p,_,rfl,.inr (SqT.of hp),_,_,rfl,rfl,_,rfl,?_⟩
 have e1:decide ((1:Int)<=((vs.length:Nat):Int))=true:=decide_eq_true (by left)
 have e2:decide (((vs.length:Nat):Int)<=6)=true:=decide_eq_true (by left)
 rw[e1]
 refine iteT ⟨_,_,rfl,rfl,_,rfl,?_⟩
 rw[e2]
 refine iteF ?_
 refine⟨_,rfl,p,rfl,⟨_,SqT.of hp⟩,?_⟩
 refine zcx hp (λ σ'=>∃ y,σ'=[y,some (.ref g0)]) (λ i v _=>v=.bl ((λ _=>true) i)) (by left) (by exact⟨none,rfl⟩) (λ _ _ _ _ _ h=>h) (λ i x σ' H' hx s2 sg C hC=>?_) (λ L ys H2 hL s2 hH hly hys=>?_)
 ·obtain⟨y,rfl⟩:=sg
  have hi:i<ls.length:=by have:=(uak.mp hx).1;left
  obtain⟨t,et,ht⟩:=hat i hi
  rw[hx] at et
  cases et
  exact⟨_,rfl,_,rfl,n,ts,_,t,lvl ls i,rfl,Is.same s2 _ isw,s2 _ _ ht,ubt (lo.len i) n24,lo.rise i,lo.inn i,λ H5 s5=>hC _ _ _ ⟨_,rfl⟩ s5 rfl⟩
 refine⟨L,_,rfl,SqL.of (by rw[hH,zbw hly hys]),_,rfl,iteNB ?_ ?_⟩
 ·rw[uec];exact uci.mpr λ _ _=>rfl
 obtain⟨t0,et0,ht0⟩:=hat 0 (by left)
 have at0:atI vs 0=some (.ref t0):=zat (ubf 0) et0
 have len0:(natV (lvl ls 0)).length=n.toNat:=by unfold natV;rw[uae,lo.first,uay]
 refine⟨_,rfl,p,_,_,_,rfl,rfl,SqT.of (s2 _ _ hp),at0,t0,_,rfl,.inr (SqT.of (s2 _ _ ht0)),_,rfl,g0,_,_,_,rfl,rfl,SqT.of (s2 _ _ hg0),rfl,rfl,_,rfl,iteNS ?_ ?_⟩
 ·show V.int (((natV (lvl ls 0)).length:Nat):Int)=V.int n
  rw[len0,ua6 (by left)]
 refine⟨_,rfl,_,rfl,_,rfl,p,_,rfl,s2 _ _ hp,λ c J3 S3 h3=>?_⟩
 have ecut:cutV vs (some 1) none=vs.drop 1:=cut1 vs
 rw[ecut] at h3
 have S23:=s2.trans S3
 refine⟨p,c,rfl,⟨_,SqX.of (t:=true) (S23 _ _ hp)⟩,⟨_,SqX.of (t:=true) h3⟩,?_⟩
 refine zdr (t1:=true) (t2:=true) (S23 _ _ hp) h3 (λ σ'=>σ'.length=2) (λ i v _=>v=.bl ((λ _=>true) i)) (by left) (by rfl) (λ _ _ _ _ _ h=>h) (λ i x z T' σ' H' hx hz s4 hT sg C hC=>?_) (λ L ys H5 hL s5 hH hly hys=>?_)
 ·match σ',sg with
  | [o1,o2],_ =>
   rw[uen] at hz
   have hi:1+i<ls.length:=by have:=(uak.mp hz).1;left
   obtain⟨t1,et1,ht1⟩:=hat i (by left)
   obtain⟨t2,et2,ht2⟩:=hat (1+i) hi
   rw[hx] at et1
   rw[hz] at et2
   cases et1
   cases et2
   have s6:=S23.trans s4
   have sN:=zam (o:=.tup [.ref t1,.ref t2]) hT
   refine⟨T',_,rfl,SqT.of zai,rfl,_,_,rfl,_,_,rfl,rfl,?_⟩
   exact⟨_,rfl,_,rfl,t2,t1,lvl ls (1+i),lvl ls i,rfl,sN _ _ (s6 _ _ ht2),sN _ _ (s6 _ _ ht1),ubt (lo.len _) n24,by rw[ufb];exact lo.down i,λ H7 s7=>hC _ _ _ rfl (sN.trans s7) rfl⟩
 refine⟨L,_,rfl,SqL.of (by rw[hH,zbw hly hys]),?_⟩
 have q0:=q H5 (S23.trans s5)
 have e:∀ m:Nat,(((uaf m).map λ _=>true).all id)=true:=λ m=>by rw[uec];exact uci.mpr λ _ _=>rfl
 rw[e];exact q0
theorem zfy (T:Bi mg)(D:DefOk K mg "need_levels" s_need_levels ["web","levels"])(O_are_levels:‹5› "are_levels" ["web","thing"] (spAreLev K)):‹6› "need_levels" ["web","levels"] (spNeedLev K):=by
 exists 5,sc_need_levels
 obtain⟨n,ts,ls,wv,lv,rfl,isw,n1,lvk,q⟩:=h
 refine⟨_,(zaf (zbb (zbj (zbf (zad O_are_levels hr rfl (zaa (pv 0) (zaa (pv 1) zab))))) (zaf zlr) zar)),?_⟩
 exact⟨_,rfl,_,rfl,n,ts,ls,wv,lv,rfl,isw,n1,lvk,λ H1 s1=>⟨_,rfl,iteF (q H1 s1)⟩⟩
theorem zog (T:Bi mg)(D:DefOk K mg "top_of" s_top_of ["levels","place"]):‹1› "top_of" ["levels","place"] (spTop K):=by
 exists 0,sc_top_of
 obtain⟨n,ls,lv,x,rfl,⟨isl,lo,n24⟩,hx,q⟩:=h
 obtain⟨p,vs,rfl,hp,hl,hat⟩:=zeo isl
 have six:=lo.six
 have one:=lo.one
 refine⟨_,(zaf (zaj (zal (zpt rfl) rfl T.z_max (by symm) (zaa (za4 (N:=["levels","place"]) (sc0:=defScope s_top_of) (own:=["number","level"]) (fr:=["place"]) (js:=[1]) rfl (zev true rfl T.z_enumerate (zaa (pv 0) zab)) (λ _ _ _ _=>(zca (n:=2) rfl (zah (zag (i:=0) (by show ua7 [("number":Str),("level":Str),("place":Str)];decide +kernel) rfl (uaw rfl)) (zah (zag (i:=1) (by show ua7 [("number":Str),("level":Str),("place":Str)];decide +kernel) rfl (uaw rfl)) za1)))) (λ _ _ _ _=>(zci (zao zgr (pv 2) (pv 1) (by with_unfolding_all rfl)))) (λ _ _ _ _=>(pv 0))) zab)))),?_⟩
 refine⟨_,rfl,p,rfl,⟨_,SqX.of (t:=true) hp⟩,?_⟩
 refine zjh (t:=true) hp (λ σ'=>∃ o1 o2,σ'=[o1,o2,some (.int (x:Int))]) (λ i=>if decide (x∈lvl ls i)=true then some (V.int (i:Int)) else none) (by left) (by exact⟨none,none,rfl⟩) (λ i y T' σ' H' hy s2 hT sg C L hC hL=>?_) (λ L H2 hL s2 hH=>?_)
 ·obtain⟨o1,o2,rfl⟩:=sg
  have hi:i<ls.length:=by have:=(uak.mp hy).1;left
  obtain⟨t,et,ht⟩:=hat i hi
  rw[hy] at et
  cases et
  have sN:=zam (o:=.tup [.int (i:Nat),.ref t]) hT
  refine⟨T',_,rfl,SqT.of zai,rfl,_,_,rfl,_,_,rfl,rfl,?_⟩
  refine⟨_,rfl,_,rfl,t,_,rfl,.inr (SqT.of (sN _ _ (s2 _ _ ht))),rfl,zcw (lvl ls i),_,rfl,?_⟩
  show if (inV (V.int (x:Int)) (natV (lvl ls i)))=true then _ else _
  rw[zd4 (uav _),uao]
  refine ite2 (λ c=>⟨_,rfl,hC _ _ _ ⟨_,_,rfl⟩ sN (by rw[if_pos c])⟩) (λ c=>hL _ _ ⟨_,_,rfl⟩ sN (by rw[if_neg c]))
 ·rw[zen,zbg] at hH
  have mem:∀ b:Int,b∈keepI ((uaf vs.length).filter λ i=>decide (x∈lvl ls i))↔∃ i:Nat,i<ls.length/\x∈lvl ls i/\b=(i:Int):=λ b=>by
   unfold keepI
   rw[ubx]
   constructor
   ·rintro ⟨i,hi,rfl⟩
    rw[ubl,uaq] at hi
    exact⟨i,by left,of_decide_eq_true hi.2,rfl⟩
   ·rintro ⟨i,h1,h2,rfl⟩
    exact⟨i,ubl.mpr ⟨uaq.mpr (by left),decide_eq_true h2⟩,rfl⟩
  refine⟨L,_,rfl,hH,λ z=>?_,λ b hb le=>?_⟩
  ·have:=(mem 0).mpr ⟨0,by left,by rw[lo.first];exact uaq.mpr hx,rfl⟩
   rw[z] at this;cases this
  ·obtain⟨i,h1,h2,rfl⟩:=(mem b).mp hb
   exact q i H2 s2 ⟨h1,h2,λ j hj hm=>by have:=le j ((mem j).mpr ⟨j,hj,hm,rfl⟩);left⟩
theorem zhi (T:Bi mg)(D:DefOk K mg "nearest_of" s_nearest_of ["levels","number","fars"]):‹1› "nearest_of" ["levels","number","fars"] (spNearL K):=by
 exists 0,sc_nearest_of
 obtain⟨n,ls,lv,m,l,DD,rfl,⟨isl,lo,n24⟩,hm,hl',lD,q⟩:=h
 obtain⟨p,vs,rfl,hp,hl,hat⟩:=zeo isl
 refine⟨_,(zac (zbb (zao zcc (pv 1) (zal zas rfl T.z_len (by symm) (zaa (pv 0) zab)) (nomark _)) (zaf (zaj za7)) zar) (zaf (zaj (zs9 rfl rfl T.z_min (zaa (za4 (N:=["levels","number","fars"]) (sc0:=defScope s_nearest_of) (own:=["place"]) (fr:=["fars"]) (js:=[2]) rfl (zb0 (zaq zav (pv 0) (pv 1) (λ _ _=>rfl))) (λ _ _ _ _=>(zag (i:=0) (by show ua7 [("place":Str),("fars":Str)];decide +kernel) rfl (uaw rfl))) (λ _ _ _ _=>(zci (zao zg9 (zaq zb9 (pv 1) (pv 0) (λ _ _=>rfl)) za7 (nomark _)))) (λ _ _ _ _=>(zaq zb9 (pv 1) (pv 0) (λ _ _=>rfl)))) zab) (zs5 za7 zt3))))),?_⟩
 refine⟨_,rfl,_,rfl,p,_,rfl,.inr (SqT.of hp),rfl,_,rfl,?_⟩
 by_cases c:m=ls.length
 ·rw[decide_eq_true (p:=V.int (m:Int)=V.int ((vs.length:Nat):Int)) (by rw[c,hl])]
  refine iteT ?_
  exact q none H (Same.refl H) ⟨λ y e=>(by cases e),λ p x hp=>by rw[ze6 (by left)] at hp;cases hp⟩
 ·rw[decide_eq_false (p:=V.int (m:Int)=V.int ((vs.length:Nat):Int)) (λ z=>c (by injection z with z;left))]
  refine iteF ?_
  obtain⟨t,et,ht⟩:=hat m (by left)
  have len:=lo.len m
  have lenN:(natV (lvl ls m)).length=(lvl ls m).length:=by unfold natV;rw[uae]
  refine⟨_,rfl,_,rfl,p,_,_,_,rfl,rfl,SqT.of hp,zat (uav _) (by rw[uao];exact et),t,rfl,⟨_,SqT.of ht⟩,?_⟩
  refine zjg ht (λ σ'=>∃ o,σ'=[o,some (.ref l)]) (λ i=>(Far.get DD ((lvl ls m).getD i 0)).map V.int) (by left) (by exact⟨none,rfl⟩) (λ i y σ' H' hy s2 sg C L hC hL=>?_) (λ L H2 hL s2 hH=>?_)
  ·obtain⟨o,rfl⟩:=sg
   obtain⟨k,hk,rfl⟩:=zb7 hy
   have hkn:=lo.inn m k (ua2 hk)
   have ek:(lvl ls m).getD i 0=k:=by rw[uag,hk];rfl
   have atk:atI (DD.map ov) (k:Int)=some (ov (Far.get DD k)):=zat (uav _) (by rw[uao];exact zg8 (by left))
   refine⟨_,rfl,_,rfl,l,_,_,_,rfl,rfl,SqL.of (s2 _ _ hl'),atk,rfl,_,rfl,?_⟩
   cases e:Far.get DD k with
   | none=>exact iteF (hL _ _ ⟨_,rfl⟩ (Same.refl _) (by rw[ek,e];rfl))
   | some x =>
    rw[e] at atk
    exact iteT ⟨_,rfl,_,rfl,l,_,_,_,rfl,rfl,SqL.of (s2 _ _ hl'),atk,hC _ _ _ ⟨_,rfl⟩ (Same.refl _) (by rw[ek,e];rfl)⟩
  ·have eL:(uaf (natV (lvl ls m)).length).filterMap (λ i=>(Far.get DD ((lvl ls m).getD i 0)).map V.int)=((lvl ls m).filterMap (Far.get DD)).map V.int:=by
    have e:=congrArg (List.filterMap λ j:Nat=>(Far.get DD j).map V.int) (L3.zba (lvl ls m) 0)
    rw[ueo] at e
    rw[lenN,ufm]
    exact e
   rw[eL] at hH
   have mem:∀ b:Int,b∈(lvl ls m).filterMap (Far.get DD)↔∃ p,p∈lvl ls m/\Far.get DD p=some b:=λ b=>udo
   refine⟨L,_,_,rfl,rfl,hH,λ z=>?_,λ b hb le=>?_⟩
   ·refine q none H2 s2 ⟨λ y e=>(by cases e),λ p x hp e=>?_⟩
    have:=(mem x).mpr ⟨p,hp,e⟩
    rw[z] at this;cases this
   ·refine q (some b) H2 s2 ⟨λ y e=>by cases e;exact (mem b).mp hb,λ p x hp e=>⟨b,rfl,le x ((mem x).mpr ⟨p,hp,e⟩)⟩⟩
theorem zhl (T:Bi mg)(D:DefOk K mg "is_bunched" s_is_bunched ["levels","fars","w"])(O_nearest_of:‹1› "nearest_of" ["levels","number","fars"] (spNearL K))(O_top_of:‹1› "top_of" ["levels","place"] (spTop K)):‹2› "is_bunched" ["levels","fars","w"] (spBunched K):=by
 exists 1,sc_is_bunched
 obtain⟨n,ls,lv,l,DD,x,rfl,lvk,hl,lD,hx,q⟩:=h
 have atx:atI (DD.map ov) (x:Int)=some (ov (Far.get DD x)):=zat (uav _) (by rw[uao];exact zg8 (by left))
 refine⟨_,(zac (zbb (zao zb6 (zaq zay (pv 1) (pv 2) (λ _ _=>rfl)) za7 (nomark _)) (zaf (zaj zb2)) zar) (zac (zap (i:=3) nd rfl (uaw rfl) (zad O_nearest_of hr rfl (zaa (pv 0) (zaa (zax zbt (zad O_top_of hr rfl (zaa (pv 0) (zaa (pv 2) zab))) zae) (zaa (pv 1) zab))))) (zaf (zaj (zn5 (za0 zb6 (pv 3) za7 (nomark _)) (zb1 (za0 zec (zaq zay (pv 1) (pv 2) (λ _ _=>rfl)) (pv 3) (nomark _)))))))),?_⟩
 refine⟨_,rfl,_,rfl,l,_,_,_,rfl,rfl,SqL.of hl,atx,rfl,_,rfl,?_⟩
 cases e:Far.get DD x with
 | none =>
  refine iteT ?_
  have q0:=q H (Same.refl H)
  rw[zr1 e] at q0
  exact q0
 | some y =>
  rw[e] at atx
  refine iteF ?_
  refine⟨_,rfl,_,rfl,_,rfl,n,ls,lv,x,rfl,lvk,hx,λ b H1 s1 tb=>?_⟩
  refine⟨_,_,rfl,rfl,_,rfl,n,ls,lv,b+1,l,DD,rfl,⟨Is.same s1 _ lvk.1,lvk.2⟩,tb.1,s1 _ _ hl,lD,λ o H2 s2 nr=>?_⟩
  have q0:=q H2 (s1.trans s2)
  rw[zux tb nr e] at q0
  refine⟨_,rfl,rfl,_,rfl,?_⟩
  cases o with
  | none=>exact iteT q0
  | some z=>exact iteF ⟨_,rfl,_,rfl,l,_,_,_,rfl,rfl,SqL.of (s2 _ _ (s1 _ _ hl)),atx,_,rfl,_,_,rfl,rfl,q0⟩
theorem zki (T:Bi mg)(D:DefOk K mg "web_fars" s_web_fars ["web","place"])(O_whole:‹3› "whole" ["web"] (spWhole K))(O_fars_from:‹3› "fars_from" ["web","keep","root"] (spFars K)):‹4› "web_fars" ["web","place"] (spWebFars K):=by
 exists 3,sc_web_fars
 obtain⟨n,ts,wv,r,rfl,isw,ok,r0,r1,q⟩:=h
 refine⟨_,(zaf (zaj (zad O_fars_from hr rfl (zaa (pv 0) (zaa (zad O_whole hr rfl (zaa (pv 0) zab)) (zaa (pv 1) zab)))))),?_⟩
 refine⟨_,rfl,_,rfl,n,ts,wv,rfl,isw,ok.few,λ l H1 s1 f1 e1=>?_⟩
 refine⟨_,rfl,n,ts,uaf ts.length,wv,.ref l,r,rfl,⟨Is.same s1 _ isw,ok,⟨l,_,rfl,e1,by rw[zbg];exact IsAll.ints _⟩,⟨ubw,λ k hk=>uaq.mp hk⟩⟩,r0,r1,λ l2 DD H2 s2 f2 e2 lD hD=>?_⟩
 exact q l2 DD H2 (s1.trans s2) (s1.free f2) e2 ⟨lD,hD⟩
theorem zq6 (T:Bi mg)(D:DefOk K mg "bunch" s_bunch ["web","levels","v"])(O_need_levels:‹6› "need_levels" ["web","levels"] (spNeedLev K))(O_web_fars:‹6› "web_fars" ["web","place"] (spWebFars K))(O_is_bunched:‹6› "is_bunched" ["levels","fars","w"] (spBunched K)):‹7› "bunch" ["web","levels","v"] (spBunch K):=by
 exists 6,sc_bunch
 obtain⟨n,ts,ls,wv,lv,r,rfl,isw,ok,lvk,r0,r1,q⟩:=h
 have n1:=ok.n1
 have n24:=ok.n24
 refine⟨_,(zac (zbq (zad O_need_levels hr rfl (zaa (pv 0) (zaa (pv 1) zab)))) (zac (zap (i:=3) nd rfl (ufj rfl) (zad O_web_fars hr rfl (zaa (pv 0) (zaa (pv 2) zab)))) (zaf (zaj (zau za2 rfl T.z_tuple (by symm) (zaa (za4 (N:=["web","levels","v","fars"]) (sc0:=defScope s_bunch) (own:=["w","length"]) (fr:=["levels","fars"]) (js:=[1,3]) rfl (zev false rfl T.z_enumerate (zaa (pv 3) zab)) (λ _ _ _ _=>(zca (n:=2) rfl (zah (zag (i:=0) (by show ua7 [("w":Str),("length":Str),("levels":Str),("fars":Str)];decide +kernel) rfl (uaw rfl)) (zah (zag (i:=1) (by show ua7 [("w":Str),("length":Str),("levels":Str),("fars":Str)];decide +kernel) rfl (uaw rfl)) za1)))) (λ _ _ _ _=>(zci (zbf (zad O_is_bunched hr rfl (zaa (pv 2) (zaa (pv 3) (zaa (pv 0) zab))))))) (λ _ _ _ _=>(zbc (zaa (pv 0) (zaa (pv 1) zab))))) zab)))))),?_⟩
 refine⟨_,rfl,_,rfl,n,ts,ls,wv,lv,rfl,isw,n1,lvk,λ H1 s1=>?_⟩
 refine⟨_,rfl,_,rfl,n,ts,wv,r,rfl,Is.same s1 _ isw,ok,r0,r1,λ l DD H2 s2 f2 e2 F=>?_⟩
 have s12:=s1.trans s2
 have lm:(DD.map ov).length=n.toNat:=by rw[uae];exact F.1
 refine⟨_,rfl,l,rfl,⟨_,SqX.of (t:=false) e2⟩,?_⟩
 refine zmw (K':=K) e2 (λ σ'=>∃ o1 o2,σ'=[o1,o2,some lv,some (.ref l)]) (bunSel ls DD) zm3 (by left) (by exact⟨none,none,rfl⟩) (λ i y T' σ' H' hy s3 hT sg C L hC hL=>?_) (λ L ys H3 hL s3 hH hly ia=>?_)
 ·obtain⟨o1,o2,rfl⟩:=sg
  have hi:i<DD.length:=by have:=(uak.mp hy).1;rw[uae] at this;exact this
  rw[zg8 hi] at hy
  cases hy
  have sN:=zam (o:=.tup [.int (i:Nat),ov (Far.get DD i)]) hT
  have sA:=s12.trans (s3.trans sN)
  refine⟨T',_,rfl,SqT.of zai,rfl,_,_,rfl,_,_,rfl,rfl,?_⟩
  refine⟨_,rfl,_,rfl,_,rfl,n.toNat,ls,lv,l,DD,i,rfl,⟨Is.same sA _ lvk.1,lvk.2⟩,sN _ _ (s3 _ _ e2),F.1,by have:=F.1;left,λ H4 s4=>⟨_,rfl,ite2 (λ c=>?_) (λ c=>?_)⟩⟩
  ·obtain⟨x,ex,_⟩:=bunB_iff.mp c
   refine⟨_,rfl,_,rfl,(by show 2<=1000;decide),λ t H5 s5 f5 e5=>hC _ _ (bunD DD i) _ ⟨_,_,rfl⟩ (sN.trans (s4.trans s5)) (by unfold bunSel;rw[if_pos c]) ?_⟩
   rw[ex] at e5
   unfold bunD
   rw[ex]
   exact⟨t,_,rfl,e5,IsAll.ints _⟩
  ·exact hL _ _ ⟨_,_,rfl⟩ (sN.trans s4) (by unfold bunSel;rw[if_neg c])
 ·rw[lm] at ia
  exact⟨L,_,rfl,hH,λ t H4 s4 f4 e4=>q t ys DD H4 (s12.trans (s3.trans s4)) F e4 (IsAll.same s4 _ ia)⟩
theorem zf4 (T:Bi mg)(D:DefOk K mg "_law_levels" s__law_levels ["pot","n"])(O__law_take:‹1› "_law_take" ["pot","many"] spTake):‹2› "_law_levels" ["pot","n"] (spLevels K):=by
 exists 1,sc__law_levels
 obtain⟨p,n,rfl,hp,n1,n24,q⟩:=h
 refine⟨_,(zac (zap (i:=2) nd rfl (uaw rfl) (zcb (zaa (zau (zc8 rfl) rfl T.z_tuple (by symm) (zaa (zau zd8 rfl T.z_range (by symm) (zaa (pv 1) zab)) zab)) zab))) (zac (zb5 PassesOwn.never rfl (zbs rfl T.z_range (zaa (zad O__law_take hr rfl (zaa (pv 0) (zaa zae zab))) zab)) (zag (i:=3) nd rfl (uaw rfl)) (zac (zap (i:=4) nd rfl (ufj rfl) (zad O__law_take hr rfl (zaa (pv 0) (zaa zae zab)))) (zaf (zbq (zfu ubo ub4 ub3 zbx (pv 2) (zaa (zau za2 rfl T.z_tuple (by symm) (zaa (za4 (N:=["pot","n","found","turn","share"]) (sc0:=defScope s__law_levels) (own:=["place"]) (fr:=["pot","share"]) (js:=[0,4]) rfl (zb0 (zaq zay (pv 2) (zft zc5 zae) (λ _ _=>rfl))) (λ _ _ _ _=>(zag (i:=0) (by show ua7 [("place":Str),("pot":Str),("share":Str)];decide +kernel) rfl (uaw rfl))) (λ _ _ _ _=>(zci (zao zec (zad O__law_take hr rfl (zaa (pv 1) (zaa zae zab))) (pv 2) (nomark _)))) (λ _ _ _ _=>(pv 0))) zab)) zab)))))) (zaf (zaj (zau za2 rfl T.z_tuple (by symm) (zaa (pv 2) zab)))))),?_⟩
 refine⟨_,rfl,n,rfl,λ rg hrg=>?_⟩
 refine⟨rg,_,rfl,zai,by left,by left,λ t0 J1 S1 f1 e1=>?_⟩
 have S01:=(zam (o:=.rng 0 n) hrg).trans S1
 refine⟨(by show 1<=1000;decide),λ lf J2 S2 f2 e2=>?_⟩
 have S02:=S01.trans S2
 have ff:H lf=none:=S01.free f2
 have p2:=hp.same S02
 obtain⟨xsp,epp⟩:=hp.lst
 have nlp:lf≠p:=λ z=>by rw[z,S01 _ _ epp] at f2;cases f2
 have lo0:LevOk n.toNat [uaf n.toNat]:=by
  have cs:∀ i,lvl [uaf n.toNat] i=if i=0 then uaf n.toNat else []:=λ i=>by
   cases i with
   | zero=>rfl
   | succ j=>exact ze6 (by show 1<=j+1;left)
  refine⟨uai _,by show 1<=6;decide,rfl,λ i=>?_,λ i x hx=>?_,λ i x hx=>?_⟩
  ·rw[cs];split
   ·exact ubw
   ·exact ue3
  ·rw[cs] at hx;split at hx
   ·exact uaq.mp hx
   ·cases hx
  ·rw[cs,if_neg (by left)] at hx;cases hx
 refine⟨_,rfl,p,6,rfl,p2,by decide,by decide,λ r H3 r0 r1 b3 p3=>?_⟩
 refine⟨r,rfl,by left,by left,?_⟩
 have B3:But p H H3:=(Same.but S02).trans b3
 refine zcn (n:=r.toNat) (λ i σ J=>∃ (ls:List (List Nat))(ys:List V)(y3 y4:Option V),σ=[some (.ref p),some (.int n),some (.ref lf),y3,y4]/\But p H J/\Pot J p/\J lf=some (.lst ys)/\ls.length<=i+1/\LevOk n.toNat ls/\IsAll K J (ls.map pieceD) ys) ⟨[uaf n.toNat],[.ref t0],none,none,rfl,B3,p3,b3 _ _ nlp e2,uai _,lo0,⟨_,_,rfl,zl1 (b3 _ _ (λ z=>by rw[z] at e1;have:=hp.same S01;obtain⟨zs,ez⟩:=this.lst;rw[ez] at e1;cases e1) (S2 _ _ e1)),rfl⟩⟩ (λ i σ J hi h=>?_) (λ σ J h=>?_)
 ·obtain⟨ls,ys,y3,y4,rfl,bJ,pJ,hf,lls,lo,ia⟩:=h
  have lys:=ia.length
  rw[uae] at lys
  have one:=lo.one
  refine⟨_,rfl,p,5,rfl,pJ,by decide,by decide,λ sh J1 sh0 sh1 b1 p1=>?_⟩
  have hf1:=b1 _ _ nlp hf
  obtain⟨zs,epJ⟩:=pJ.lst
  have ia1:=IsAll.but b1 epJ _ (zcq ls) ia
  obtain⟨x,ex,hx⟩:=IsAll.at_ ia1 (i:=ls.length-1) (d:=pieceD (lvl ls (ls.length-1))) (by rw[uaj,uad (by left)];unfold lvl;rw[uag,uad (by left)];rfl)
  obtain⟨t,rfl,ht⟩:=zeu hx
  have atL:atI ys (-1)=some (.ref t):=by
   unfold atI ixN
   rw[if_neg (by decide),if_pos (by left)]
   show ys[(-1+(ys.length:Int)).toNat]?=some (.ref t)
   rw[show (-1+(ys.length:Int)).toNat=ls.length-1 by left]
   exact ex
  have lenN:(natV (lvl ls (ls.length-1))).length=(lvl ls (ls.length-1)).length:=by unfold natV;rw[uae]
  have len24:=lo.len (ls.length-1)
  refine⟨_,rfl,.inl ⟨rfl,_,SqL.of hf1⟩,_,rfl,_,rfl,lf,_,_,_,rfl,rfl,SqL.of hf1,atL,t,rfl,⟨_,SqT.of ht⟩,?_⟩
  intro L hL
  have nLp:L≠p:=λ z=>by obtain⟨zz,ez⟩:=p1.lst;rw[z,ez] at hL;cases hL
  refine⟨λ j m zs σ' H'=>m=(lvl ls (ls.length-1)).length-j/\j<=(lvl ls (ls.length-1)).length/\(∃ o,σ'=[o,some (.ref p),some (.int sh)])/\But p J1 H'/\Pot H' p/\∃ ks:List Nat,zs=natV ks/\ks.length<=j/\ks.Pairwise (·<·)/\∀ k∈ks,k∈(lvl ls (ls.length-1)).take j,⟨_,rfl,ube _,⟨none,rfl⟩,But.new hL,?_,[],rfl,uai _,.nil,λ k hk=>by cases hk⟩,?_⟩
  ·obtain⟨a',b',e',z⟩:=p1
   exact⟨a',b',by rw[zan nLp.symm];exact e',z⟩
  rintro j m zs σ' H' ⟨rfl,hj,⟨o,rfl⟩,bt,pt,ks,rfl,lks,ri,sub⟩ hd
  have htH:H' t=some (.tup (natV (lvl ls (ls.length-1)))):=bt _ _ (λ z=>by obtain⟨zz,ez⟩:=p1.lst;rw[z,ez] at ht;cases ht) ht
  by_cases hlt:j<(lvl ls (ls.length-1)).length
  ·refine .inr ⟨⟨_,_,SqT.of htH,zlw (uad hlt)⟩,λ x H2 hy=>?_⟩
   obtain⟨rfl,hy⟩:=hy
   have ey:=hy _ (SqT.of htH)
   rw[zlw (uad hlt)] at ey
   cases ey
   obtain⟨k,ek⟩:∃ k,k=(lvl ls (ls.length-1))[j]:=⟨_,rfl⟩
   have hk:(lvl ls (ls.length-1))[j]?=some k:=by rw[uad hlt,ek]
   rw[← ek]
   refine⟨_,rfl,p,4,rfl,pt,by decide,by decide,λ r2 J5 _ _ b5 p5=>⟨_,rfl,_,_,rfl,rfl,_,rfl,ite2 (λ c=>?_) (λ c=>?_)⟩⟩
   ·refine⟨_,rfl,b5 _ _ nLp hd,?_,(lvl ls (ls.length-1)).length-(j+1),by left,rfl,hlt,⟨_,rfl⟩,λ b o hb e=>?_,?_,ks++[k],?_,?_,?_,?_⟩
    ·unfold natV;rw[uae]
     exact ubr (by left:ks.length<=1000) (by decide)
    ·rw[zan (zak e hL)];exact b5 _ _ hb (bt _ _ hb e)
    ·obtain⟨a',b',e',z⟩:=p5
     exact⟨a',b',by rw[zan nLp.symm];exact e',z⟩
    ·unfold natV;rw[ucm];rfl
    ·rw[uar,uax];left
    ·refine ufd.mpr ⟨ri,ug2 _ _,λ x hx y hy=>?_⟩
     rw[ua3.mp hy]
     obtain⟨i',hi',e'⟩:=List.mem_take_iff_getElem.mp (sub x hx)
     have:=ucg.mp (lo.rise (ls.length-1)) i' j (by left) hlt (by left)
     rw[← e',ek];exact this
    ·intro x hx
     rw[zdh hk]
     rcases ubp.mp hx with z | z
     ·exact ucn _ (sub x z)
     ·exact ua8 _ z
   ·refine⟨b5 _ _ nLp hd,(lvl ls (ls.length-1)).length-(j+1),by left,rfl,hlt,⟨_,rfl⟩,bt.trans b5,p5,ks,rfl,by left,ri,λ x hx=>?_⟩
    rw[zdh hk]
    exact ucn _ (sub x hx)
  ·have e:j=(lvl ls (ls.length-1)).length:=by left
   subst e
   rw[uex] at sub
   refine .inl ⟨⟨_,SqT.of htH,by left⟩,L,_,rfl,hd,λ tk J6 S6 f6 e6=>?_⟩
   have hf6:=S6 _ _ (bt _ _ nlp hf1)
   refine⟨lf,_,_,rfl,rfl,hf6,by left,λ J7 b7 e7=>?_⟩
   have B17:∀ c o,c≠p->c≠lf->J c=some o->J7 c=some o:=λ c o h1 h2 h3=>b7 _ _ h2 (S6 _ _ (bt _ _ h1 (b1 _ _ h1 h3)))
   obtain⟨zz1,ez1⟩:=p1.lst
   have iaJ6:=IsAll.same S6 _ (IsAll.but bt ez1 _ (zcq ls) ia1)
   refine⟨ls++[ks],ys++[.ref tk],_,_,rfl,λ c o h1 h3=>b7 _ _ (zak h3 ff) (S6 _ _ (bt _ _ h1 (b1 _ _ h1 (bJ _ _ h1 h3)))),?_,e7,by rw[uar,uax];left,?_,?_⟩
   ·obtain⟨a',b',e',z⟩:=pt
    exact⟨a',b',b7 _ _ nlp.symm (S6 _ _ e'),z⟩
   ·have cs:∀ i,lvl (ls++[ks]) i=if i<ls.length then lvl ls i else if i=ls.length then ks else []:=λ i=>by
     unfold lvl
     rw[uag,uag]
     rcases uet i ls.length with z | z | z
     ·rw[if_pos z,uch z]
     ·rw[if_neg (by left),if_pos z,ubb (by left),show i-ls.length=0 by left];rfl
     ·rw[if_neg (by left),if_neg (by left),uat (by rw[uar,uax];left)];rfl
    refine⟨by rw[uar];left,by rw[uar,uax];left,by rw[cs,if_pos (by left)];exact lo.first,λ i=>?_,λ i x hx=>?_,λ i x hx=>?_⟩
    ·rw[cs];split
     ·exact lo.rise i
     ·split
      ·exact ri
      ·exact .nil
    ·rw[cs] at hx;split at hx
     ·exact lo.inn i x hx
     ·split at hx
      ·exact lo.inn _ x (sub x hx)
      ·cases hx
    ·rw[cs] at hx ⊢
     split at hx
     ·rw[if_pos (by left)];exact lo.down i x hx
     ·split at hx
      ·rw[if_pos (by left),show i=ls.length-1 by left];exact sub x hx
      ·cases hx
   ·rw[ucm]
    exact IsAll.snoc (zl1 (b7 _ _ (λ z=>by rw[z,hf6] at e6;cases e6) e6)) (IsAll.but b7 hf6 _ (zcq ls) iaJ6)
 ·obtain⟨ls,ys,y3,y4,rfl,bJ,pJ,hf,lls,lo,ia⟩:=h
  refine⟨_,rfl,lf,_,rfl,hf,λ t J2 S2 f2 e2=>q _ J2 ls (bJ.trans (Same.but S2)) (pJ.same S2) ⟨⟨t,_,rfl,e2,IsAll.same S2 _ ia⟩,lo,by left⟩⟩
def spTupN:Sp:=λ vs H Q _=>∃ (t:Addr)(xs:List V)(m:Nat),vs=[.ref t,.int (m:Int)]/\H t=some (.tup xs)/\Q (.bl (decide (xs.length=m))) H
theorem ze1 (T:Bi mg)(D:DefOk K mg "is_tuple_of" s_is_tuple_of ["thing","many"]):‹1› "is_tuple_of" ["thing","many"] spTupN:=by
 exists 0,sc_is_tuple_of
 obtain⟨t,xs,m,rfl,ht,q⟩:=h
 refine⟨_,(zaf (zaj (zc6 (zal (zcz (n:="tuple")) rfl T.z_isinstance (by symm) (zaa (pv 0) (zaa (zdy (v:=.ty "tuple") rfl T.z_tuple (by symm) rfl) zab))) (zb1 (za0 zcc (zal zas rfl T.z_len (by symm) (zaa (pv 0) zab)) (pv 1) (nomark _)))))),?_⟩
 refine⟨_,rfl,_,_,_,rfl,TyOf.tup ht,rfl,_,rfl,iteT ?_⟩
 refine⟨_,rfl,t,_,rfl,.inr (SqT.of ht),_,rfl,rfl,?_⟩
 have e:decide (V.int ((xs.length:Nat):Int)=V.int (m:Int))=decide (xs.length=m):=by
  by_cases z:xs.length=m
  ·rw[decide_eq_true z,decide_eq_true (by rw[z])]
  ·rw[decide_eq_false z,decide_eq_false λ y=>z (by injection y with y;left)]
 rw[e]
 exact q
theorem zhh (T:Bi mg)(D:DefOk K mg "need_times" s_need_times ["t"])(O_is_whole:‹1› "is_whole" ["thing"] (spD1 K (λ _=>True) wholeB)):‹2› "need_times" ["t"] (spNeed K):=by
 exists 1,sc_need_times
 obtain⟨t,rfl,t1,t99,q⟩:=h
 refine⟨_,(zaf (zbb (PW.pt (zc1 (zbj (zbf (zad O_is_whole hr rfl (zaa (pv 0) zab)))) (zcd (zbj (zlq zha zha zae (pv 0) zae))))) (zaf zlr) zar)),?_⟩
 refine⟨_,rfl,.int t,.int t,rfl,rfl,trivial,λ H1 s1=>⟨_,rfl,iteF ?_⟩⟩
 refine⟨_,rfl,_,_,rfl,rfl,_,rfl,?_⟩
 have e1:decide ((1:Int)<=t)=true:=decide_eq_true t1
 have e2:decide (t<=99)=true:=decide_eq_true t99
 rw[e1]
 refine iteT ⟨_,_,rfl,rfl,_,rfl,?_⟩
 rw[e2]
 exact iteF (q H1 s1)
theorem ziz (T:Bi mg)(D:DefOk K mg "is_within" s_is_within ["web","tie","t","way"])(O_way_length:‹3› "way_length" ["web","way"] (spWLen K)):‹4› "is_within" ["web","tie","t","way"] (spWithin K):=by
 exists 3,sc_is_within
 obtain⟨n,ts,ks,wv,k,t,v,rfl,isw,ok,ko,hkl,t1,t99,hv,q⟩:=h
 have tk:=ok.tie _ (za6 hkl).2
 obtain⟨g0,g,ws',rfl,hg0,hg,hall,hlw⟩:=zaz isw
 obtain⟨ta,hta,htie⟩:=zbz hall hkl
 refine⟨_,(zaf (zaj (zc6 (za0 zg9 (pv 3) za7 (nomark _)) (zb1 (za0 zha (zad O_way_length hr rfl (zaa (pv 0) (zaa (pv 3) zab))) (zax zce (pv 2) (zaq zav (zaq zav (zaq zav (pv 0) zae (λ _ _=>rfl)) (pv 1) (λ _ _=>rfl)) zae (λ _ _=>rfl))) (nomark _)))))),?_⟩
 rcases hv with ⟨rfl,hd⟩ | ⟨tw,ws,x,rfl,htw,l24,tr,hd⟩
 ·refine⟨_,rfl,rfl,_,rfl,iteF ?_⟩
  have q0:=q H (Same.refl H)
  rw[zrm hd] at q0
  exact q0
 ·obtain⟨ew,lk⟩:=zsr ok ko tr
  refine⟨_,rfl,rfl,_,rfl,iteT ?_⟩
  refine⟨_,rfl,_,rfl,n,ts,_,tw,ws,rfl,isw,ok.few,htw,l24,lk,λ J S=>?_⟩
  have q0:=q J S
  rw[zrm hd] at q0
  rw[ew]
  exact⟨_,rfl,_,rfl,g0,_,_,_,rfl,rfl,SqT.of (S _ _ hg0),rfl,_,rfl,g,_,_,_,rfl,rfl,SqT.of (S _ _ hg),zat (uav _) hta,ta,_,_,_,rfl,rfl,SqT.of (S _ _ htie),rfl,_,_,rfl,rfl,.inl ⟨by left,by left⟩,_,_,rfl,rfl,q0⟩
def spWayO19 (K:uac):Sp:=λ vs H Q _=>∃ n ts ks wv kv,∃ k:Nat,vs=[wv,kv,.int (k:Int)]/\WK K H n ts ks wv kv/\k<ts.length/\∀ v H',Same H H'->WayM H' ts ks (tieAt ts k).1.toNat (tieAt ts k).2.1.toNat v->Q v H'
def spHO19 (K:uac):Sp:=λ vs H Q _=>∃ n ts ks wv kv,∃ (k:Nat)(t:Int),vs=[wv,kv,.int (k:Int),.int t]/\WK K H n ts ks wv kv/\k<ts.length/\1<=t/\t<=99/\∀ p H',Same H H'->H' p=some (.tup ((htK n ts ks t k).map V.int))->Q (.ref p) H'
def spTold19 (K:uac):Sp:=λ vs H Q _=>∃ n ts ks wv kv t,vs=[wv,kv,.int t]/\WK K H n ts ks wv kv/\1<=t/\t<=99/\∀ v d H',Same H H'->Is K H' d v->TdD n ts ks t d->Q v H'
theorem zkj (T:Bi mg)(D:DefOk K mg "way_of" s_way_of ["web","keep","tie"])(O_the_way:‹4› "the_way" ["web","keep","a","b"] (spWayM K)):‹5› "way_of" ["web","keep","tie"] (spWayO19 K):=by
 exists 4,sc_way_of
 obtain⟨n,ts,ks,wv,kv,k,rfl,wk,hkl,q⟩:=h
 have ok:=wk.2.1
 obtain⟨g0,g,ws,rfl,hg0,hg,hall,hlw⟩:=zaz wk.1
 obtain⟨ta,hta,htie⟩:=zbz hall hkl
 have tk:=ok.tie _ (za6 hkl).2
 refine⟨_,(zac (zbn (zaq zav (zaq zav (pv 0) zae (λ _ _=>rfl)) (pv 2) (λ _ _=>rfl)) (zbp (n:=3) rfl (zah (zag (i:=3) nd rfl (uaw rfl)) (zah (zag (i:=4) nd rfl (uaw rfl)) (zah (zag (i:=5) nd rfl (uaw rfl)) za1))))) (zaf (zaj (zad O_the_way hr rfl (zaa (pv 0) (zaa (pv 1) (zaa (pv 3) (zaa (pv 4) zab)))))))),?_⟩
 refine⟨_,rfl,g0,_,_,_,rfl,rfl,SqT.of hg0,rfl,_,rfl,g,_,_,_,rfl,rfl,SqT.of hg,zat (uav _) hta,ta,_,rfl,SqT.of htie,rfl,_,_,rfl,_,_,rfl,_,_,rfl,rfl,?_⟩
 exact⟨_,rfl,_,rfl,_,rfl,_,rfl,n,ts,ks,_,kv,_,_,rfl,wk,by left,by left,by left,by left,λ v J S hv=>q v J S hv⟩
theorem ze2 (T:Bi mg)(D:DefOk K mg "heights_of" s_heights_of ["web","keep","tie","t"])(O_heights_from:‹4› "heights_from" ["web","keep","a","roof"] (spHFrom K)):‹5› "heights_of" ["web","keep","tie","t"] (spHO19 K):=by
 exists 4,sc_heights_of
 obtain⟨n,ts,ks,wv,kv,k,t,rfl,wk,hkl,t1,t99,q⟩:=h
 have ok:=wk.2.1
 have ko:=wk.2.2.2
 obtain⟨g0,g,ws,rfl,hg0,hg,hall,hlw⟩:=zaz wk.1
 obtain⟨ta,hta,htie⟩:=zbz hall hkl
 have tk:=ok.tie _ (za6 hkl).2
 refine⟨_,(zac (zbn (zaq zav (zaq zav (pv 0) zae (λ _ _=>rfl)) (pv 2) (λ _ _=>rfl)) (zbp (n:=3) rfl (zah (zag (i:=4) nd rfl (uaw rfl)) (zah (zag (i:=5) nd rfl (uaw rfl)) (zah (zag (i:=6) nd rfl (uaw rfl)) za1))))) (zaf (zaj (zad O_heights_from hr rfl (zaa (pv 0) (zaa (pv 1) (zaa (pv 4) (zaa (zax zbt (zax zce (pv 3) (pv 6)) zae) zab)))))))),?_⟩
 refine⟨_,rfl,g0,_,_,_,rfl,rfl,SqT.of hg0,rfl,_,rfl,g,_,_,_,rfl,rfl,SqT.of hg,zat (uav _) hta,ta,_,rfl,SqT.of htie,rfl,_,_,rfl,_,_,rfl,_,_,rfl,rfl,?_⟩
 refine⟨_,rfl,_,rfl,_,rfl,_,rfl,_,rfl,_,_,rfl,rfl,.inl ⟨by left,by left⟩,_,_,rfl,rfl,n,ts,ks,_,kv,_,_,rfl,wk,by left,by left,λ p DD J S e lD hD=>q p J S ?_⟩
 have eD:=zus ok ko lD hD
 subst eD
 exact e
theorem ze0 (T:Bi mg)(D:DefOk K mg "times_told" s_times_told ["web","keep","t"])(O_need_times:‹5› "need_times" ["t"] (spNeed K))(O_not_kept:‹5› "not_kept" ["web","keep"] (spOuts K))(O_way_of:‹5› "way_of" ["web","keep","tie"] (spWayO19 K))(O_is_within:‹5› "is_within" ["web","tie","t","way"] (spWithin K))(O_heights_of:‹5› "heights_of" ["web","keep","tie","t"] (spHO19 K)):‹6› "times_told" ["web","keep","t"] (spTold19 K):=by
 exists 5,sc_times_told
 obtain⟨n,ts,ks,wv,kv,t,rfl,wk,t1,t99,q⟩:=h
 have ok:=wk.2.1
 have ko:=wk.2.2.2
 have few60:=ok.few
 refine⟨_,(zac (zbq (zad O_need_times hr rfl (zaa (pv 2) zab))) (zac (zap (i:=3) nd rfl (uaw rfl) (zcb zab)) (zac (zb5 PassesOwn.never rfl (zda (zad O_not_kept hr rfl (zaa (pv 0) (zaa (pv 1) zab)))) (zag (i:=4) nd rfl (uaw rfl)) (zac (zap (i:=5) nd rfl (uaw rfl) (zad O_way_of hr rfl (zaa (pv 0) (zaa (pv 1) (zaa (pv 4) zab))))) (zac (zbb (zbj (zbf (zad O_is_within hr rfl (zaa (pv 0) (zaa (pv 4) (zaa (pv 2) (zaa (pv 5) zab))))))) (zaf (zaj (zbc (zaa zn4 (zaa (pv 4) (zaa (zad O_heights_of hr rfl (zaa (pv 0) (zaa (pv 1) (zaa (pv 4) (zaa (pv 2) zab))))) zab)))))) zar) (zaf (zbq (zfu ubo ub4 ub3 zbx (pv 3) (zaa (pv 5) zab))))))) (zaf (zaj (zbc (zaa zn4 (zaa (zau za2 rfl T.z_tuple (by symm) (zaa (pv 3) zab)) zab)))))))),?_⟩
 refine⟨_,rfl,t,rfl,t1,t99,λ H1 s1=>?_⟩
 refine⟨(by show 0<=1000;decide),λ lw J2 S2 f2 e2=>?_⟩
 have S12:=s1.trans S2
 have fw:H lw=none:=s1.free f2
 refine⟨_,rfl,_,rfl,n,ts,ks,wv,kv,rfl,wk.same S12,λ lo J3 S3 f3 e3=>?_⟩
 have nlo:lo≠lw:=λ z=>by rw[z,e2] at f3;cases f3
 have S13:=S12.trans S3
 refine⟨lo,rfl,⟨_,SqL.of e3⟩,?_⟩
 have len:(natV (outs ts.length ks)).length=(outs ts.length ks).length:=by unfold natV;rw[uae]
 have lo60:=zq2 ts.length ks
 refine zhv (xs:=natV (outs ts.length ks)) (λ i σ J=>∃ (ys:List V)(y4 y5:Option V),σ=[some wv,some kv,some (.int t),some (.ref lw),y4,y5]/\Same H J/\J lo=some (.lst (natV (outs ts.length ks)))/\J lw=some (.lst ys)/\ys.length=i/\(∀ j k,j<i->(outs ts.length ks)[j]?=some k->winK ts ks t k)/\∀ (j k:Nat)(v:V),(outs ts.length ks)[j]?=some k->ys[j]?=some v->WyV J ts (wyT ts ks k) v) ⟨[],none,none,rfl,S13,e3,S3 _ _ e2,rfl,λ j k h=>(by left),λ j k v _ h=>(by cases h)⟩ (λ i σ J _ h=>?_) (λ i x σ J hx h=>?_) (λ σ J h=>?_)
 ·obtain⟨ys,y4,y5,rfl,sm,hlo,_⟩:=h
  exact SqL.of hlo
 ·obtain⟨ys,y4,y5,rfl,sm,hlo,hlw,ly,hin,hwy⟩:=h
  obtain⟨k,hk,rfl⟩:=zb7 hx
  have hko:=ua2 hk
  have hkl:k<ts.length:=(outs_mem.mp hko).1
  have hi:i<(outs ts.length ks).length:=(uak.mp hk).1
  refine⟨_,rfl,_,rfl,_,rfl,n,ts,ks,wv,kv,k,rfl,wk.same sm,hkl,λ v J4 S4 hv=>?_⟩
  have wk4:=wk.same (sm.trans S4)
  refine⟨_,rfl,_,rfl,_,rfl,_,rfl,n,ts,ks,wv,k,t,v,rfl,wk4.1,ok,ko,hkl,t1,t99,hv.v,λ J5 S5=>⟨_,rfl,iteB2 (λ c=>?_) (λ c=>?_)⟩⟩
  ·refine⟨_,rfl,.inl ⟨rfl,_,SqL.of (S5 _ _ (S4 _ _ hlw))⟩,_,rfl,lw,_,_,rfl,rfl,S5 _ _ (S4 _ _ hlw),by left,λ J6 b6 e6=>?_⟩
   have tk6:TupKeep J5 J6:=λ a xs e=>b6 _ _ (λ z=>by rw[z,S5 _ _ (S4 _ _ hlw)] at e;cases e) e
   refine⟨ys++[v],_,_,rfl,λ b o e=>b6 _ _ (zak e fw) ((sm.trans (S4.trans S5)) _ _ e),b6 _ _ nlo ((S4.trans S5) _ _ hlo),e6,by rw[uar,ly];rfl,λ j k' hj hk'=>?_,λ j k' v' hk' hv'=>?_⟩
   ·rcases ucz j i with z | z
    ·exact hin j k' z hk'
    ·have:j=i:=by left
     subst this
     rw[hk] at hk';cases hk'
     exact c
   ·rcases ucz j i with z | z
    ·rw[uch (by left)] at hv'
     exact ((hwy j k' v' hk' hv').same (S4.trans S5)).tk tk6
    ·rw[ubb (by left),ly] at hv'
     have:j-i=0:=by
      have:=(uak.mp hv').1
      rw[uax] at this;left
     rw[this] at hv'
     cases hv'
     have:j=i:=by left
     subst this
     rw[hk] at hk';cases hk'
     exact ((ztq ok ko hv).same S5).tk tk6
  ·refine⟨_,rfl,_,rfl,_,rfl,_,rfl,_,rfl,n,ts,ks,wv,kv,k,t,rfl,wk4.same S5,hkl,t1,t99,λ p J6 S6 e6=>?_⟩
   refine⟨(by show 3<=1000;decide),λ pp J7 S7 f7 e7=>q (.ref pp) _ J7 (sm.trans (S4.trans (S5.trans (S6.trans S7)))) ?_ (.far (i:=i) (k:=k) ⟨hk,λ z=>(by rw[show withinB t (tieAt ts k).2.2 (gO ts ks k)=true from z] at c;cases c),hin⟩)⟩
   exact⟨pp,_,rfl,e7,_,_,rfl,rfl,_,_,rfl,rfl,_,_,rfl,⟨p,_,rfl,S7 _ _ e6,IsAll.ints _⟩,rfl⟩
 ·obtain⟨ys,y4,y5,rfl,sm,hlo,hlw,ly,hin,hwy⟩:=h
  refine⟨_,rfl,lw,_,rfl,hlw,λ tp J4 S4 f4 e4=>⟨(by show 2<=1000;decide),λ pp J7 S7 f7 e7=>q (.ref pp) _ J7 (sm.trans (S4.trans S7)) ?_ (.keeps λ k hk=>?_)⟩⟩
  ·refine⟨pp,_,rfl,e7,_,_,rfl,rfl,_,_,rfl,⟨tp,ys,rfl,S7 _ _ e4,IsAll.of (by rw[ly,len,uae]) λ i d v hd hv=>?_⟩,rfl⟩
   rw[uaj] at hd
   obtain⟨k,hk,rfl⟩:=uba.mp hd
   exact ((hwy i k v hk hv).same (S4.trans S7)).is
  ·obtain⟨j,hj,e⟩:=uc3 hk
   exact hin j k (by left) (by rw[uad hj,e])
theorem zkl (T:Bi mg)(D:DefOk K mg "pivot_by" s_pivot_by ["levels","i","fars"])(O_top_of:‹1› "top_of" ["levels","place"] (spTop K)):‹2› "pivot_by" ["levels","i","fars"] (spPivBy K):=by
 exists 1,sc_pivot_by
 obtain⟨n,ls,lv,m,l,DD,rfl,lvk,hm,hl,lD,q⟩:=h
 obtain⟨p,vs,rfl,hp,hlv,hat⟩:=zeo lvk.1
 have lo:=lvk.2.1
 have n24:=lvk.2.2
 obtain⟨t,et,ht⟩:=hat m hm
 have len:=lo.len m
 have lenN:(natV (lvl ls m)).length=(lvl ls m).length:=by unfold natV;rw[uae]
 refine⟨_,(zac (zgo (i:=3) (N:=["levels","i","fars","near"]) (sc0:=defScope s_pivot_by) (own:=["place"]) (fr:=["fars","levels"]) (js:=[2,0]) rfl (zb0 (zaq zav (pv 0) (pv 1) (λ _ _=>rfl))) (λ _ _ _ _=>(zag (i:=0) (by show ua7 [("place":Str),("fars":Str),("levels":Str)];decide +kernel) rfl (uaw rfl))) (λ _ _ _ _=>(zci (zao zg9 (zaq zb9 (pv 1) (pv 0) (λ _ _=>rfl)) za7 (nomark _)))) (λ _ _ _ _=>(zbc (zaa (zaq zb9 (pv 1) (pv 0) (λ _ _=>rfl)) (zaa (zax zc7 zae (zad O_top_of hr rfl (zaa (pv 2) (zaa (pv 0) zab)))) (zaa (pv 0) zab))))) nd rfl (uaw rfl)) (zac (zbb (zao zcc (zal zas rfl T.z_len (by symm) (zaa (pv 3) zab)) zae (nomark _)) (zaf (zaj za7)) zar) (zaf (zaj (zaq zav (zal (zgx rfl (ubr (Nat.add_le_add_left (by decide:1<=64) _) hr.units)) rfl T.z_min (by symm) (zaa (pv 3) zab)) zae (λ _ _=>rfl)))))),?_⟩
 refine⟨_,rfl,_,rfl,p,_,_,_,rfl,rfl,SqT.of hp,zat (uav _) (by rw[uao];exact et),t,rfl,⟨_,SqT.of ht⟩,?_⟩
 refine zmv (K':=K) ht (λ σ'=>∃ o,σ'=[o,some (.ref l),some (.ref p)]) (pivSel ls DD (lvl ls m)) zmo (by left) (by exact⟨none,rfl⟩) (λ i y σ' H' hy s2 sg C L hC hL=>?_) (λ L ys H2 hL s2 hH hly ia=>?_)
 ·obtain⟨o,rfl⟩:=sg
  obtain⟨k,hk,rfl⟩:=zb7 hy
  have hkn:=lo.inn m k (ua2 hk)
  have ek:(lvl ls m).getD i 0=k:=by rw[uag,hk];rfl
  have atk:atI (DD.map ov) (k:Int)=some (ov (Far.get DD k)):=zat (uav _) (by rw[uao];exact zg8 (by left))
  refine⟨_,rfl,_,rfl,l,_,_,_,rfl,rfl,SqL.of (s2 _ _ hl),atk,rfl,_,rfl,?_⟩
  cases e:Far.get DD k with
  | none=>exact iteF (hL _ _ ⟨_,rfl⟩ (Same.refl _) (by unfold pivSel;rw[ek,e];rfl))
  | some x =>
   rw[e] at atk
   refine iteT ⟨_,rfl,_,rfl,l,_,_,_,rfl,rfl,SqL.of (s2 _ _ hl),atk,_,rfl,_,rfl,n,ls,_,k,rfl,⟨Is.same s2 _ lvk.1,lvk.2⟩,hkn,λ b H3 s3 tb=>?_⟩
   refine⟨_,_,rfl,rfl,_,rfl,(by show 3<=1000;decide),λ t3 H4 s4 f4 e4=>hC _ _ (tupI (pivK ls DD k)) _ ⟨_,rfl⟩ (s3.trans s4) (by unfold pivSel;rw[ek,e];rfl) ?_⟩
   unfold tupI pivK
   rw[e,zes tb]
   exact⟨t3,_,rfl,e4,IsAll.ints _⟩
 ·rw[lenN,zmp] at ia
  have ly:=ia.length
  rw[uae] at ly
  refine⟨_,rfl,L,_,rfl,.inl (SqL.of hH),rfl,_,rfl,?_⟩
  by_cases c:ys=[]
  ·subst c
   refine iteT ?_
   exact q none H2 s2 (zt5 (ucx.mp ly.symm))
  ·have lpos:0<ys.length:=udy.mpr c
   rw[decide_eq_false (p:=V.int ((ys.length:Nat):Int)=V.int 0) (λ z=>by injection z with z;left)]
   refine iteF ?_
   refine⟨_,rfl,L,ys,pivKs ls DD (lvl ls m),rfl,hH,c,λ i v e=>zj9 ia e,λ b v hv top=>?_⟩
   have hb:b<ys.length:=(uak.mp hv).1
   obtain⟨pp,ep,piv⟩:=zt4 (n:=n) (b:=b) (by left) λ i hi=>top i (by left)
   obtain⟨ta,rfl,hta⟩:=zj9 ia hv
   rw[ep] at hta
   exact⟨ta,_,_,_,rfl,rfl,SqT.of hta,rfl,q (some pp) H2 s2 piv⟩
theorem zq5 (T:Bi mg)(D:DefOk K mg "climb" s_climb ["web","levels","u","v"])(O_need_levels:‹6› "need_levels" ["web","levels"] (spNeedLev K))(O_web_fars:‹6› "web_fars" ["web","place"] (spWebFars K))(O_is_bunched:‹6› "is_bunched" ["levels","fars","w"] (spBunched K))(O_top_of:‹6› "top_of" ["levels","place"] (spTop K))(O_pivot_by:‹6› "pivot_by" ["levels","i","fars"] (spPivBy K)):‹7› "climb" ["web","levels","u","v"] (spClimb K):=by
 exists 6,sc_climb
 obtain⟨n,ts,ls,wv,lv,u,v,rfl,isw,ok,lvk,un,vn,q⟩:=h
 have lo:=lvk.2.1
 have six:=lo.six
 refine⟨_,(zac (zbq (zad O_need_levels hr rfl (zaa (pv 0) (zaa (pv 1) zab)))) (zac (zap (i:=4) nd rfl (uaw rfl) (zad O_web_fars hr rfl (zaa (pv 0) (zaa (pv 2) zab)))) (zac (zap (i:=5) nd rfl (uaw rfl) (zad O_web_fars hr rfl (zaa (pv 0) (zaa (pv 3) zab)))) (zac (zbb (zao zb6 (zaq zay (pv 4) (pv 3) (λ _ _=>rfl)) za7 (nomark _)) (zaf (zaj za7)) zar) (zac (zap (i:=6) nd rfl (uaw rfl) (zcb (zaa (zbc (zaa (pv 2) (zaa (pv 2) (zaa (pv 3) (zaa zae zab))))) zab))) (zac (zdl PassesOwn.never (zbj (zbf (zad O_is_bunched hr rfl (zaa (pv 1) (zaa (pv 5) (zaa (zaq zav (zaq zay (pv 6) (zft zc5 zae) (λ _ _=>rfl)) zae (λ _ _=>rfl)) zab)))))) (zac (zbn (zaq zay (pv 6) (zft zc5 zae) (λ _ _=>rfl)) (zbp (n:=4) rfl (zah (zag (i:=7) nd rfl (uaw rfl)) (zah (zag (i:=8) nd rfl (uaw rfl)) (zah (zag (i:=9) nd rfl (uaw rfl)) (zah (zag (i:=10) nd rfl (uaw rfl)) za1)))))) (zac (zap (i:=7) nd rfl (uaw rfl) (zad O_pivot_by hr rfl (zaa (pv 1) (zaa (zax zbt (zad O_top_of hr rfl (zaa (pv 1) (zaa (pv 7) zab))) zae) (zaa (pv 5) zab))))) (zac (zbq (zfu ubo ub4 ub3 zbx (pv 6) (zaa (zbc (zaa (pv 7) (zaa (pv 9) (zaa (pv 8) (zaa (zaq zay (pv 5) (pv 7) (λ _ _=>rfl)) zab))))) zab))) (zaf (zt1 (i:=4) (j:=5) rfl nd rfl rfl (by decide) rfl rfl (zaa (pv 5) (zaa (pv 4) zab)) rfl)))))) (zaf (zaj (zau za2 rfl T.z_tuple (by symm) (zaa (pv 6) zab)))))))))),?_⟩
 refine seqN λ N1 hN1=>?_
 refine⟨_,rfl,_,rfl,n,ts,ls,wv,lv,rfl,isw,ok.n1,lvk,λ H1 s1=>?_⟩
 refine hN1 _ _ (seqN λ N2 hN2=>?_)
 refine⟨_,rfl,_,rfl,n,ts,wv,(u:Int),rfl,Is.same s1 _ isw,ok,by left,by left,λ lh Du H2 s2 f2 e2 Fu=>?_⟩
 refine hN2 _ _ (seqN λ N3 hN3=>?_)
 refine⟨_,rfl,_,rfl,n,ts,wv,(v:Int),rfl,Is.same (s1.trans s2) _ isw,ok,by left,by left,λ lt Dv H3 s3 f3 e3 Fv=>?_⟩
 rw[uao] at Fu Fv
 have s13:=(s1.trans s2).trans s3
 have lDu:=Fu.1
 have atv:atI (Du.map ov) (v:Int)=some (ov (Far.get Du v)):=zat (uav _) (by rw[uao];exact zg8 (by left))
 refine hN3 _ _ (seqN λ N4 hN4=>?_)
 refine⟨_,rfl,_,rfl,lh,_,_,_,rfl,rfl,SqL.of (s3 _ _ e2),atv,rfl,_,rfl,?_⟩
 cases ed:Far.get Du v with
 | none=>exact iteT (q .non Du Dv H3 s13 Fu Fv (.inl ⟨rfl,ed⟩))
 | some d =>
  refine iteF (hN4 _ _ (seqN λ N5 hN5=>?_))
  refine⟨_,rfl,_,rfl,_,rfl,(by show 4<=1000;decide),λ t0 J4 S4 f4 e4=>⟨(by show 1<=1000;decide),λ lo' J5 S5 f5 e5=>?_⟩⟩
  have S35:=S4.trans S5
  have nh:lh≠lo':=zak (S4 _ _ (s3 _ _ e2)) f5
  have nt:lt≠lo':=zak (S4 _ _ e3) f5
  refine hN5 _ _ (seqN λ N6 hN6=>?_)
  refine⟨λ m σ J=>∃ (pre:List (List Int))(w a b:Nat)(Da Db:List (Option Int))(x:Int)(la lb:Addr)(ys:List V)(y7 y8 y9 y10:Option V),σ=[some wv,some lv,some (.int (u:Int)),some (.int (v:Int)),some (.ref la),some (.ref lb),some (.ref lo'),y7,y8,y9,y10]/\m=ls.length-pre.length/\Same H J/\J la=some (.lst (Da.map ov))/\J lb=some (.lst (Db.map ov))/\la≠lo'/\lb≠lo'/\J lo'=some (.lst ys)/\IsAll K J ((pre++[[(w:Int),(a:Int),(b:Int),x]]).map tupI) ys/\Clb ts n ls d u v Du Dv pre w a b Da Db x,⟨_,[],u,u,v,Du,Dv,0,lh,lt,_,none,none,none,none,rfl,rfl,s13.trans S35,S35 _ _ (s3 _ _ e2),S35 _ _ e3,nh,nt,e5,⟨_,_,rfl,⟨t0,_,rfl,S5 _ _ e4,IsAll.ints [(u:Int),u,v,0]⟩,rfl⟩,Clb.first ok lo Fu Fv un vn ed⟩,?_⟩
  rintro m σ J ⟨pre,w,a,b,Da,Db,x,la,lb,ys,y7,y8,y9,y10,rfl,rfl,sm,ha,hb,na,nb,hl,ia,cl⟩
  obtain⟨ly,tr,atr,htr⟩:=zra ia
  have lt':=cl.lt lo
  have wn:=cl.cs.wn
  have lDb:=cl.cs.fb.1
  refine⟨_,rfl,_,rfl,_,rfl,_,rfl,lo',_,_,_,rfl,rfl,SqL.of hl,atr,tr,_,_,_,rfl,rfl,SqT.of htr,rfl,n.toNat,ls,lv,lb,Db,w,rfl,⟨Is.same sm _ lvk.1,lvk.2⟩,hb,lDb,wn,λ J1 S1=>⟨_,rfl,?_⟩⟩
  have sm1:=sm.trans S1
  cases eb:bunB ls Db w with
  | true =>
   obtain⟨er,ro⟩:=cl.done lo eb
   refine iteF (hN6 _ _ ?_)
   refine⟨_,rfl,lo',_,rfl,S1 _ _ hl,λ t J2 S2 f2' e2'=>?_⟩
   refine q _ Du Dv J2 (sm1.trans S2) Fu Fv (.inr ⟨t,ys,d,rfl,ed,e2',?_,ro⟩)
   rw[← er]
   exact IsAll.same S2 _ (IsAll.same S1 _ ia)
  | false =>
   refine iteT ⟨_,λ _ _ h=>h,?_⟩
   refine seqB λ N C M hN hC hM=>?_
   refine⟨_,rfl,_,rfl,lo',_,_,_,rfl,rfl,SqL.of (S1 _ _ hl),atr,tr,_,rfl,SqT.of (S1 _ _ htr),rfl,_,_,rfl,_,_,rfl,_,_,rfl,_,_,rfl,rfl,?_⟩
   refine hM _ _ (seqN λ M2 hM2=>?_)
   refine⟨_,rfl,_,rfl,_,rfl,n.toNat,ls,lv,w,rfl,⟨Is.same sm1 _ lvk.1,lvk.2⟩,wn,λ bt J2 S2 tb=>?_⟩
   have et:=zes tb
   obtain⟨ml,_⟩:=cl.cs.more lo eb
   rw[et] at ml
   have S12:=S1.trans S2
   refine⟨_,_,rfl,rfl,_,rfl,n.toNat,ls,lv,bt+1,lb,Db,rfl,⟨Is.same (sm1.trans S2) _ lvk.1,lvk.2⟩,ml,S12 _ _ hb,lDb,λ o J3 S3 pv=>?_⟩
   have S13:=S12.trans S3
   rw[← et] at pv
   obtain⟨p,x',rfl,pn,ex,cl'⟩:=cl.next ok lo eb pv
   have atp:atI (Db.map ov) (p:Int)=some (ov (some x')):=by rw[← ex];exact zat (uav _) (by rw[uao];exact zg8 (by left))
   refine hM2 _ _ (seqN λ M3 hM3=>?_)
   refine⟨_,rfl,.inl ⟨rfl,_,SqL.of (S13 _ _ hl)⟩,_,rfl,_,rfl,_,rfl,_,rfl,_,rfl,lb,_,_,_,rfl,rfl,SqL.of (S13 _ _ hb),atp,(by show 4<=1000;decide),λ t6 J6 S6 f6 e6=>?_⟩
   have S16:=S13.trans S6
   refine⟨lo',_,_,rfl,rfl,S16 _ _ hl,by left,λ J7 b7 e7=>hM3 _ _ ⟨_,rfl,_,rfl,_,_,rfl,hN _ _ ?_⟩⟩
   refine⟨ls.length-(pre++[[(w:Int),(a:Int),(b:Int),x]]).length,?_,pre++[[(w:Int),(a:Int),(b:Int),x]],p,b,a,Db,Da,x',lb,la,_,_,_,_,_,rfl,rfl,λ c o z=>b7 _ _ (zak z ?_) (S16 _ _ (sm _ _ z)),b7 _ _ nb (S16 _ _ hb),b7 _ _ na (S16 _ _ ha),nb,na,e7,?_,cl'⟩
   ·rw[uar,uax];left
   ·exact s13.free (S4.free f5)
   ·rw[ucm]
    exact IsAll.snoc (Is.but b7 (S16 _ _ hl) _ (zgz _) ⟨t6,_,rfl,e6,IsAll.ints [(p:Int),b,a,x']⟩) (IsAll.but b7 (S16 _ _ hl) _ (zeq _) (IsAll.same S16 _ ia))
theorem zhd (T:Bi mg)(D:DefOk K mg "tree_ties" s_tree_ties ["web","tree"])(O_tie_between:‹1› "tie_between" ["web","a","b"] (spTB K)):‹2› "tree_ties" ["web","tree"] (spTTG K):=by
 exists 1,sc_tree_ties
 obtain⟨n,ts,wv,t,F,rfl,isw,few60,ht,lF,hF,q⟩:=h
 refine⟨_,(zaf (zaj (za4 (N:=["web","tree"]) (sc0:=defScope s_tree_ties) (own:=["place","ahead"]) (fr:=["web"]) (js:=[0]) rfl (zev true rfl T.z_enumerate (zaa (pv 1) zab)) (λ _ _ _ _=>(zca (n:=2) rfl (zah (zag (i:=0) (by show ua7 [("place":Str),("ahead":Str),("web":Str)];decide +kernel) rfl (uaw rfl)) (zah (zag (i:=1) (by show ua7 [("place":Str),("ahead":Str),("web":Str)];decide +kernel) rfl (uaw rfl)) za1)))) (λ _ _ _ _=>(zci (zao zg9 (pv 1) za7 (nomark _)))) (λ _ _ _ _=>(zad O_tie_between hr rfl (zaa (pv 2) (zaa (pv 0) (zaa (pv 1) zab)))))))),?_⟩
 refine⟨_,rfl,t,rfl,⟨_,SqX.of (t:=true) ht⟩,?_⟩
 refine zjh (t:=true) ht (λ σ'=>∃ o1 o2,σ'=[o1,o2,some wv]) (λ v=>((Far.get F v).bind λ u=>tbN ts v u).map λ k:Nat=>V.int (k:Int)) (by rw[uae];left) (by exact⟨none,none,rfl⟩) (λ i x U σ' H' hx s2 hU sg C L hC hL=>?_) (λ L J hL S hH=>?_)
 ·obtain⟨o1,o2,rfl⟩:=sg
  have hi:i<F.length:=by have:=(uak.mp hx).1;rw[uae] at this;exact this
  rw[zmq hi] at hx
  cases hx
  refine⟨U,_,rfl,SqT.of zai,rfl,_,_,rfl,_,_,rfl,rfl,?_⟩
  refine⟨_,rfl,?_⟩
  have SU:=zam (H:=H') (o:=.tup [.int (i:Nat),oa (Far.get F i)]) hU
  cases e:Far.get F i with
  | none =>
   exact⟨rfl,_,rfl,iteF (hL _ _ ⟨_,_,rfl⟩ (by rw[e] at SU;exact SU) (by rw[e];rfl))⟩
  | some u =>
   obtain⟨k,tb⟩:=hF i u e
   rw[e] at SU
   refine⟨rfl,_,rfl,iteT ⟨_,rfl,_,rfl,_,rfl,n,ts,wv,i,u,rfl,Is.same (s2.trans SU) _ isw,few60,λ H5 s5=>?_⟩⟩
   rw[tb]
   exact hC _ _ _ ⟨_,_,rfl⟩ (SU.trans s5) (by rw[e];show (tbN ts i u).map _=_;rw[tb];rfl)
 ·refine q L J S hL ?_
  rw[hH,uae]
  unfold natV
  rw[ufm]
theorem zhm (T:Bi mg)(D:DefOk K mg "bunches_of" s_bunches_of ["web","levels"])(O_bunch:‹7› "bunch" ["web","levels","v"] (spBunch K)):‹8› "bunches_of" ["web","levels"] (spBunchesF K):=by
 exists 7,sc_bunches_of
 obtain⟨n,ts,ls,wv,lv,rfl,isw,ok,lvk,q⟩:=h
 have n1:=ok.n1
 have n24:=ok.n24
 obtain⟨g0,g,ws,rfl,hg0,hg,hall,hlw⟩:=zaz isw
 refine⟨_,(zaf (zaj (za4 (N:=["web","levels"]) (sc0:=defScope s_bunches_of) (own:=["v"]) (fr:=["web","levels"]) (js:=[0,1]) rfl (zbs rfl T.z_range (zaa (zaq zav (pv 0) zae (λ _ _=>rfl)) zab)) (λ _ _ _ _=>(zag (i:=0) (by show ua7 [("v":Str),("web":Str),("levels":Str)];decide +kernel) rfl (uaw rfl))) (λ _ _ _ _=>zbe) (λ _ _ _ _=>(zau (zk6 rfl) rfl T.z_dict (by symm) (zaa (zad O_bunch hr rfl (zaa (pv 1) (zaa (pv 2) (zaa (pv 0) zab)))) zab)))))),?_⟩
 refine⟨_,rfl,g0,_,_,_,rfl,rfl,SqT.of hg0,rfl,n,rfl,by left,by left,?_⟩
 refine zk2 (n:=n.toNat) (lo:=0) (λ σ'=>∃ o,σ'=[o,some (.ref g0),some lv]) (λ i v J=>∃ d o,v=.ref d/\J d=some (.frz o (.dK (bkv n.toNat ts ls i)))) (by left) (by exact⟨none,rfl⟩) (λ i v H H' k h=>?_) (λ i σ' H' hi s2 sg C hC=>?_) (λ L ys J hL S hH hly hys=>?_)
 ·obtain⟨d,o,e1,e2⟩:=h
  exact⟨d,o,e1,k _ _ (λ xs z=>by cases z) e2⟩
 ·obtain⟨o,rfl⟩:=sg
  rw[show (0+(i:Int))=(i:Int) by left]
  refine⟨_,rfl,_,rfl,_,rfl,n,ts,ls,_,lv,(i:Int),rfl,Is.same s2 _ isw,ok,⟨Is.same s2 _ lvk.1,lvk.2⟩,by left,by left,λ t ys D' J1 S1 F e1 ia=>?_⟩
  rw[uao] at F
  rw[zfi ok F,zfn] at ia
  have hl:=ia.length
  rw[uae] at hl
  refine⟨t,ys,bkI n.toNat ts ls i,rfl,e1,by unfold bkI bnL clB;rw[uae];exact hl,λ j y hy=>?_,zpz _ _ _ _,λ l o J2 S2 f2 e2=>hC _ _ _ ⟨_,rfl⟩ (S1.trans S2) ⟨l,o,rfl,e2⟩⟩
  obtain⟨d,hd,ix⟩:=ia.get' hy
  rw[uaj] at hd
  obtain⟨w',hw',rfl⟩:=uba.mp hd
  obtain⟨c,us,rfl,hc,hus⟩:=ix
  rw[IsAll.of_ints hus] at hc
  exact⟨c,(w':Int),V.int ((Far.get (dFC n.toNat ts i) w').getD 0),by unfold bkI bnL clB;rw[uaj,hw'];rfl,rfl,hc⟩
 ·refine q L ys J S hL hH ⟨hly,λ v hv=>?_⟩
  have ey:ys[v]?=some ys[v]:=uad (by left)
  obtain⟨d,o,e1,e2⟩:=hys v _ ey
  rw[e1] at ey
  exact⟨d,o,ey,e2⟩
theorem ze4 (T:Bi mg)(D:DefOk K mg "cluster_tree" s_cluster_tree ["web","bunches","w"])(O_tree_from:‹3› "tree_from" ["web","keep","root"] (spTreeB K))(O_whole:‹3› "whole" ["web"] (spWhole K)):‹4› "cluster_tree" ["web","bunches","w"] (spClTreeF K):=by
 exists 3,sc_cluster_tree
 obtain⟨n,ts,ls,wv,lb,ys,w',rfl,isw,ok,hb,bn,hw,q⟩:=h
 have hu:(A.deeper (envOfC "cluster_tree" (defScope s_cluster_tree) s.heap.objs.size f cdv)).units+1<cLine:=by have:=hr.units;left
 have few60:=ok.few
 have n24:=ok.n24
 refine⟨_,(zac (zap (i:=3) nd rfl (uaw rfl) (zad O_tree_from hr rfl (zaa (pv 0) (zaa (zad O_whole hr rfl (zaa (pv 0) zab)) (zaa (pv 2) zab))))) (zaf (zaj (zau za2 rfl T.z_tuple (by symm) (zaa (za4 (N:=["web","bunches","w","tree"]) (sc0:=defScope s_cluster_tree) (own:=["v","ahead"]) (fr:=["w","bunches"]) (js:=[2,1]) rfl (zev true rfl T.z_enumerate (zaa (pv 3) zab)) (λ _ _ _ _=>(zca (n:=2) rfl (zah (zag (i:=0) (by show ua7 [("v":Str),("ahead":Str),("w":Str),("bunches":Str)];decide +kernel) rfl (uaw rfl)) (zah (zag (i:=1) (by show ua7 [("v":Str),("ahead":Str),("w":Str),("bunches":Str)];decide +kernel) rfl (uaw rfl)) za1)))) (λ _ _ _ _=>zbe) (λ _ _ _ _=>(zg6 (znz (zr9 hu (pv 2) (zaq zb9 (pv 3) (pv 0) (λ _ _=>rfl))) (by with_unfolding_all rfl)) (pv 1) za7))) zab))))),?_⟩
 refine⟨_,rfl,_,rfl,n,ts,wv,rfl,isw,few60,λ lk J1 S1 f1 e1=>?_⟩
 have is1:=Is.same S1 _ isw
 refine⟨_,rfl,n,ts,uaf ts.length,wv,.ref lk,(w':Int),rfl,⟨is1,ok,zb3 e1,za5 ts⟩,by left,by left,λ t as cs J2 S2 e2 B=>?_⟩
 rw[uao] at B
 have lA:=B.alen
 have ea:=ztt ok hw B
 subst ea
 have S12:=S1.trans S2
 refine⟨_,rfl,t,rfl,⟨_,SqX.of (t:=true) e2⟩,?_⟩
 refine zmz e2 (λ σ'=>∃ o1 o2,σ'=[o1,o2,some (.int (w':Int)),some (.ref lb)]) (λ i v _=>v=oa (if clB n.toNat ts ls i w'=true then Far.get (trA n ts w') i else none)) (by rw[uae];left) (by exact⟨none,none,rfl⟩) (λ _ _ _ _ _ h=>h) (λ i x U σ' H' hx s3 hU sg C hC=>?_) (λ L zs J3 hL S3 hH hlz hzs=>?_)
 ·obtain⟨o1,o2,rfl⟩:=sg
  have hi:i<(trA n ts w').length:=by have:=(uak.mp hx).1;rw[uae] at this;exact this
  rw[zmq hi] at hx
  cases hx
  refine⟨U,_,rfl,SqT.of zai,rfl,_,_,rfl,_,_,rfl,rfl,?_⟩
  have SU:=zam (H:=H') (o:=.tup [.int (i:Nat),oa (Far.get (trA n ts w') i)]) hU
  have SA:=S12.trans (s3.trans SU)
  obtain⟨d,od,ed,hd⟩:=bn.2 i (by left)
  refine⟨_,rfl,_,rfl,_,rfl,lb,_,_,_,rfl,rfl,SqL.of (SA _ _ hb),zat (uav _) (by rw[uao];exact ed),d,_,rfl,zhz (k:=Sum.inl (w':Int)) (SA _ _ hd),_,rfl,?_⟩
  rw[zsi]
  have eb:decide (w'∈bnL n.toNat ts ls i)=clB n.toNat ts ls i w':=by
   rw[uc4,decide_eq_true_eq,bnL_mem]
   exact⟨λ h=>h.2,λ h=>⟨hw,h⟩⟩
  rw[eb]
  cases ec:clB n.toNat ts ls i w' with
  | true=>exact iteT ⟨_,rfl,hC _ _ _ ⟨_,_,rfl⟩ SU (by rw[ec];rfl)⟩
  | false=>exact iteF (hC _ _ _ ⟨_,_,rfl⟩ SU (by rw[ec];rfl))
 rw[uae] at hlz
 refine⟨L,_,rfl,hH,λ t4 J4 S4 f4 e4=>q t4 J4 (S12.trans (S3.trans S4)) ?_⟩
 rw[e4]
 refine congrArg (λ z=>some (HO.tup z)) (ucc λ i=>?_)
 by_cases hi:i<n.toNat
 ·have e5:zs[i]?=some zs[i]:=uad (by left)
  rw[e5,hzs i _ e5]
  unfold clA
  rw[uaj,uaj,ub9 hi];rfl
 ·rw[uat (by left),uat (by rw[uae,zfk];left)]
theorem zef (T:Bi mg)(D:DefOk K mg "cluster_trees" s_cluster_trees ["web","bunches"])(O_cluster_tree:‹4› "cluster_tree" ["web","bunches","w"] (spClTreeF K)):‹5› "cluster_trees" ["web","bunches"] (spClTreesF K):=by
 exists 4,sc_cluster_trees
 obtain⟨n,ts,ls,wv,lb,ys,rfl,isw,ok,hb,bn,q⟩:=h
 have n1:=ok.n1
 have n24:=ok.n24
 obtain⟨g0,g,ws,rfl,hg0,hg,hall,hlw⟩:=zaz isw
 refine⟨_,(zaf (zaj (zau za2 rfl T.z_tuple (by symm) (zaa (za4 (N:=["web","bunches"]) (sc0:=defScope s_cluster_trees) (own:=["w"]) (fr:=["web","bunches"]) (js:=[0,1]) rfl (zbs rfl T.z_range (zaa (zaq zav (pv 0) zae (λ _ _=>rfl)) zab)) (λ _ _ _ _=>(zag (i:=0) (by show ua7 [("w":Str),("web":Str),("bunches":Str)];decide +kernel) rfl (uaw rfl))) (λ _ _ _ _=>zbe) (λ _ _ _ _=>(zbc (zaa (pv 0) (zaa (zad O_cluster_tree hr rfl (zaa (pv 1) (zaa (pv 2) (zaa (pv 0) zab)))) zab))))) zab)))),?_⟩
 refine⟨_,rfl,g0,_,_,_,rfl,rfl,SqT.of hg0,rfl,n,rfl,by left,by left,?_⟩
 refine zmy (n:=n.toNat) (lo:=0) (λ σ'=>∃ o,σ'=[o,some (.ref g0),some (.ref lb)]) (λ i v J=>∃ c t,v=.ref c/\J c=some (.tup [.int (i:Int),.ref t])/\J t=some (.tup ((clA n ts ls i).map oa))) (by left) (by exact⟨none,rfl⟩) (λ i v H H' k h=>?_) (λ i σ' H' hi s2 sg C hC=>?_) (λ L zs J hL S hH hlz hzs=>?_)
 ·obtain⟨c,t,e1,e2,e3⟩:=h
  exact⟨c,t,e1,k _ _ e2,k _ _ e3⟩
 ·obtain⟨o,rfl⟩:=sg
  rw[show (0+(i:Int))=(i:Int) by left]
  refine⟨_,rfl,_,rfl,_,rfl,_,rfl,n,ts,ls,_,lb,ys,i,rfl,Is.same s2 _ isw,ok,s2 _ _ hb,bn.same s2,hi,λ t J1 S1 e1=>⟨(by show 2<=1000;decide),λ c J2 S2 f2 e2=>hC _ _ _ ⟨_,rfl⟩ (S1.trans S2) ⟨c,t,rfl,e2,S2 _ _ e1⟩⟩⟩
 ·refine⟨L,_,rfl,hH,λ t4 J4 S4 f4 e4=>q _ J4 (S.trans S4) (zqj e4 hlz λ w' x hx=>?_)⟩
  obtain⟨c,t,e1,e2,e3⟩:=hzs w' x hx
  exact⟨c,t,e1,S4 _ _ e2,S4 _ _ e3⟩
theorem zed (T:Bi mg)(D:DefOk K mg "ties_of_trees" s_ties_of_trees ["web","trees"])(O_tree_ties:‹3› "tree_ties" ["web","tree"] (spTTG K)):‹4› "ties_of_trees" ["web","trees"] (spTiesTr K):=by
 exists 3,sc_ties_of_trees
 obtain⟨n,ts,ls,wv,v,rfl,isw,ok,ist,q⟩:=h
 have few60:=ok.few
 have n24:=ok.n24
 obtain⟨p,xs,rfl,hp,hlx,hxs⟩:=zer ist
 refine⟨_,(zac (zap (i:=2) nd rfl (uaw rfl) (zcb zab)) (zac (zb5 PassesOwn.never rfl (zb0 (pv 1)) (zbp (n:=2) rfl (zah (zag (i:=3) nd rfl (uaw rfl)) (zah (zag (i:=4) nd rfl (uaw rfl)) za1))) (zaf (zbq (zfu ubo PySem.F.slot_list_extend PySem.F.type_list_extend zmr (pv 2) (zaa (zad O_tree_ties hr rfl (zaa (pv 0) (zaa (pv 4) zab))) zab))))) (zaf (zaj (zau za2 rfl T.z_tuple (by symm) (zaa (zal (zjk rfl) rfl T.z_sorted (by symm) (zaa (zau (zm1 rfl) rfl T.z_set (by symm) (zaa (pv 2) zab)) zab)) zab)))))),?_⟩
 refine⟨(by show 0<=1000;decide),λ lf J1 S1 f1 e1=>?_⟩
 have fl:∀ m,m<=24->((uaf m).flatMap (clT n ts ls)).length<=576:=λ m hm=>by
  have h1:=zo9 (f:=clT n ts ls) (m:=24) (uaf m) λ r _=>ubt (zpm r) (by left)
  rw[uay] at h1
  have h2:=Nat.mul_le_mul_right 24 hm
  left
 refine⟨_,rfl,p,rfl,⟨_,SqT.of (S1 _ _ hp)⟩,?_⟩
 refine zfg (xs:=xs) (λ i σ J=>∃ y3 y4:Option V,σ=[some wv,some (.ref p),some (.ref lf),y3,y4]/\But lf J1 J/\J lf=some (.lst (natV ((uaf i).flatMap (clT n ts ls))))) ⟨none,none,rfl,But.refl,e1⟩ (λ i σ J _ h=>?_) (λ i x σ J hx h=>?_) (λ σ J h=>?_)
 ·obtain⟨y3,y4,rfl,bt,_⟩:=h
  exact SqT.of (bt _ _ (zak hp f1) (S1 _ _ hp))
 ·obtain⟨y3,y4,rfl,bt,hf⟩:=h
  obtain⟨c,t,rfl,hw,hc,ht⟩:=hxs i x hx
  have sm:Same H J:=λ b o e=>bt _ _ (zak e f1) (S1 _ _ e)
  have is2:=Is.same sm _ isw
  refine⟨c,_,rfl,SqT.of (sm _ _ hc),rfl,_,_,rfl,_,_,rfl,rfl,?_⟩
  refine⟨_,rfl,.inl ⟨rfl,_,SqL.of hf⟩,_,rfl,_,rfl,n,ts,wv,t,clA n ts ls i,rfl,is2,few60,sm _ _ ht,by rw[zfk];left,λ v u e=>?_,λ l4 J4 S4 f4 e4=>?_⟩
  ·obtain⟨k,e,_⟩:=zpn ok hw e
   exact⟨k,e⟩
  have l1:=fl i (by left)
  have l2:=zpm (n:=n) (ts:=ts) (ls:=ls) i
  rw[zfk] at e4
  refine⟨lf,l4,_,_,rfl,rfl,S4 _ _ hf,e4,?_,λ J5 b5 e5=>⟨_,_,rfl,λ b o z e=>b5 _ _ z (S4 _ _ (bt _ _ z e)),?_⟩⟩
  ·rw[zaw,zaw]
   show _+(clT n ts ls i).length<=_
   left
  ·rw[e5,ucf,List.flatMap_append,zdc]
   simp [clT]
 ·obtain⟨y3,y4,rfl,bt,hf⟩:=h
  rw[hlx] at hf
  have sm:Same H J:=λ b o e=>bt _ _ (zak e f1) (S1 _ _ e)
  have l1:=fl n.toNat (by left)
  obtain⟨fu,efu⟩:∃ fu,fu=(uaf n.toNat).flatMap (clT n ts ls):=⟨_,rfl⟩
  rw[← efu] at hf l1
  have mfu:∀ k,k∈clK n ts ls↔k∈fu:=λ k=>by
   rw[zk5 ok,efu,uey]
   exact⟨λ ⟨w',h1,h2⟩=>⟨w',uaq.mpr h1,h2⟩,λ ⟨w',h1,h2⟩=>⟨w',uaq.mp h1,h2⟩⟩
  have few:=zqs (ns:=keepI fu) (m:=60) λ x hx=>by
   obtain⟨c,hc,rfl⟩:=ubx.mp hx
   have:=(zch n ts ls).2 c ((mfu c).mpr hc)
   left
  rw[zbg] at hf
  refine⟨_,rfl,lf,keepI fu,rfl,hf,by unfold keepI;rw[uae];left,λ q1 J2 S2 f2 e2=>⟨q1,_,_,rfl,e2,by left,λ ms m1 m2 m3 l3 J3 S3 f3 e3=>⟨l3,_,rfl,e3,λ t J4 S4 f4 e4=>?_⟩⟩⟩
  rw[zke m1 m2 m3 (zch n ts ls).1 mfu] at e4
  exact q t J4 (sm.trans (S2.trans (S3.trans S4))) e4
theorem zhj (T:Bi mg)(D:DefOk K mg "level_keep" s_level_keep ["web","levels"])(O_ties_of_trees:‹8› "ties_of_trees" ["web","trees"] (spTiesTr K))(O_cluster_trees:‹8› "cluster_trees" ["web","bunches"] (spClTreesF K))(O_bunches_of:‹8› "bunches_of" ["web","levels"] (spBunchesF K)):‹9› "level_keep" ["web","levels"] (spLevKeep K):=by
 exists 8,sc_level_keep
 obtain⟨n,ts,ls,wv,lv,rfl,isw,ok,lvk,q⟩:=h
 refine⟨_,(zaf (zaj (zad O_ties_of_trees hr rfl (zaa (pv 0) (zaa (zad O_cluster_trees hr rfl (zaa (pv 0) (zaa (zad O_bunches_of hr rfl (zaa (pv 0) (zaa (pv 1) zab))) zab))) zab))))),?_⟩
 refine⟨_,rfl,_,rfl,_,rfl,_,rfl,n,ts,ls,wv,lv,rfl,isw,ok,lvk,λ l ys J1 S1 f1 e1 bn=>?_⟩
 refine⟨n,ts,ls,wv,l,ys,rfl,Is.same S1 _ isw,ok,e1,bn,λ v J2 S2 isv=>?_⟩
 exact⟨n,ts,ls,wv,v,rfl,Is.same (S1.trans S2) _ isw,ok,isv,λ t J3 S3 e3=>q t J3 (S1.trans (S2.trans S3)) e3⟩
theorem zkz {β:Type}(p:Nat->Bool)(g:Nat->β):∀ l:List Nat,l.filterMap (λ x=>if p x=true then some (g x) else none)=(l.filter p).map g
 | []=>rfl
 | x::r=>by
  have ih:=zkz p g r
  cases e:p x with
  | true=>rw[ugz (by rw[if_pos e]),List.filter_cons_of_pos e,ih];rfl
  | false=>rw[List.filterMap_cons_none (by rw[if_neg (by rw[e];decide)]),List.filter_cons_of_neg (by rw[e];decide),ih]
theorem zro {β:Type}(p:Nat->Bool)(g:Nat->β)(l:List Nat):(uaf l.length).filterMap (λ i=>if p (l.getD i 0)=true then some (g (l.getD i 0)) else none)=(l.filter p).map g:=by
 rw[← zkz p g l]
 conv=>rhs;rw[← L3.zba l 0]
 rw[ueo];rfl
def spBestS (K:uac):Sp:=λ vs H Q _=>∃ (n:Int)(ts:List Tie)(ls:List (List Nat))(wv:V)(lb:Addr)(ys:List V)(k:Nat),vs=[wv,.ref lb,.int (k:Int)]/\Is K H (webD n ts) wv/\WebOk n ts/\LevOk n.toNat ls/\H lb=some (.lst ys)/\BnF H n.toNat ts ls ys/\k<ts.length/\∀ H',Same H H'->IsSd n.toNat ts ls (en ts k).1 (en ts k).2 (sdF n.toNat ts ls (en ts k).1 (en ts k).2)->Q (.int (sdF n.toNat ts ls (en ts k).1 (en ts k).2:Nat)) H'
theorem zi4 (T:Bi mg)(D:DefOk K mg "best_side" s_best_side ["web","bunches","tie"]):‹1› "best_side" ["web","bunches","tie"] (spBestS K):=by
 exists 0,sc_best_side
 obtain⟨n,ts,ls,wv,lb,ys,k,rfl,isw,ok,lo,hb,bn,hk,q⟩:=h
 have hu:(A.deeper (envOfC "best_side" (defScope s_best_side) s.heap.objs.size f cdv)).units+1<cLine:=by have:=hr.units;left
 have n24:=ok.n24
 obtain⟨g0,g,ws,rfl,hg0,hg,hall,hlw⟩:=zaz isw
 obtain⟨ta,hta,htie⟩:=zbz hall hk
 obtain⟨e1,e2,e3,e4⟩:=zpb ok hk
 refine⟨_,(zac (zbn (zaq zav (zaq zav (pv 0) zae (λ _ _=>rfl)) (pv 2) (λ _ _=>rfl)) (zbp (n:=3) rfl (zah (zag (i:=3) nd rfl (ufj rfl)) (zah (zag (i:=4) nd rfl (ufj rfl)) (zah (zag (i:=5) nd rfl (uaw rfl)) za1))))) (zaf (zaj (zaq zav (zal (zgx rfl hu) rfl T.z_min (by symm) (zaa (za4 (N:=["web","bunches","tie","a","b","length"]) (sc0:=defScope s_best_side) (own:=["w"]) (fr:=["bunches","a","b"]) (js:=[1,3,4]) rfl (zs8 (zaq zay (pv 1) (pv 3) (λ _ _=>rfl))) (λ _ _ _ _=>(zag (i:=0) (by show ua7 [("w":Str),("bunches":Str),("a":Str),("b":Str)];decide +kernel) rfl (uaw rfl))) (λ _ _ _ _=>(zci (znz (zr9 hu (pv 0) (zaq zb9 (pv 1) (pv 3) (λ _ _=>rfl))) (by with_unfolding_all rfl)))) (λ _ _ _ _=>(zbc (zaa (zax zbt (zg7 hu (zaq zb9 (pv 1) (pv 2) (λ _ _=>rfl)) (pv 0) (λ _ _=>rfl)) (zg7 hu (zaq zb9 (pv 1) (pv 3) (λ _ _=>rfl)) (pv 0) (λ _ _=>rfl))) (zaa (pv 0) zab))))) zab)) zae (λ _ _=>rfl))))),?_⟩
 refine⟨_,rfl,g0,_,_,_,rfl,rfl,SqT.of hg0,rfl,_,rfl,g,_,_,_,rfl,rfl,SqT.of hg,zat (uav _) hta,?_⟩
 refine⟨ta,_,rfl,SqT.of htie,rfl,_,_,rfl,_,_,rfl,_,_,rfl,rfl,?_⟩
 rw[← e3,← e4]
 obtain⟨a,ea⟩:∃ a,a=(en ts k).1:=⟨_,rfl⟩
 obtain⟨b,eb⟩:∃ b,b=(en ts k).2:=⟨_,rfl⟩
 rw[← ea,← eb] at q ⊢
 have an:a<n.toNat:=by left
 have bnn:b<n.toNat:=by left
 obtain⟨da,oa',eda,hda⟩:=bn.2 a an
 obtain⟨db,ob',edb,hdb⟩:=bn.2 b bnn
 have atA:∀ {x:Nat}{d:Addr},ys[x]?=some (.ref d)->atI ys (x:Int)=some (.ref d):=λ h=>zat (uav _) (by rw[uao];exact h)
 have lbk:(bkv n.toNat ts ls a).length=(bnL n.toNat ts ls a).length:=by unfold bkv bkI;rw[uae,uae]
 have lbn:(bnL n.toNat ts ls a).length<=n.toNat:=by unfold bnL;have:=udr (λ w=>clB n.toNat ts ls a w) (uaf n.toNat);rw[uay] at this;exact this
 refine⟨_,rfl,_,rfl,lb,_,_,_,rfl,rfl,SqL.of hb,atA eda,da,oa',_,rfl,hda,?_⟩
 refine zmx (K':=K) hda (λ σ'=>∃ o,σ'=[o,some (.ref lb),some (.int (a:Int)),some (.int (b:Int))]) (λ i=>if decide ((bnL n.toNat ts ls a).getD i 0∈bnL n.toNat ts ls b)=true then some (PyData.tuple ((sdK ts a b ((bnL n.toNat ts ls a).getD i 0)).map .int)) else none) (λ i d h=>?_) (by rw[lbk];left) (by exact⟨none,rfl⟩) (λ i k y x σ' H' hx ex s2 sg C L hC hL=>?_) (λ D zs J hD S hH hly hys=>?_)
 ·split at h
  ·cases h;exact zek _
  ·cases h
 ·obtain⟨o,rfl⟩:=sg
  unfold bkv bkI at hx
  rw[uaj,uaj] at hx
  cases hw:(bnL n.toNat ts ls a)[i]? with
  | none=>rw[hw] at hx;cases hx
  | some w' =>
  rw[hw] at hx
  cases hx
  subst ex
  have wa:=ua2 hw
  have ewd:(bnL n.toNat ts ls a).getD i 0=w':=by rw[uag,hw];rfl
  rw[ewd] at hC hL
  have hb2:=s2 _ _ hb
  refine⟨_,rfl,_,rfl,_,rfl,lb,_,_,_,rfl,rfl,SqL.of hb2,atA edb,db,_,rfl,zhz (k:=Sum.inl (w':Int)) (s2 _ _ hdb),_,rfl,?_⟩
  rw[zsi]
  by_cases c:w'∈bnL n.toNat ts ls b
  ·have ga:DGet H' da (V.int (w':Int)) (some (.int (dq ts a w'))):=by
    have:=zhz (k:=Sum.inl (w':Int)) (s2 _ _ hda)
    rw[zpy ok an wa] at this;exact this
   have gb:DGet H' db (V.int (w':Int)) (some (.int (dq ts b w'))):=by
    have:=zhz (k:=Sum.inl (w':Int)) (s2 _ _ hdb)
    rw[zpy ok bnn c] at this;exact this
   refine iteTe (decide_eq_true c) ⟨_,rfl,_,rfl,lb,_,_,_,rfl,rfl,SqL.of hb2,atA eda,_,rfl,da,_,rfl,ga,_,rfl,_,rfl,lb,_,_,_,rfl,rfl,SqL.of hb2,atA edb,_,rfl,db,_,rfl,gb,_,_,rfl,rfl,_,rfl,(by show 2<=1000;decide),λ p H5 S5 f5 e5=>hC _ _ (PyData.tuple ((sdK ts a b w').map .int)) _ ⟨_,rfl⟩ S5 (by rw[if_pos (decide_eq_true c)]) ⟨p,_,rfl,e5,IsAll.ints (sdK ts a b w')⟩⟩
  ·exact iteFe (decide_eq_false c) (hL _ _ ⟨_,rfl⟩ (Same.refl _) (by rw[if_neg (by rw[decide_eq_true_eq];exact c)]))
 rw[lbk,zro (λ w=>decide (w∈bnL n.toNat ts ls b)) (λ w=>PyData.tuple ((sdK ts a b w).map .int)) (bnL n.toNat ts ls a)] at hys
 obtain⟨F,eF⟩:∃ F,F=(bnL n.toNat ts ls a).filter λ w=>decide (w∈bnL n.toNat ts ls b):=⟨_,rfl⟩
 rw[← eF] at hys
 have Fm:∀ w,w∈F↔Bth n.toNat ts ls a b w:=λ w=>by
  rw[eF,ubl,decide_eq_true_eq];rfl
 have lz:zs.length=F.length:=by rw[hys.length,uae]
 have item:∀ {i:Nat}{v:V},zs[i]?=some v->∃ w' c,F[i]?=some w'/\v=.ref c/\J c=some (.tup ((sdK ts a b w').map V.int)):=λ {i v} hv=>by
  obtain⟨d,hd,ix⟩:=hys.get' hv
  rw[uaj] at hd
  obtain⟨w',hw',rfl⟩:=uba.mp hd
  obtain⟨c,us,rfl,hc,hus⟩:=ix
  rw[IsAll.of_ints hus] at hc
  exact⟨w',c,hw',rfl,hc⟩
 have keyAt:∀ {i w':Nat},F[i]?=some w'->(F.map (sdK ts a b)).getD i []=sdK ts a b w':=λ h=>by
  rw[uag,uaj,h];rfl
 refine⟨D,zs,F.map (sdK ts a b),rfl,hH,λ z=>?_,λ i v hv=>?_,λ bi v hv top=>?_⟩
 ·obtain⟨d,ed,d0,_⟩:=zel ok hk
  have ed':dvC ts a b=some d:=by rw[ea,eb];exact ed
  obtain⟨w',hw',_⟩:=zkg ok lo an bnn d0 ed'
  have:=List.length_pos_of_mem ((Fm w').mpr hw')
  rw[← lz,z] at this
  exact absurd this (by simp)
 ·obtain⟨w',c,hw',ev,hc⟩:=item hv
  exact⟨c,ev,by rw[keyAt hw'];exact hc⟩
 ·obtain⟨w',c,hw',rfl,hc⟩:=item hv
  have sd:IsSd n.toNat ts ls a b w':=by
   refine⟨(Fm w').mp (ua2 hw'),λ w2 h2=>?_⟩
   obtain⟨i2,h2'⟩:=uff ((Fm w2).mpr h2)
   have:=top i2 (by have:=(uak.mp h2').1;left)
   rw[keyAt h2',keyAt hw'] at this
   exact this
  refine⟨c,_,_,_,rfl,rfl,SqT.of hc,rfl,?_⟩
  have qq:=q J S
  rw[← ztx sd] at qq
  exact qq sd
noncomputable def sdL (n:Int)(ts:List Tie)(ls:List (List Nat)):List Nat:=(outs ts.length (clK n ts ls)).map λ k=>sdF n.toNat ts ls (en ts k).1 (en ts k).2
noncomputable def lpD (n:Int)(ts:List Tie)(ls:List (List Nat)):PyData:=.tuple [treesD n ts ls,keepD (sdL n ts ls)]
def SdAll (n:Int)(ts:List Tie)(ls:List (List Nat)):Prop:=∀ k∈outs ts.length (clK n ts ls),IsSd n.toNat ts ls (en ts k).1 (en ts k).2 (sdF n.toNat ts ls (en ts k).1 (en ts k).2)
theorem zdz {m:Nat}{ks:List Nat}{k:Nat}(h:k∈outs m ks):k<m:=uaq.mp (ubl.mp h).1
def spLevPap (K:uac):Sp:=λ vs H Q _=>∃ (n:Int)(ts:List Tie)(ls:List (List Nat))(wv lv:V),vs=[wv,lv]/\Is K H (webD n ts) wv/\WebOk n ts/\Lv K H n.toNat ls lv/\∀ v H',Same H H'->SdAll n ts ls->Is K H' (lpD n ts ls) v->Q v H'
theorem zf0 (T:Bi mg)(D:DefOk K mg "level_paper" s_level_paper ["web","levels"])(O_bunches_of:‹8› "bunches_of" ["web","levels"] (spBunchesF K))(O_cluster_trees:‹8› "cluster_trees" ["web","bunches"] (spClTreesF K))(O_not_kept:‹8› "not_kept" ["web","keep"] (spOuts K))(O_ties_of_trees:‹8› "ties_of_trees" ["web","trees"] (spTiesTr K))(O_best_side:‹8› "best_side" ["web","bunches","tie"] (spBestS K)):‹9› "level_paper" ["web","levels"] (spLevPap K):=by
 exists 8,sc_level_paper
 obtain⟨n,ts,ls,wv,lv,rfl,isw,ok,lvk,q⟩:=h
 have few60:=ok.few
 refine⟨_,(zac (zap (i:=2) nd rfl (ufj rfl) (zad O_bunches_of hr rfl (zaa (pv 0) (zaa (pv 1) zab)))) (zac (zap (i:=3) nd rfl (uaw rfl) (zad O_cluster_trees hr rfl (zaa (pv 0) (zaa (pv 2) zab)))) (zac (zap (i:=4) nd rfl (uaw rfl) (zad O_not_kept hr rfl (zaa (pv 0) (zaa (zad O_ties_of_trees hr rfl (zaa (pv 0) (zaa (pv 3) zab))) zab)))) (zaf (zaj (zbc (zaa (pv 3) (zaa (zau za2 rfl T.z_tuple (by symm) (zaa (za4 (N:=["web","levels","bunches","trees","ties"]) (sc0:=defScope s_level_paper) (own:=["tie"]) (fr:=["web","bunches"]) (js:=[0,2]) rfl (zda (pv 4)) (λ _ _ _ _=>(zag (i:=0) (by show ua7 [("tie":Str),("web":Str),("bunches":Str)];decide +kernel) rfl (uaw rfl))) (λ _ _ _ _=>zbe) (λ _ _ _ _=>(zad O_best_side hr rfl (zaa (pv 1) (zaa (pv 2) (zaa (pv 0) zab)))))) zab)) zab)))))))),?_⟩
 refine⟨_,rfl,_,rfl,n,ts,ls,wv,lv,rfl,isw,ok,lvk,λ lb ys J1 S1 f1 e1 bn=>?_⟩
 refine⟨_,rfl,_,rfl,n,ts,ls,wv,lb,ys,rfl,Is.same S1 _ isw,ok,e1,bn,λ tv J2 S2 ist=>?_⟩
 have S12:=S1.trans S2
 refine⟨_,rfl,_,rfl,_,rfl,n,ts,ls,wv,tv,rfl,Is.same S12 _ isw,ok,ist,λ kt J3 S3 e3=>?_⟩
 have S13:=S12.trans S3
 refine⟨n,ts,clK n ts ls,wv,.ref kt,rfl,⟨Is.same S13 _ isw,ok,zb3 e3,zch n ts ls⟩,λ lo J4 S4 f4 e4=>?_⟩
 have S14:=S13.trans S4
 obtain⟨O,eO⟩:∃ O,O=outs ts.length (clK n ts ls):=⟨_,rfl⟩
 rw[← eO] at e4
 have lO:O.length<=60:=by
  rw[eO];unfold outs
  have:=udr (λ k=>decide (k∉clK n ts ls)) (uaf ts.length)
  rw[uay] at this;left
 refine⟨_,rfl,_,rfl,lo,rfl,⟨_,SqL.of e4⟩,?_⟩
 refine zep e4 (λ σ'=>∃ o,σ'=[o,some wv,some (.ref lb)]) (λ i v _=>IsSd n.toNat ts ls (en ts (O.getD i 0)).1 (en ts (O.getD i 0)).2 (sdF n.toNat ts ls (en ts (O.getD i 0)).1 (en ts (O.getD i 0)).2)/\v=.int (sdF n.toNat ts ls (en ts (O.getD i 0)).1 (en ts (O.getD i 0)).2:Nat)) (by rw[zaw];left) (by exact⟨none,rfl⟩) (λ _ _ _ _ _ h=>h) (λ i x σ' H' hx s2 sg C hC=>?_) (λ L zs J5 hL S5 hH hlz hzs=>?_)
 ·obtain⟨o,rfl⟩:=sg
  obtain⟨k,hk,rfl⟩:=zb7 hx
  have ek:O.getD i 0=k:=by rw[uag,hk];rfl
  have hkl:k<ts.length:=zdz (by rw[← eO];exact ua2 hk)
  rw[ek] at hC
  have sA:=(S2.trans (S3.trans S4)).trans s2
  exact⟨_,rfl,_,rfl,_,rfl,n,ts,ls,wv,lb,ys,k,rfl,Is.same (S14.trans s2) _ isw,ok,lvk.2.1,sA _ _ e1,bn.same sA,hkl,λ H5 S5 sd=>hC _ _ _ ⟨_,rfl⟩ S5 ⟨sd,rfl⟩⟩
 rw[zaw] at hlz
 have all:SdAll n ts ls:=λ k hk=>by
  rw[← eO] at hk
  obtain⟨i,hi⟩:=uff hk
  have hi':=(uak.mp hi).1
  have:=(hzs i _ (uad (by left))).1
  rw[show O.getD i 0=k by rw[uag,hi];rfl] at this
  exact this
 have ez:zs=natV (sdL n ts ls):=by
  unfold sdL
  rw[← eO]
  refine ucc λ i=>?_
  by_cases hi:i<O.length
  ·rw[uad (by left),(hzs i _ (uad (by left))).2]
   unfold natV
   rw[uaj,uaj,uad hi,uag,uad hi]
   rfl
  ·rw[uat (by left),uat (by rw[zaw,uae];left)]
 rw[ez] at hH
 refine⟨L,_,rfl,hH,λ ts' J6 S6 f6 e6=>⟨(by show 2<=1000;decide),λ tz J7 S7 f7 e7=>q (.ref tz) J7 (S14.trans (S5.trans (S6.trans S7))) all ⟨tz,_,rfl,e7,tv,_,rfl,Is.same ((S3.trans S4).trans (S5.trans (S6.trans S7))) _ ist,.ref ts',[],rfl,zb3 (S7 _ _ e6),rfl⟩⟩⟩
theorem zp4 (pre:List Nat)(c:Nat):atI (natV (pre++[c])) (-1)=some (.int (c:Int)):=by
 unfold atI ixN
 rw[zaw,if_neg (by decide),if_pos (by rw[uar,uax];left)]
 show (natV (pre++[c]))[(-1+((pre++[c]).length:Int)).toNat]?=_
 rw[uar,uax,show (-1+((pre.length+1:Nat):Int)).toNat=pre.length by left,zdc,ubb (by rw[zaw];exact uai _),zaw,uf1];rfl
def spPlaceO (K:uac):Sp:=λ vs H Q _=>∃ (n:Int)(ts:List Tie)(wv:V)(o:Option Nat),vs=[wv,oa o]/\Is K H (webD n ts) wv/\∀ H',Same H H'->Q (.bl (match o with | none=>false | some u=>decide ((u:Int)<n))) H'
theorem zi1 (T:Bi mg)(D:DefOk K mg "is_place" s_is_place ["web","thing"])(O_is_whole:‹1› "is_whole" ["thing"] (spD1 K (λ _=>True) wholeB)):‹2› "is_place" ["web","thing"] (spPlaceO K):=by
 exists 1,sc_is_place
 obtain⟨n,ts,wv,o,rfl,isw,q⟩:=h
 obtain⟨g0,g,ws,rfl,hg0,_⟩:=zaz isw
 refine⟨_,(zaf (zaj (zc6 (zad O_is_whole hr rfl (zaa (pv 1) zab)) (zb1 (zls zha zec zae (pv 1) (zaq zav (pv 0) zae (λ _ _=>rfl))))))),?_⟩
 cases o with
 | none=>exact⟨_,rfl,.none,.non,rfl,rfl,trivial,λ H1 s1=>⟨_,rfl,iteF (q H1 s1)⟩⟩
 | some u =>
  refine⟨_,rfl,.int (u:Int),.int (u:Int),rfl,rfl,trivial,λ H1 s1=>⟨_,rfl,iteT ?_⟩⟩
  refine⟨_,rfl,_,_,rfl,rfl,_,rfl,?_⟩
  rw[decide_eq_true (uav u)]
  exact iteT ⟨_,rfl,g0,_,_,_,rfl,rfl,SqT.of (s1 _ _ hg0),rfl,_,_,rfl,rfl,q H1 s1⟩
theorem zuv {n:Int}{ts:List Tie}{ls:List (List Nat)}(ok:WebOk n ts){r c u:Nat}(hr:r<n.toNat)(h:Far.get (clA n ts ls r) c=some u):u=r\/clB n.toNat ts ls u r=true:=by
 by_cases z:u=r
 ·exact .inl z
 ·refine .inr ?_
  cases e:Far.get (clA n ts ls r) u with
  | none=>exact absurd e (zpl ok hr h z)
  | some v=>exact (zcj e).2.1
def spLed69 (K:uac):Sp:=λ vs H Q _=>∃ (n:Int)(ts:List Tie)(ls:List (List Nat))(wv:V)(kp t:Addr)(r p:Nat),vs=[wv,.ref kp,.ref t,.int (r:Int),.int (p:Int)]/\Is K H (webD n ts) wv/\WebOk n ts/\H kp=some (.tup (natV (clK n ts ls)))/\H t=some (.tup ((clA n ts ls r).map oa))/\r<n.toNat/\p<n.toNat/\clB n.toNat ts ls p r=true/\∀ t' ws H',Same H H'->H' t'=some (.tup (natV ws))->ws.length<=24->linked ts ws->wl ts ws=dq ts r p->Q (.ref t') H'
theorem zq4 (T:Bi mg)(D:DefOk K mg "led_to_root" s_led_to_root ["web","keep","tree","root","place"])(O_is_place:‹2› "is_place" ["web","thing"] (spPlaceO K))(O_tie_between:‹2› "tie_between" ["web","a","b"] (spTB K)):‹3› "led_to_root" ["web","keep","tree","root","place"] (spLed69 K):=by
 exists 2,sc_led_to_root
 obtain⟨n,ts,ls,wv,kp,t,r,p,rfl,isw,ok,hkp,ht,hr_,hp_,hb,q⟩:=h
 have n24:=ok.n24
 have few60:=ok.few
 have KB:=zbi ok (za5 ts)
 obtain⟨cs,G⟩:=zcr ok hr_
 have dst:∀ v,dvC ts r v=(Far.get cs v).map (·.1):=λ v=>by
  have h:=G.dst1 KB v
  rw[zbo] at h
  exact (zbl ok r v).unique h
 obtain⟨cp,ecp⟩:∃ cp,Far.get cs p=some cp:=by
  have h1:=zpx (ls:=ls) ok hp_ (bnL_mem.mpr ⟨hr_,hb⟩)
  rw[zbu ok,dst p] at h1
  cases e:Far.get cs p with
  | none=>rw[e] at h1;cases h1
  | some cp=>exact⟨cp,rfl⟩
 have edq:dq ts r p=cp.1:=by unfold dq;rw[dst p,ecp];rfl
 have lA:=zfk (n:=n) (ts:=ts) (ls:=ls) r
 refine⟨_,(zac (zap (i:=5) nd rfl (uaw rfl) (zcb (zaa (pv 4) zab))) (zac (zdl PassesOwn.never (zao zoc (zaq zay (pv 5) (zft zc5 zae) (λ _ _=>rfl)) (pv 3) (nomark _)) (zac (zap (i:=6) nd rfl (uaw rfl) (zaq zav (pv 2) (zaq zay (pv 5) (zft zc5 zae) (λ _ _=>rfl)) (λ _ _=>rfl))) (zac (zbb (PW.pt (zc1 (zbj (zbf (zad O_is_place hr rfl (zaa (pv 0) (zaa (pv 6) zab))))) (zc1 (zao ziy (pv 6) (pv 5) (by with_unfolding_all rfl)) (zcd (zao zeb (zad O_tie_between hr rfl (zaa (pv 0) (zaa (zaq zay (pv 5) (zft zc5 zae) (λ _ _=>rfl)) (zaa (pv 6) zab)))) (pv 1) (by with_unfolding_all rfl)))))) (zaf (zaj za7)) zar) (zaf (zbq (zfu ubo ub4 ub3 zbx (pv 5) (zaa (pv 6) zab))))))) (zaf (zaj (zau za2 rfl T.z_tuple (by symm) (zaa (pv 5) zab)))))),?_⟩
 refine⟨_,rfl,(by show 1<=1000;decide),λ lw J1 S1 f1 e1=>?_⟩
 refine⟨λ m σ J=>∃ (pre:List Nat)(c:Nat)(y6:Option V)(cc:Int × Int)(x:Int),σ=[some wv,some (.ref kp),some (.ref t),some (.int (r:Int)),some (.int (p:Int)),some (.ref lw),y6]/\But lw J1 J/\J lw=some (.lst (natV (pre++[c])))/\c<n.toNat/\(c=r\/clB n.toNat ts ls c r=true)/\Far.get cs c=some cc/\Far.Tr (arcs ts (uaf ts.length)) p (pre++[c]) c x/\x+cc.1=cp.1/\(pre++[c]).Nodup/\(∀ y∈pre,y<n.toNat/\∃ cy,Far.get cs y=some cy/\cc.1<cy.1)/\m=cc.1.toNat,⟨_,[],p,none,cp,0,rfl,But.refl,e1,hp_,.inr hb,ecp,Far.Tr.one,by left,by simp,(λ y h=>by cases h),rfl⟩,?_⟩
 rintro m σ J ⟨pre,c,y6,cc,x,rfl,bt,hw,hc,hin,ecc,tr,hx,ndp,hpre,rfl⟩
 have lastV:=zp4 pre c
 have sm:Same H J:=λ b o e=>bt _ _ (zak e f1) (S1 _ _ e)
 have lpre:(pre++[c]).length<=n.toNat:=Peel.zfa n.toNat _ ndp λ y hy=>by
  rcases ubp.mp hy with z | z
  ·exact (hpre y z).1
  ·rw[ua3.mp z];exact hc
 refine⟨_,rfl,_,rfl,lw,_,_,_,rfl,rfl,SqL.of hw,lastV,_,rfl,rfl,_,rfl,?_⟩
 by_cases cb:c=r
 ·refine iteNS (by rw[cb]) ?_
  obtain⟨w1,w2⟩:=zsr ok (za5 ts) tr
  have c0:cc.1=0:=by rw[cb,G.start] at ecc;cases ecc;rfl
  refine⟨_,rfl,lw,_,rfl,hw,λ t3 J3 S3 f3 e3=>q t3 (pre++[c]) J3 (sm.trans S3) e3 (by left) w2 (by rw[w1,edq];left)⟩
 ·have ne:decide (V.int (c:Int)=V.int (r:Int))=false:=decide_eq_false λ z=>cb (by injection z with z;left)
  rw[ne]
  have hbc:clB n.toNat ts ls c r=true:=hin.resolve_left cb
  have hat:atI ((clA n ts ls r).map oa) (c:Int)=some (oa (Far.get (clA n ts ls r) c)):=zat (uav _) (by rw[uao];exact zmq (by left))
  refine iteT ⟨_,λ _ _ h=>h,?_⟩
  refine⟨_,rfl,_,rfl,_,rfl,lw,_,_,_,rfl,rfl,SqL.of hw,lastV,t,_,_,_,rfl,rfl,SqT.of (sm _ _ ht),hat,?_⟩
  obtain⟨u,eu⟩:∃ u,Far.get (clA n ts ls r) c=some u:=by
   have:Far.get (clA n ts ls r) c=Far.get (trA n ts r) c:=by
    unfold clA
    rw[getC hc,if_pos hbc]
   rw[this]
   cases e:Far.get (trA n ts r) c with
   | none=>exact absurd e (G.has c cc ecc cb)
   | some u=>exact⟨u,rfl⟩
  rw[eu]
  obtain⟨_,_,etr⟩:=zcj eu
  obtain⟨l,k,cu,mm,e1',e2'⟩:=G.arc _ _ etr
  have ec:cc=(cu.1+l,cu.2+2^k):=ubj (ecc.symm.trans e2')
  have cu0:=G.nn _ _ e1'
  have inn:=zc0 ok (za5 ts) mm
  have arc:(u,c,l)∈arcs ts (uaf ts.length):=by
   rw[← zbo]
   exact Far.arcsF_mem.mpr ⟨k,mm⟩
  have l1:1<=l:=zbh ok (za5 ts) _ _ _ arc
  have c1:cc.1=cu.1+l:=by rw[ec]
  refine⟨_,rfl,_,rfl,n,ts,wv,some u,rfl,Is.same sm _ isw,λ J2 S2=>⟨_,rfl,?_⟩⟩
  show if (!decide ((u:Int)<n))=true then _ else _
  rw[decide_eq_true (show (u:Int)<n by left)]
  have hw2:=S2 _ _ hw
  have nu:u∉pre++[c]:=λ z=>by
   rcases ubp.mp z with z | z
   ·obtain⟨_,cx,ex,lt⟩:=hpre u z
    rw[e1'] at ex
    cases ex
    left
   ·rw[ua3.mp z,ecc] at e1'
    cases e1'
    left
  refine iteF ⟨_,rfl,_,rfl,lw,_,rfl,.inl (SqL.of hw2),rfl,zcw _,_,rfl,?_⟩
  show if inV (V.int (u:Int)) (natV (pre++[c]))=true then _ else _
  rw[zd4 (uav _),uao,decide_eq_false nu]
  have s2:=sm.trans S2
  refine iteF ⟨_,rfl,_,rfl,_,rfl,lw,_,_,_,rfl,rfl,SqL.of hw2,lastV,_,rfl,n,ts,wv,c,u,rfl,Is.same s2 _ isw,few60,λ J3 S3=>?_⟩
  have tb:=zkb ok (za5 ts) mm
  rw[zka] at tb
  rw[tb]
  refine⟨_,rfl,kp,_,rfl,.inr (SqT.of ((s2.trans S3) _ _ hkp)),rfl,zcw _,_,rfl,?_⟩
  show if (!inV (V.int (k:Int)) (natV (clK n ts ls)))=true then _ else _
  have hk:k∈clK n ts ls:=(zk5 ok).mpr ⟨r,hr_,clT_mem.mpr ⟨c,u,eu,tb⟩⟩
  rw[zd4 (uav _),uao,decide_eq_true hk]
  have hw3:=S3 _ _ hw2
  refine iteF ⟨_,rfl,.inl ⟨rfl,_,SqL.of hw3⟩,_,rfl,lw,_,_,rfl,rfl,hw3,by rw[zaw];left,λ J4 b4 e4=>?_⟩
  refine⟨cu.1.toNat,by left,pre++[c],u,_,cu,x+l,rfl,λ b o z e=>b4 _ _ z (S3 _ _ (S2 _ _ (bt _ _ z e))),?_,inn.1,zuv ok hr_ eu,e1',tr.snoc (zbk ok (za5 ts) _ _ _ arc),by left,?_,λ y hy=>?_,rfl⟩
  ·rw[e4,zdc (pre++[c]) [u]];rfl
  ·refine ues.mpr ⟨ndp,by simp,λ a ha b hb z=>?_⟩
   rw[ua3.mp hb] at z
   exact nu (z ▸ ha)
  ·rcases ubp.mp hy with z | z
   ·obtain⟨h1,cx,ex,lt⟩:=hpre y z
    exact⟨h1,cx,ex,by left⟩
   ·rw[ua3.mp z]
    exact⟨hc,cc,ecc,by left⟩
def TrD (H:Hp)(dt:Addr)(n:Int)(ts:List Tie)(ls:List (List Nat)):Prop:=∃ kvs,H dt=some (.dK kvs)/\∀ w:Nat,w<n.toNat->∃ tr,valV kvs (Sum.inl (w:Int))=some (.ref tr)/\H tr=some (.tup ((clA n ts ls w).map oa))
theorem TrD.same {H H':Hp}{dt:Addr}{n:Int}{ts:List Tie}{ls:List (List Nat)}(h:TrD H dt n ts ls)(S:Same H H'):TrD H' dt n ts ls:=let ⟨kvs,e,r⟩:=h;⟨kvs,S _ _ e,λ w hw=>let ⟨tr,a,b⟩:=r w hw;⟨tr,a,S _ _ b⟩⟩
def spSide69 (K:uac):Sp:=λ vs H Q _=>∃ (n:Int)(ts:List Tie)(ls:List (List Nat))(wv:V)(kp dt:Addr)(t:Int)(k sd:Nat),vs=[wv,.ref kp,.int t,.ref dt,.int (k:Int),.int (sd:Int)]/\Is K H (webD n ts) wv/\WebOk n ts/\H kp=some (.tup (natV (clK n ts ls)))/\TrD H dt n ts ls/\k<ts.length/\1<=t/\t<=99/\Bth n.toNat ts ls (en ts k).1 (en ts k).2 sd/\∀ H',Same H H'->Q (.bl (decide (dq ts sd (en ts k).1+dq ts sd (en ts k).2<=t*(tieAt ts k).2.2))) H'
theorem zhg (T:Bi mg)(D:DefOk K mg "side_right" s_side_right ["web","keep","t","trees","tie","side"])(O_is_whole:‹3› "is_whole" ["thing"] (spD1 K (λ _=>True) wholeB))(O_led_to_root:‹3› "led_to_root" ["web","keep","tree","root","place"] (spLed69 K))(O_way_length:‹3› "way_length" ["web","way"] (spWLen K)):‹4› "side_right" ["web","keep","t","trees","tie","side"] (spSide69 K):=by
 exists 3,sc_side_right
 obtain⟨n,ts,ls,wv,kp,dt,t,k,sd,rfl,isw,ok,hkp,td,hk,t1',t99,bth,q⟩:=h
 have hu:(A.deeper (envOfC "side_right" (defScope s_side_right) s.heap.objs.size f cdv)).units+1<cLine:=by have:=hr.units;left
 have few60:=ok.few
 obtain⟨g0,g,ws,rfl,hg0,hg,hall,hlw⟩:=zaz isw
 obtain⟨ta,hta,htie⟩:=zbz hall hk
 obtain⟨e1,e2,e3,e4⟩:=zpb ok hk
 obtain⟨sdn,cla⟩:=bnL_mem.mp bth.1
 obtain⟨_,clb⟩:=bnL_mem.mp bth.2
 refine⟨_,(zac (zbb (PW.pt (zc1 (zbj (zbf (zad O_is_whole hr rfl (zaa (pv 5) zab)))) (zcd (znz (zn6 hu (pv 5) (pv 3)) (by with_unfolding_all rfl))))) (zaf (zaj zb2)) zar) (zac (zbn (zaq zav (zaq zav (pv 0) zae (λ _ _=>rfl)) (pv 4) (λ _ _=>rfl)) (zbp (n:=3) rfl (zah (zag (i:=6) nd rfl (uaw rfl)) (zah (zag (i:=7) nd rfl (uaw rfl)) (zah (zag (i:=8) nd rfl (uaw rfl)) za1))))) (zac (zap (i:=9) nd rfl (uaw rfl) (zad O_led_to_root hr rfl (zaa (pv 0) (zaa (pv 1) (zaa (zg7 hu (pv 3) (pv 5) (λ _ _=>rfl)) (zaa (pv 5) (zaa (pv 6) zab))))))) (zac (zap (i:=10) nd rfl (uaw rfl) (zad O_led_to_root hr rfl (zaa (pv 0) (zaa (pv 1) (zaa (zg7 hu (pv 3) (pv 5) (λ _ _=>rfl)) (zaa (pv 5) (zaa (pv 7) zab))))))) (zac (zbb (PW.pt (zc1 (zao zb6 (pv 9) za7 (nomark _)) (zcd (zao zb6 (pv 10) za7 (nomark _))))) (zaf (zaj zb2)) zar) (zaf (zaj (za0 zha (zax zbt (zad O_way_length hr rfl (zaa (pv 0) (zaa (pv 9) zab))) (zad O_way_length hr rfl (zaa (pv 0) (zaa (pv 10) zab)))) (zax zce (pv 2) (pv 8)) (nomark _))))))))),?_⟩
 refine⟨_,rfl,.int (sd:Int),.int (sd:Int),rfl,rfl,trivial,λ J1 S1=>⟨_,rfl,iteF ?_⟩⟩
 have td1:=td.same S1
 obtain⟨kvs,ed,rd⟩:=td1
 obtain⟨tr,ev,htr⟩:=rd sd sdn
 have dg:DGet J1 dt (V.int (sd:Int)) (some (.ref tr)):=by
  have:=DGet.k (k:=Sum.inl (sd:Int)) ed
  rw[ev] at this;exact this
 refine⟨_,rfl,_,rfl,dt,_,rfl,dg,_,rfl,iteF ?_⟩
 refine⟨_,rfl,g0,_,_,_,rfl,rfl,SqT.of (S1 _ _ hg0),rfl,_,rfl,g,_,_,_,rfl,rfl,SqT.of (S1 _ _ hg),zat (uav _) hta,?_⟩
 refine⟨ta,_,rfl,SqT.of (S1 _ _ htie),rfl,_,_,rfl,_,_,rfl,_,_,rfl,rfl,?_⟩
 rw[← e3,← e4]
 obtain⟨a,ea⟩:∃ a,a=(en ts k).1:=⟨_,rfl⟩
 obtain⟨b,eb⟩:∃ b,b=(en ts k).2:=⟨_,rfl⟩
 rw[← ea,← eb] at q ⊢
 rw[← ea] at cla
 rw[← eb] at clb
 refine⟨_,rfl,_,rfl,_,rfl,_,rfl,dt,_,rfl,dg,_,rfl,_,rfl,n,ts,ls,_,kp,tr,sd,a,rfl,Is.same S1 _ isw,ok,S1 _ _ hkp,htr,sdn,by left,cla,λ t1 w1 J2 S2 h1 l1 k1 x1=>?_⟩
 have dg2:DGet J2 dt (V.int (sd:Int)) (some (.ref tr)):=by
  have:=DGet.k (k:=Sum.inl (sd:Int)) (S2 _ _ ed)
  rw[ev] at this;exact this
 have S12:=S1.trans S2
 refine⟨_,rfl,_,rfl,_,rfl,_,rfl,dt,_,rfl,dg2,_,rfl,_,rfl,n,ts,ls,_,kp,tr,sd,b,rfl,Is.same S12 _ isw,ok,S12 _ _ hkp,S2 _ _ htr,sdn,by left,clb,λ t2 w2 J3 S3 h2 l2 k2 x2=>?_⟩
 have S13:=S12.trans S3
 refine⟨_,rfl,rfl,_,rfl,iteF ⟨_,rfl,rfl,_,rfl,iteF ?_⟩⟩
 refine⟨_,rfl,_,rfl,n,ts,_,t1,w1,rfl,Is.same S13 _ isw,few60,S3 _ _ h1,l1,k1,λ J4 S4=>?_⟩
 refine⟨_,rfl,_,rfl,n,ts,_,t2,w2,rfl,Is.same (S13.trans S4) _ isw,few60,S4 _ _ h2,l2,k2,λ J5 S5=>?_⟩
 refine⟨_,_,rfl,rfl,_,rfl,_,rfl,_,_,rfl,rfl,.inl ⟨by left,by left⟩,_,_,rfl,rfl,?_⟩
 rw[x1,x2]
 exact q J5 (S13.trans (S4.trans S5))
def spRooted (K:uac):Sp:=λ vs H Q _=>∃ (n:Int)(ts:List Tie)(ls:List (List Nat))(wv:V)(c t:Addr)(w':Nat),vs=[wv,.ref c]/\Is K H (webD n ts) wv/\WebOk n ts/\w'<n.toNat/\H c=some (.tup [.int (w':Int),.ref t])/\H t=some (.tup ((clA n ts ls w').map oa))/\∀ H',Same H H'->Q (.bl true) H'
theorem zi0 (T:Bi mg)(D:DefOk K mg "is_rooted" s_is_rooted ["web","pair"])(O_is_tuple_of:‹2› "is_tuple_of" ["thing","many"] spTupN)(O_is_place:‹2› "is_place" ["web","thing"] (spPlaceO K)):‹3› "is_rooted" ["web","pair"] (spRooted K):=by
 exists 2,sc_is_rooted
 obtain⟨n,ts,ls,wv,c,t,w',rfl,isw,ok,hw,hc,ht,q⟩:=h
 have n24:=ok.n24
 have lA:=zfk (n:=n) (ts:=ts) (ls:=ls) w'
 obtain⟨g0,g,ws,rfl,hg0,hg,hall,hlw⟩:=zaz isw
 refine⟨_,(zac (zbb (PW.pt (zc1 (zbj (zbf (zad O_is_tuple_of hr rfl (zaa (pv 1) (zaa zae zab))))) (zc1 (zbj (zbf (zad O_is_place hr rfl (zaa (pv 0) (zaa (zaq zav (pv 1) zae (λ _ _=>rfl)) zab))))) (zcd (zbj (zbf (zad O_is_tuple_of hr rfl (zaa (zaq zav (pv 1) zae (λ _ _=>rfl)) (zaa (zaq zav (pv 0) zae (λ _ _=>rfl)) zab))))))))) (zaf (zaj zb2)) zar) (zac (zbn (pv 1) (zbp (n:=2) rfl (zah (zag (i:=2) nd rfl (uaw rfl)) (zah (zag (i:=3) nd rfl (uaw rfl)) za1)))) (zaf (zaj (zc6 (za0 zb6 (zaq zav (pv 3) (pv 2) (λ _ _=>rfl)) za7 (nomark _)) (zb1 (zal (zbv rfl) rfl T.z_all (by symm) (zaa (za4 (N:=["web","pair","root","tree"]) (sc0:=defScope s_is_rooted) (own:=["ahead"]) (fr:=["web"]) (js:=[0]) rfl (zb0 (pv 3)) (λ _ _ _ _=>(zag (i:=0) (by show ua7 [("ahead":Str),("web":Str)];decide +kernel) rfl (uaw rfl))) (λ _ _ _ _=>zbe) (λ _ _ _ _=>(zn5 (za0 zb6 (pv 0) za7 (nomark _)) (zb1 (zad O_is_place hr rfl (zaa (pv 1) (zaa (pv 0) zab))))))) zab)))))))),?_⟩
 refine⟨_,rfl,c,_,2,rfl,hc,⟨_,rfl,iteF ?_⟩⟩
 refine⟨_,rfl,_,rfl,c,_,_,_,rfl,rfl,SqT.of hc,rfl,n,ts,_,some w',rfl,isw,λ J1 S1=>⟨_,rfl,?_⟩⟩
 show if (!decide ((w':Int)<n))=true then _ else _
 rw[decide_eq_true (show (w':Int)<n by left)]
 refine iteF ?_
 refine⟨_,rfl,c,_,_,_,rfl,rfl,SqT.of (S1 _ _ hc),rfl,_,rfl,g0,_,_,_,rfl,rfl,SqT.of (S1 _ _ hg0),rfl,t,_,n.toNat,by rw[ua6 (by have:=ok.n1;left)];rfl,S1 _ _ ht,?_⟩
 rw[uae,lA,decide_eq_true rfl]
 refine⟨_,rfl,iteF ?_⟩
 refine⟨_,rfl,c,_,rfl,SqT.of (S1 _ _ hc),rfl,_,_,rfl,_,_,rfl,rfl,?_⟩
 have root:Far.get (clA n ts ls w') w'=none:=by
  cases e:Far.get (clA n ts ls w') w' with
  | none=>rfl
  | some u =>
   obtain⟨cs,G⟩:=zcr ok hw
   have:=(zcj e).2.2
   rw[G.root] at this;cases this
 have hat:atI ((clA n ts ls w').map oa) (w':Int)=some (oa (Far.get (clA n ts ls w') w')):=zat (uav _) (by rw[uao];exact zmq (by left))
 rw[root] at hat
 refine⟨_,rfl,_,rfl,t,_,_,_,rfl,rfl,SqT.of (S1 _ _ ht),hat,rfl,_,rfl,iteT ?_⟩
 refine⟨_,rfl,t,rfl,⟨_,SqT.of (S1 _ _ ht)⟩,?_⟩
 refine zcx (S1 _ _ ht) (λ σ'=>∃ o,σ'=[o,some (.ref g0)]) (λ i v _=>v=.bl true) (by rw[uae];left) (by exact⟨none,rfl⟩) (λ _ _ _ _ _ h=>h) (λ i x σ' H' hx s2 sg C hC=>?_) (λ L ys J2 hL S2 hH hly hys=>?_)
 ·obtain⟨o,rfl⟩:=sg
  have hi:i<(clA n ts ls w').length:=by have:=(uak.mp hx).1;rw[uae] at this;exact this
  rw[zmq hi] at hx
  cases hx
  cases e:Far.get (clA n ts ls w') i with
  | none=>exact⟨_,rfl,rfl,_,rfl,iteT (hC _ _ _ ⟨_,rfl⟩ (Same.refl _) rfl)⟩
  | some u =>
   obtain⟨_,_,_,un,_⟩:=zpn ok hw e
   refine⟨_,rfl,rfl,_,rfl,iteF ⟨_,rfl,_,rfl,n,ts,_,some u,rfl,Is.same (S1.trans s2) _ isw,λ H5 S5=>hC _ _ _ ⟨_,rfl⟩ S5 ?_⟩⟩
   show V.bl (decide ((u:Int)<n))=V.bl true
   rw[decide_eq_true (show (u:Int)<n by left)]
 ·refine⟨L,_,rfl,SqL.of (by rw[hH,zbw (f:=λ _=>true) hly hys]),?_⟩
  have e:((uaf ((clA n ts ls w').map oa).length).map λ _=>true).all id=true:=by simp
  rw[e]
  exact q J2 (S1.trans S2)
def spRisL:Sp:=λ vs H Q _=>∃ p ns,vs=[.ref p]/\H p=some (.lst (natV ns))/\ns.Pairwise (·<·)/\ns.length<=1000/\∀ H',Same H H'->Q (.bl true) H'
theorem zhk (T:Bi mg)(D:DefOk K mg "is_rising" s_is_rising ["parts"]):‹1› "is_rising" ["parts"] spRisL:=by
 exists 0,sc_is_rising
 obtain⟨p,ns,rfl,hp,up,hn,q⟩:=h
 refine⟨_,(zaf (zaj (zal (zbv rfl) rfl T.z_all (by symm) (zaa (za4 (N:=["parts"]) (sc0:=defScope s_is_rising) (own:=["low","high"]) (fr:=[]) (js:=[]) rfl (ziw false false rfl T.z_zip (zaa (pv 0) (zaa (zct znq (pv 0) (zdw zae) zdx) zab))) (λ _ _ _ _=>(zca (n:=2) rfl (zah (zag (i:=0) (by show ua7 [("low":Str),("high":Str)];decide +kernel) rfl (uaw rfl)) (zah (zag (i:=1) (by show ua7 [("low":Str),("high":Str)];decide +kernel) rfl (uaw rfl)) za1)))) (λ _ _ _ _=>zbe) (λ _ _ _ _=>(za0 zec (pv 0) (pv 1) (nomark _)))) zab)))),?_⟩
 refine⟨_,rfl,_,rfl,_,rfl,p,_,rfl,SqL.of hp,λ p2 hp2=>?_⟩
 have S1:Same H (upd H p2 (.lst (cutV (natV ns) (some 1) none))):=zam hp2
 refine⟨p,p2,rfl,⟨_,SqL.of (S1 _ _ hp)⟩,⟨_,SqL.of zai⟩,?_⟩
 have e2':upd H p2 (.lst (cutV (natV ns) (some 1) none)) p2=some (.lst (natV (ns.drop 1))):=by rw[zai,zrv]
 refine zdr (xs:=natV ns) (zs:=natV (ns.drop 1)) (S1 _ _ hp) e2' (λ σ'=>σ'.length=2) (λ i v _=>v=.bl true) (by rw[zaw];left) (by rfl) (λ _ _ _ _ _ h=>h) (λ i x z U σ' H' hx hz s hU sg C hC=>?_) (λ L zs H' hL s hH hly hys=>?_)
 ·match σ',sg with
  | [o1,o2],_ =>
   obtain⟨a,ha,rfl⟩:=zb7 hx
   obtain⟨b,hb,rfl⟩:=zb7 hz
   rw[uen,ufb] at hb
   obtain⟨i1,g1⟩:=uak.mp ha
   obtain⟨i2,g2⟩:=uak.mp hb
   have lt:a<b:=by
    have:=ucg.mp up i (i+1) i1 i2 (ub2 _)
    rw[g1,g2] at this;exact this
   refine⟨U,_,rfl,SqT.of zai,rfl,_,_,rfl,_,_,rfl,rfl,?_⟩
   refine⟨_,rfl,_,rfl,_,_,rfl,rfl,?_⟩
   exact hC _ _ _ rfl (zam hU) (congrArg V.bl (decide_eq_true (show (a:Int)<(b:Int) by left)))
 ·refine⟨L,_,rfl,SqL.of (by rw[hH,zbw (f:=λ _=>true) hly hys]),?_⟩
  have e:((uaf (min (natV ns).length (natV (ns.drop 1)).length)).map λ _=>true).all id=true:=by simp
  rw[e]
  exact q H' (S1.trans s)
theorem zng {g:Nat->V}{w:Nat}:∀ l:List Nat,w∈l->valV ((l.map λ (w:Nat)=>((w:Int),g w)).map λ p=>((Sum.inl p.1,p.2):Key × V)) (Sum.inl (w:Int))=some (g w)
 | [],h=>by cases h
 | x::r,h=>by
  by_cases z:x=w
  ·subst z
   rw[ubg,ubg,zdf rfl]
  ·rw[ubg,ubg,zdg (λ e=>z (by injection e with e;left))]
   exact zng r ((uam.mp h).resolve_left (Ne.symm z))
theorem zfs (g:Nat->Bool)(O:List Nat):((uaf O.length).map λ i=>g (O.getD i 0)).all id=O.all g:=by
 have e:(uaf O.length).map (λ i=>g (O.getD i 0))=O.map g:=by
  conv=>rhs;rw[← L3.zba O 0]
  rw[uby];rfl
 rw[e,uec];rfl
noncomputable def soB (n:Int)(ts:List Tie)(ls:List (List Nat))(t:Int):Bool:=(outs ts.length (clK n ts ls)).all λ k=>decide (dq ts (sdF n.toNat ts ls (en ts k).1 (en ts k).2) (en ts k).1+dq ts (sdF n.toNat ts ls (en ts k).1 (en ts k).2) (en ts k).2<=t*(tieAt ts k).2.2)
def spTR69 (K:uac):Sp:=λ vs H Q _=>∃ (n:Int)(ts:List Tie)(ls:List (List Nat))(wv pv:V)(kp:Addr)(t:Int),vs=[wv,.ref kp,.int t,pv]/\Is K H (webD n ts) wv/\WebOk n ts/\H kp=some (.tup (natV (clK n ts ls)))/\1<=t/\t<=99/\SdAll n ts ls/\Is K H (lpD n ts ls) pv/\∀ H',Same H H'->Q (.bl (soB n ts ls t)) H'
theorem zfv (T:Bi mg)(D:DefOk K mg "trees_right" s_trees_right ["web","keep","t","paper"])(O_need_times:‹4› "need_times" ["t"] (spNeed K))(O_is_tuple_of:‹4› "is_tuple_of" ["thing","many"] spTupN)(O_is_rooted:‹4› "is_rooted" ["web","pair"] (spRooted K))(O_not_kept:‹4› "not_kept" ["web","keep"] (spOuts K))(O_is_rising:‹4› "is_rising" ["parts"] spRisL)(O_side_right:‹4› "side_right" ["web","keep","t","trees","tie","side"] (spSide69 K)):‹5› "trees_right" ["web","keep","t","paper"] (spTR69 K):=by
 exists 4,sc_trees_right
 obtain⟨n,ts,ls,wv,pv,kp,t,rfl,isw,ok,hkp,t1,t99,sda,isp,q⟩:=h
 have n24:=ok.n24
 have few60:=ok.few
 obtain⟨pa,pvs,rfl,hpa,tv,z1,rfl,ist,sv,z2,rfl,iss,w2⟩:=isp
 refine⟨_,(zac (zbq (zad O_need_times hr rfl (zaa (pv 2) zab))) (zac (zbb (zbj (zbf (zad O_is_tuple_of hr rfl (zaa (pv 3) (zaa zae zab))))) (zaf (zaj zb2)) zar) (zac (zbn (pv 3) (zbp (n:=2) rfl (zah (zag (i:=4) nd rfl (ufj rfl)) (zah (zag (i:=5) nd rfl (uaw rfl)) za1)))) (zac (zbb (PW.pt (zc1 (zbj (zbf (zal (zcz (n:="tuple")) rfl T.z_isinstance (by symm) (zaa (pv 4) (zaa (zdy (v:=.ty "tuple") rfl T.z_tuple (by symm) rfl) zab))))) (zcd (zbj (zbf (zal (zbv rfl) rfl T.z_all (by symm) (zaa (za4 (N:=["web","keep","t","paper","trees","sides","ties"]) (sc0:=defScope s_trees_right) (own:=["pair"]) (fr:=["web"]) (js:=[0]) rfl (zb0 (pv 4)) (λ _ _ _ _=>(zag (i:=0) (by show ua7 [("pair":Str),("web":Str)];decide +kernel) rfl (uaw rfl))) (λ _ _ _ _=>zbe) (λ _ _ _ _=>(zad O_is_rooted hr rfl (zaa (pv 1) (zaa (pv 0) zab))))) zab))))))) (zaf (zaj zb2)) zar) (zac (zap (i:=6) nd rfl (uaw rfl) (zad O_not_kept hr rfl (zaa (pv 0) (zaa (pv 1) zab)))) (zac (zbb (PW.pt (zc1 (zbj (zbf (zad O_is_rising hr rfl (zaa (za4 (N:=["web","keep","t","paper","trees","sides","ties"]) (sc0:=defScope s_trees_right) (own:=["root","tree"]) (fr:=[]) (js:=[]) rfl (zb0 (pv 4)) (λ _ _ _ _=>(zca (n:=2) rfl (zah (zag (i:=0) (by show ua7 [("root":Str),("tree":Str)];decide +kernel) rfl (uaw rfl)) (zah (zag (i:=1) (by show ua7 [("root":Str),("tree":Str)];decide +kernel) rfl (uaw rfl)) za1)))) (λ _ _ _ _=>zbe) (λ _ _ _ _=>(pv 0))) zab)))) (zcd (zbj (zbf (zad O_is_tuple_of hr rfl (zaa (pv 5) (zaa (zal zas rfl T.z_len (by symm) (zaa (pv 6) zab)) zab)))))))) (zaf (zaj zb2)) zar) (zaf (zaj (zal (zbv rfl) rfl T.z_all (by symm) (zaa (za4 (N:=["web","keep","t","paper","trees","sides","ties"]) (sc0:=defScope s_trees_right) (own:=["tie","side"]) (fr:=["web","keep","t","trees"]) (js:=[0,1,2,4]) rfl (ziw false true rfl T.z_zip (zaa (pv 6) (zaa (pv 5) zab))) (λ _ _ _ _=>(zca (n:=2) rfl (zah (zag (i:=0) (by show ua7 [("tie":Str),("side":Str),("web":Str),("keep":Str),("t":Str),("trees":Str)];decide +kernel) rfl (uaw rfl)) (zah (zag (i:=1) (by show ua7 [("tie":Str),("side":Str),("web":Str),("keep":Str),("t":Str),("trees":Str)];decide +kernel) rfl (uaw rfl)) za1)))) (λ _ _ _ _=>zbe) (λ _ _ _ _=>(zad O_side_right hr rfl (zaa (pv 2) (zaa (pv 3) (zaa (pv 4) (zaa (zau (zm2 rfl) rfl T.z_dict (by symm) (zaa (pv 5) zab)) (zaa (pv 0) (zaa (pv 1) zab))))))))) zab)))))))))),?_⟩
 cases w2
 obtain⟨st,sys,rfl,hst,isys⟩:=iss
 rw[IsAll.of_ints (ns:=keepI (sdL n ts ls)) isys,← zbg] at hst
 obtain⟨tp,tvs,rfl,htp,ltv,tit⟩:=zer ist
 refine⟨_,rfl,t,rfl,t1,t99,λ J1 S1=>?_⟩
 refine⟨_,rfl,pa,_,2,rfl,S1 _ _ hpa,⟨_,rfl,iteF ?_⟩⟩
 refine⟨_,rfl,pa,_,rfl,SqT.of (S1 _ _ hpa),rfl,_,_,rfl,_,_,rfl,rfl,?_⟩
 refine⟨_,rfl,_,_,_,rfl,TyOf.tup (S1 _ _ htp),rfl,_,rfl,iteF ?_⟩
 refine⟨_,rfl,tp,rfl,⟨_,SqT.of (S1 _ _ htp)⟩,?_⟩
 have bt:∀ m:Nat,((uaf m).map λ _=>true).all id=true:=λ m=>by simp
 refine zcx (S1 _ _ htp) (λ σ'=>∃ o,σ'=[o,some wv]) (λ i v _=>v=.bl true) (by left) (by exact⟨none,rfl⟩) (λ _ _ _ _ _ h=>h) (λ i x σ' H' hx s2 sg C hC=>?_) (λ L ys J2 hL S2 hH hly hys=>?_)
 ·obtain⟨o,rfl⟩:=sg
  obtain⟨c,tr,rfl,hi,hc,htr⟩:=tit i x hx
  have sA:=S1.trans s2
  exact⟨_,rfl,_,rfl,n,ts,ls,wv,c,tr,i,rfl,Is.same sA _ isw,ok,hi,sA _ _ hc,sA _ _ htr,λ H5 S5=>hC _ _ _ ⟨_,rfl⟩ S5 rfl⟩
 refine⟨L,_,rfl,SqL.of (by rw[hH,zbw (f:=λ _=>true) hly hys]),?_⟩
 rw[bt]
 refine⟨_,rfl,iteF ?_⟩
 have S12:=S1.trans S2
 refine⟨_,rfl,_,rfl,n,ts,clK n ts ls,wv,.ref kp,rfl,⟨Is.same S12 _ isw,ok,zb3 (S12 _ _ hkp),zch n ts ls⟩,λ lo J3 S3 f3 e3=>?_⟩
 have S13:=S12.trans S3
 obtain⟨O,eO⟩:∃ O,O=outs ts.length (clK n ts ls):=⟨_,rfl⟩
 rw[← eO] at e3
 have lO:O.length<=60:=by
  rw[eO];unfold outs
  have:=udr (λ k=>decide (k∉clK n ts ls)) (uaf ts.length)
  rw[uay] at this;left
 have lS:(sdL n ts ls).length=O.length:=by unfold sdL;rw[uae,← eO]
 refine⟨_,rfl,tp,rfl,⟨_,SqT.of (S13 _ _ htp)⟩,?_⟩
 refine zcx (S13 _ _ htp) (λ σ'=>∃ o1 o2,σ'=[o1,o2]) (λ i v _=>v=.int (i:Int)) (by left) (by exact⟨none,none,rfl⟩) (λ _ _ _ _ _ h=>h) (λ i x σ' H' hx s2 sg C hC=>?_) (λ L2 ys2 J4 hL2 S4 hH2 hly2 hys2=>?_)
 ·obtain⟨o1,o2,rfl⟩:=sg
  obtain⟨c,tr,rfl,hi,hc,htr⟩:=tit i x hx
  refine⟨c,_,rfl,SqT.of ((S13.trans s2) _ _ hc),rfl,_,_,rfl,_,_,rfl,rfl,?_⟩
  exact⟨_,rfl,hC _ _ _ ⟨_,_,rfl⟩ (Same.refl _) rfl⟩
 have ey2:ys2=natV (uaf n.toNat):=by
  refine ucc λ i=>?_
  by_cases hi:i<n.toNat
  ·rw[uad (by left),hys2 i _ (uad (by left))]
   unfold natV
   rw[uaj,ub9 hi];rfl
  ·rw[uat (by left),uat (by rw[zaw,uay];left)]
 rw[ey2] at hH2
 refine⟨L2,_,rfl,hH2,ubw,by rw[uay];left,λ J5 S5=>⟨_,rfl,iteF ?_⟩⟩
 have S45:=S4.trans S5
 have S15:=S13.trans S45
 refine⟨_,rfl,_,rfl,lo,_,rfl,.inl (SqL.of (S45 _ _ e3)),st,_,O.length,by rw[zaw];rfl,S15 _ _ hst,?_⟩
 rw[zaw,lS,decide_eq_true rfl]
 refine⟨_,rfl,iteF ?_⟩
 refine⟨_,rfl,_,rfl,lo,st,rfl,⟨_,SqL.of (S45 _ _ e3)⟩,⟨_,SqT.of (S15 _ _ hst)⟩,?_⟩
 obtain⟨F,hF⟩:∃ F:Nat->Addr,∀ w,w<n.toNat->∃ c,tvs[w]?=some (.ref c)/\H c=some (.tup [.int (w:Int),.ref (F w)])/\H (F w)=some (.tup ((clA n ts ls w).map oa)):=by
  have h:∀ w:Nat,∃ t,w<n.toNat->∃ c,tvs[w]?=some (.ref c)/\H c=some (.tup [.int (w:Int),.ref t])/\H t=some (.tup ((clA n ts ls w).map oa)):=λ w=>by
   by_cases hw:w<n.toNat
   ·have ex:tvs[w]?=some tvs[w]:=uad (by left)
    obtain⟨c,tr,e1,_,e2,e3⟩:=tit w _ ex
    rw[e1] at ex
    exact⟨tr,λ _=>⟨c,ex,e2,e3⟩⟩
   ·exact⟨0,λ h=>absurd h hw⟩
  exact⟨λ w=>Classical.choose (h w),λ w hw=>Classical.choose_spec (h w) hw⟩
 refine zdr (t1:=false) (t2:=true) (xs:=natV O) (zs:=natV (sdL n ts ls)) (S45 _ _ e3) (S15 _ _ hst) (λ σ'=>∃ o1 o2,σ'=[o1,o2,some wv,some (.ref kp),some (.int t),some (.ref tp)]) (λ i v _=>v=.bl (decide (dq ts (sdF n.toNat ts ls (en ts (O.getD i 0)).1 (en ts (O.getD i 0)).2) (en ts (O.getD i 0)).1+dq ts (sdF n.toNat ts ls (en ts (O.getD i 0)).1 (en ts (O.getD i 0)).2) (en ts (O.getD i 0)).2<=t*(tieAt ts (O.getD i 0)).2.2))) (by rw[zaw];left) (by exact⟨none,none,rfl⟩) (λ _ _ _ _ _ h=>h) (λ i x z U σ' H' hx hz s2 hU sg C hC=>?_) (λ L3' zs J6 hL3 S6 hH3 hlz hzs=>?_)
 ·obtain⟨o1,o2,rfl⟩:=sg
  obtain⟨k,hk,rfl⟩:=zb7 hx
  obtain⟨sd,hsd,rfl⟩:=zb7 hz
  have ek:O.getD i 0=k:=by rw[uag,hk];rfl
  have hkm:k∈outs ts.length (clK n ts ls):=by rw[← eO];exact ua2 hk
  have hkl:k<ts.length:=zdz hkm
  have esd:sd=sdF n.toNat ts ls (en ts k).1 (en ts k).2:=by
   unfold sdL at hsd
   rw[← eO,uaj,hk] at hsd
   exact (ubj hsd).symm
  rw[ek] at hC
  have SU:=zam (H:=H') (o:=.tup [V.int (k:Int),.int (sd:Int)]) hU
  have sA:=S15.trans (s2.trans SU)
  refine⟨U,_,rfl,SqT.of zai,rfl,_,_,rfl,_,_,rfl,rfl,?_⟩
  refine⟨_,rfl,_,rfl,_,rfl,_,rfl,tp,tvs,(uaf n.toNat).map λ (w:Nat)=>((w:Int),V.ref (F w)),rfl,sA _ _ htp,by rw[uae,uay];exact ltv,λ j y hy=>?_,?_,λ dt J7 S7 f7 e7=>?_⟩
  ·have hj:j<n.toNat:=by have:=(uak.mp hy).1;left
   obtain⟨c,g1,g2,g3⟩:=hF j hj
   rw[hy] at g1
   cases g1
   exact⟨c,(j:Int),.ref (F j),by rw[uaj,ub9 hj];rfl,rfl,sA _ _ g2⟩
  ·rw[uby]
   exact udx _ (λ a b h z=>h (by have:(a:Int)=(b:Int):=z;left)) uf2
  ·have s7:=sA.trans S7
   refine⟨_,rfl,_,rfl,n,ts,ls,wv,kp,dt,t,k,sd,rfl,Is.same s7 _ isw,ok,s7 _ _ hkp,⟨_,e7,λ w' hw'=>?_⟩,hkl,t1,t99,by rw[esd];exact (sda k hkm).1,λ H5 S5'=>hC _ _ _ ⟨_,_,rfl⟩ (SU.trans (S7.trans S5')) (by rw[esd])⟩
   obtain⟨c,_,_,g3⟩:=hF w' hw'
   exact⟨F w',zng (g:=λ w=>V.ref (F w)) _ (uaq.mpr hw'),s7 _ _ g3⟩
 ·rw[zaw,zaw,lS,Nat.min_self] at hlz
  refine⟨L3',_,rfl,SqL.of (by rw[hH3,zbw hlz hzs]),?_⟩
  have qq:=q J6 (S15.trans S6)
  unfold soB at qq
  rw[← eO,← zfs (λ k=>decide (dq ts (sdF n.toNat ts ls (en ts k).1 (en ts k).2) (en ts k).1+dq ts (sdF n.toNat ts ls (en ts k).1 (en ts k).2) (en ts k).2<=t*(tieAt ts k).2.2)) O] at qq
  exact qq
theorem zpc {n:Int}{ts:List Tie}(ok:WebOk n ts)(u v:Nat):dq ts u v=dq ts v u:=by unfold dq;rw[zbu ok]
theorem zsz {n:Int}{ts:List Tie}{ls:List (List Nat)}(ok:WebOk n ts)(lo:LevOk n.toNat ls)(sda:SdAll n ts ls):soB n ts ls (2*(ls.length:Int)-1)=true:=by
 unfold soB
 rw[uci]
 intro k hk
 have hkl:=zdz hk
 obtain⟨e1,e2,e3,e4⟩:=zpb ok hkl
 obtain⟨d,ed,d0,dl⟩:=zel ok hkl
 have ed':dvC ts (en ts k).1 (en ts k).2=some d:=ed
 obtain⟨w',hw',le⟩:=zkg ok lo (show (en ts k).1<n.toNat by left) (show (en ts k).2<n.toNat by left) d0 ed'
 have h1:=zu5 (sda k hk) hw'
 have l1:=lo.one
 have h2:(2*(ls.length:Int)-1)*d<=(2*(ls.length:Int)-1)*(tieAt ts k).2.2:=ucv dl (by left)
 refine decide_eq_true ?_
 rw[zpc ok _ (en ts k).1,zpc ok _ (en ts k).2]
 left
def ShD (d:PyData):Prop:=d.showable=true/\d.hasDict=false/\d.leavesShort 10=true
def Fit (m b:Nat)(d:PyData):Prop:=ShD d/\d.bulk<=b/\d.canLay0=true/\d.depth<=m
theorem znm {ds:List PyData}(h:∀ d∈ds,tupD d=true):tupAll ds=true:=by
 induction ds with
 | nil=>rfl
 | cons d r ih =>
  show (tupD d&&tupAll r)=true
  rw[h d ual,ih λ e he=>h e (uan _ he)];rfl
theorem zjb {n:Int}{ts:List Tie}{ls:List (List Nat)}(ok:WebOk n ts){w:Nat}(hw:w<n.toNat){cs:List (Option (Int × Int))}(G:Far.Best (arcsB ts (uaf ts.length)) n.toNat w cs (trA n ts w)):∀ (m v:Nat)(cv:Int × Int),Far.get cs v=some cv->cv.1.toNat<=m->v<n.toNat->(v=w\/clB n.toNat ts ls v w=true)->Far.Walk (arcs ts (clK n ts ls)) w v cv.1
 | m,v,cv,ev,hm,hv,hin=>by
  by_cases z:v=w
  ·rw[z,G.start] at ev
   cases ev
   rw[z];exact Far.Walk.nil
  ·have hb:=hin.resolve_left z
   obtain⟨u,eu⟩:∃ u,Far.get (clA n ts ls w) v=some u:=by
    have:Far.get (clA n ts ls w) v=Far.get (trA n ts w) v:=by
     unfold clA
     rw[getC hv,if_pos hb]
    rw[this]
    cases e:Far.get (trA n ts w) v with
    | none=>exact absurd e (G.has v cv ev z)
    | some u=>exact⟨u,rfl⟩
   obtain⟨_,_,etr⟩:=zcj eu
   obtain⟨l,k,cu,mm,e1,e2⟩:=G.arc _ _ etr
   have ec:cv=(cu.1+l,cu.2+2^k):=ubj (ev.symm.trans e2)
   have cu0:=G.nn _ _ e1
   have inn:=zc0 ok (za5 ts) mm
   have arc0:(u,v,l)∈arcs ts (uaf ts.length):=by
    rw[← zbo]
    exact Far.arcsF_mem.mpr ⟨k,mm⟩
   have l1:1<=l:=zbh ok (za5 ts) _ _ _ arc0
   have tb:=zkb ok (za5 ts) mm
   rw[zka] at tb
   have hk:k∈clK n ts ls:=(zk5 ok).mpr ⟨w,hw,clT_mem.mpr ⟨v,u,eu,tb⟩⟩
   have arc:(u,v,l)∈arcs ts (clK n ts ls):=by
    rw[← zbo]
    refine Far.arcsF_mem.mpr ⟨k,?_⟩
    obtain⟨j,hj,zz⟩:=arcsB_mem.mp mm
    have ej:j=k:=by rcases arcs2B_mem.mp zz with y | y <;> (cases y;rfl)
    rw[ej] at zz
    exact arcsB_mem.mpr ⟨k,hk,zz⟩
   have c1:cv.1=cu.1+l:=by rw[ec]
   match m,hm with
   | 0,hm=>left
   | m+1,hm =>
    have ih:=zjb ok hw G m u cu e1 (by left) inn.1 (zuv ok hw eu)
    rw[c1]
    exact ih.snoc arc
theorem zdp {n:Int}{ts:List Tie}{ls:List (List Nat)}(ok:WebOk n ts){w v:Nat}(hv:v<n.toNat)(h:w∈bnL n.toNat ts ls v):Far.Walk (arcs ts (clK n ts ls)) w v (dq ts w v):=by
 obtain⟨hw,hb⟩:=bnL_mem.mp h
 obtain⟨cs,G⟩:=zcr ok hw
 have KB:=zbi ok (za5 ts)
 have dst:dvC ts w v=(Far.get cs v).map (·.1):=by
  have h:=G.dst1 KB v
  rw[zbo] at h
  exact (zbl ok w v).unique h
 have h1:=zpx (ls:=ls) ok hv h
 rw[zbu ok,dst] at h1
 cases e:Far.get cs v with
 | none=>rw[e] at h1;cases h1
 | some cv =>
  have edq:dq ts w v=cv.1:=by unfold dq;rw[dst,e];rfl
  rw[edq]
  exact zjb ok hw G _ v cv e (uai _) hv (.inr hb)
theorem zrb {n:Int}{ts:List Tie}{ks:List Nat}(ko:KeepOk ts.length ks){u v:Nat}{x:Int}(h:Far.Walk (arcs ts ks) u v x):Far.Walk (arcs ts (uaf ts.length)) u v x:=by
 induction h with
 | nil=>exact Far.Walk.nil
 | snoc _ m ih =>
  obtain⟨k,hk,mk⟩:=arcs_mem.mp m
  exact ih.snoc (arcs_mem.mpr ⟨k,uaq.mpr (ko.2 k hk),mk⟩)
theorem zht {n:Int}{ts:List Tie}{ls:List (List Nat)}(ok:WebOk n ts){w v:Nat}(hv:v<n.toNat)(h:w∈bnL n.toNat ts ls v):Far.Dst (arcs ts (clK n ts ls)) w v (some (dq ts w v)):=by
 refine⟨λ y e=>by cases e;exact zdp ok hv h,λ L hL=>⟨_,rfl,?_⟩⟩
 obtain⟨y,e,le⟩:=(zbl ok w v).2 L (zrb (n:=n) (zch n ts ls) hL)
 have:dq ts w v=y:=by unfold dq;rw[e];rfl
 left
theorem zsk {n:Int}{ts:List Tie}{ls:List (List Nat)}(ok:WebOk n ts)(lo:LevOk n.toNat ls):allIn ts (clK n ts ls) (2*(ls.length:Int)-1):=λ k hk=>by
 have hkl:=zdz hk
 obtain⟨e1,e2,e3,e4⟩:=zpb ok hkl
 obtain⟨d,ed,d0,dl⟩:=zel ok hkl
 have an:(tieAt ts k).1.toNat<n.toNat:=by left
 have bn:(tieAt ts k).2.1.toNat<n.toNat:=by left
 obtain⟨w,hw,le⟩:=zkg ok lo an bn d0 ed
 have wa:=(zdp ok an hw.1).back (zbk ok (zch n ts ls))
 have wb:=zdp ok bn hw.2
 have D:=zo6 ok (zch n ts ls) k
 obtain⟨y,ey,ly⟩:=D.2 _ (wa.trans wb)
 have l1:=lo.one
 have h2:(2*(ls.length:Int)-1)*d<=(2*(ls.length:Int)-1)*(tieAt ts k).2.2:=ucv dl (by left)
 rw[ey]
 have c1:dq ts w (tieAt ts k).1.toNat=dq ts (tieAt ts k).1.toNat w:=by unfold dq;rw[zbu ok]
 have c2:dq ts w (tieAt ts k).2.1.toNat=dq ts (tieAt ts k).2.1.toNat w:=by unfold dq;rw[zbu ok]
 refine decide_eq_true ?_
 left
theorem zq0 {n:Int}{ts:List Tie}{ks:List Nat}(ok:WebOk n ts)(ko:KeepOk ts.length ks):∃ prs,PairsOk n.toNat (arcs ts (uaf ts.length)) (arcs ts ks) prs:=by
 have ex:∀ u v,∃ o,Far.Dst (arcs ts ks) u v o:=λ u v=>Far.zcg (zbh ok ko) u v
 refine⟨(uaf n.toNat).flatMap λ u=>(uaf u).filterMap λ v=>(dvC ts u v).map λ d=>(Classical.choose (ex u v),d),λ o d=>?_⟩
 rw[uey]
 constructor
 ·rintro ⟨u,hu,h⟩
  obtain⟨v,hv,e⟩:=udo.mp h
  obtain⟨d',e1,e2⟩:=uba.mp e
  cases e2
  refine⟨u,v,uaq.mp hu,uaq.mp hv,?_,Classical.choose_spec (ex u v)⟩
  rw[← e1];exact zbl ok u v
 ·rintro ⟨u,v,hu,hv,h1,h2⟩
  refine⟨u,uaq.mpr hu,udo.mpr ⟨v,uaq.mpr hv,?_⟩⟩
  rw[(h1.unique (zbl ok u v)).symm,(h2.unique (Classical.choose_spec (ex u v))).symm];rfl
theorem ztc {P Q:Int}(h:(lowest (P,Q)).1=(lowest (P,Q)).2)(q1:1<=(lowest (P,Q)).2)(hP:0<=P)(hQ:0<=Q):lowest (P,Q)=(1,1):=by
 obtain⟨a,rfl⟩:=Int.eq_ofNat_of_zero_le hP
 obtain⟨b,rfl⟩:=Int.eq_ofNat_of_zero_le hQ
 have e:∀ a b:Nat,lowest ((a:Int),(b:Int))=(((a / uda a b:Nat):Int),((b / uda a b:Nat):Int)):=λ a b=>by
  unfold lowest
  rw[uao,uao,Int.natCast_ediv,Int.natCast_ediv]
 rw[e] at h q1 ⊢
 have h':a / uda a b=b / uda a b:=by
  have:((a / uda a b:Nat):Int)=((b / uda a b:Nat):Int):=h
  left
 have ea:a=b:=by
  rw[← Nat.div_mul_cancel (Nat.gcd_dvd_left a b),h',Nat.div_mul_cancel (Nat.gcd_dvd_right a b)]
 subst ea
 rw[Nat.gcd_self] at q1 ⊢
 have pos:0<a:=by
  rcases ufr a with z | z
  ·rw[z] at q1
   exact absurd q1 (by decide)
  ·exact z
 rw[Nat.div_self pos];rfl
theorem zqw {n:Int}{ts:List Tie}{ls:List (List Nat)}(ok:WebOk n ts)(lo:LevOk n.toNat ls):∃ p q,ratio ts (clK n ts ls)=some (p,q)/\p<=(2*(ls.length:Int)-1)*q/\(ls.length=1->(p,q)=(1,1)):=by
 have ko:=zch n ts ls
 have al:=zsk ok lo
 obtain⟨prs,hp⟩:=zq0 ok ko
 cases e:ratio ts (clK n ts ls) with
 | none =>
  obtain⟨k,hk,eg⟩:=ratio_none.mp e
  have:=al k hk
  rw[eg] at this
  cases this
 | some pq =>
  obtain⟨p,q⟩:=pq
  obtain⟨q1,_,qp,_,iff,_⟩:=zmm ok ko hp e
  have l1:=lo.one
  have le:=(iff _ (by left)).mpr al
  refine⟨p,q,rfl,le,λ h1=>?_⟩
  rw[h1] at le
  have pq:p=q:=by
   have:p<=(2*((1:Nat):Int)-1)*q:=le
   left
  unfold ratio at e
  obtain⟨⟨P,Q⟩,er,el⟩:=uba.mp e
  rw[zlo] at er
  have lens:∀ k∈outs ts.length (clK n ts ls),0<(tieAt ts k).2.2:=λ k hk=>by
   have:=ok.tie _ (za6 (zdz hk)).2;left
  obtain⟨a1,a2,_,_⟩:=Far.zdk lens (by decide) er
  dsimp only at a1 a2
  have e1:(lowest (P,Q)).1=p:=by rw[el]
  have e2:(lowest (P,Q)).2=q:=by rw[el]
  rw[← el]
  exact ztc (by rw[e1,e2];exact pq) (by rw[e2];exact q1) (by left) (by left)
theorem zpk {n:Int}{ts:List Tie}{ls:List (List Nat)}(ok:WebOk n ts)(lo:LevOk n.toNat ls){d:Int}:∀ (f j:Nat){w a b:Nat}{Da Db:List (Option Int)}{x:Int},ls.length<=j+f->Cs ts n.toNat ls d j w a b Da Db x->∃ (pre:List (List Int))(w' a' b':Nat)(Da' Db':List (Option Int))(x':Int),clN ls f w a b Da Db x=pre++[[(w':Int),(a':Int),(b':Int),x']]/\Cs ts n.toNat ls d (j+pre.length) w' a' b' Da' Db' x'/\bunB ls Db' w'=true/\((a'=a/\b'=b)\/(a'=b/\b'=a))
 | 0,j,w,a,b,Da,Db,x,hf,h=>by
  have tl:=(zbm lo h.wn).1
  have tp:=h.tp
  left
 | f+1,j,w,a,b,Da,Db,x,hf,h=>by
  cases nb:bunB ls Db w with
  | true=>exact⟨[],w,a,b,Da,Db,x,by rw[zmd nb];rfl,h,nb,.inl ⟨rfl,rfl⟩⟩
  | false =>
   obtain⟨o,po⟩:=zr7 ls (topN ls w+1) Db
   obtain⟨p,x',rfl,ex,h'⟩:=h.step ok lo nb po
   obtain⟨pre,w',a',b',Da',Db',x2,e1,e2,e3,e4⟩:=zpk ok lo f (j+1) (by left) h'
   refine⟨[(w:Int),(a:Int),(b:Int),x]::pre,w',a',b',Da',Db',x2,by rw[zmc nb po ex,e1];rfl,?_,e3,?_⟩
   ·rw[ucp,show j+(pre.length+1)=j+1+pre.length by left];exact e2
   ·rcases e4 with ⟨h1,h2⟩ | ⟨h1,h2⟩
    ·exact .inr ⟨h1,h2⟩
    ·exact .inl ⟨h1,h2⟩
theorem zf3 (T:Bi mg)(D:DefOk K mg "_law_most" s__law_most ["pot","k"])(O__law_take:‹1› "_law_take" ["pot","many"] spTake):‹2› "_law_most" ["pot","k"] spMost:=by
 exists 1,sc__law_most
 obtain⟨p,k,rfl,hp,q⟩:=h
 refine⟨_,(zac (zbb (zao zhb (pv 1) zae (nomark _)) (zaf (zaj zae)) zar) (zaf (zaj (zaq zay (zcb (zaa zae (zaa zae zab))) (zau zpv rfl T.z_int (by symm) (zaa (za0 zcc (zad O__law_take hr rfl (zaa (pv 0) (zaa zae zab))) zae (nomark _)) zab)) (λ _ _=>rfl))))),?_⟩
 refine⟨_,rfl,_,_,rfl,rfl,_,rfl,ite2 (λ c=>?_) (λ c=>?_)⟩
 ·exact q 5 H But.refl hp (by decide) (by decide)
 ·refine⟨(by show 2<=1000;decide),λ l J1 S1 f1 e1=>?_⟩
  have nl:l≠p:=λ z=>by
   obtain⟨a',b',e',_⟩:=hp
   rw[z,e'] at f1;cases f1
  refine⟨_,rfl,p,8,rfl,hp.same S1,by decide,by decide,λ r J2 _ _ b2 p2=>⟨rfl,.inr ⟨_,rfl,?_⟩⟩⟩
  have B:=(Same.but S1 (p:=p)).trans b2
  cases decide (V.int r=V.int 0) with
  | true=>exact⟨l,_,_,_,rfl,rfl,SqL.of (b2 _ _ nl e1),rfl,q 20 J2 B p2 (by decide) (by decide)⟩
  | false=>exact⟨l,_,_,_,rfl,rfl,SqL.of (b2 _ _ nl e1),rfl,q 9 J2 B p2 (by decide) (by decide)⟩
theorem brH97 {A T:Hp->Prop}{B:Prop}(main:(∀ J,A J->T J)->B)(tail:∀ J,A J->T J):B:=main tail
def spKR97 (K:uac):Sp:=λ vs H Q _=>∃ (n:Int)(ts:List Tie)(ls:List (List Nat))(wv:V)(lp kp:Addr),vs=[wv,.ref lp,.ref kp]/\Is K H (webD n ts) wv/\WebOk n ts/\Lv K H n.toNat ls (.ref lp)/\H kp=some (.tup (natV (clK n ts ls)))/\∀ H',Same H H'->Q (.bl true) H'
theorem zc3 (T:Bi mg)(D:DefOk K mg "_law_kept_right" s__law_kept_right ["web","levels","keep"])(O_least_ratio:‹9› "least_ratio" ["web","keep"] (spRatio K))(O_trees_right:‹9› "trees_right" ["web","keep","t","paper"] (spTR69 K))(O_level_paper:‹9› "level_paper" ["web","levels"] (spLevPap K))(O_times_told:‹9› "times_told" ["web","keep","t"] (spTold19 K)):‹10› "_law_kept_right" ["web","levels","keep"] (spKR97 K):=by
 exists 9,sc__law_kept_right
 obtain⟨n,ts,ls,wv,lp,kp,rfl,isw,ok,lvk,hkp,q⟩:=h
 have units:(A.deeper (envOfC "_law_kept_right" (defScope s__law_kept_right) s.heap.objs.size f cdv)).units+1<cLine:=by have:=hr.units;left
 obtain⟨_,lvs,e0,hlp,iap⟩:=id lvk.1
 refine⟨_,(zac (zap (i:=3) nd rfl (uaw rfl) (zax zc7 (zax zce zae (zal zas rfl T.z_len (by symm) (zaa (pv 1) zab))) zae)) (zac (zap (i:=4) nd rfl (uaw rfl) (zad O_least_ratio hr rfl (zaa (pv 0) (zaa (pv 2) zab)))) (zac (zbb (PW.pt (zc1 (zao zb6 (pv 4) za7 (nomark _)) (zc1 (zao zhb (zaq zav (pv 4) zae (λ _ _=>rfl)) (zax zce (pv 3) (zaq zav (pv 4) zae (λ _ _=>rfl))) (nomark _)) (zcd (PW.pt (zr6 (zao zcc (zal zas rfl T.z_len (by symm) (zaa (pv 1) zab)) zae (nomark _)) (zny (zao zua (pv 4) (zbc (zaa zae (zaa zae zab))) (nomark _))))))))) (zaf (zaj zb2)) zar) (zac (zbb (zao zoe (zad O_trees_right hr rfl (zaa (pv 0) (zaa (pv 2) (zaa (pv 3) (zaa (zad O_level_paper hr rfl (zaa (pv 0) (zaa (pv 1) zab))) zab))))) zb2 (nomark _)) (zaf (zaj zb2)) zar) (zaf (zaj (za0 zcc (zaq zav (zad O_times_told hr rfl (zaa (pv 0) (zaa (pv 2) (zaa (pv 3) zab)))) zae (λ _ _=>rfl)) zn4 (nomark _)))))))),?_⟩
 cases e0
 have lls:lvs.length=ls.length:=by have:=iap.length;rw[uae] at this;exact this
 have l6:=lvk.2.1.six
 have l1:=lvk.2.1.one
 refine⟨_,rfl,lp,_,rfl,.inr (SqT.of hlp),_,_,rfl,rfl,.inl ⟨by decide,by decide⟩,_,_,rfl,rfl,?_⟩
 rw[lls]
 have wk:WK K H n ts (clK n ts ls) wv (.ref kp):=⟨isw,ok,zb3 hkp,zch n ts ls⟩
 refine⟨_,rfl,_,rfl,n,ts,clK n ts ls,wv,.ref kp,rfl,wk,λ v J1 S1 cv=>?_⟩
 obtain⟨p,qq,er,le,one⟩:=zqw ok lvk.2.1
 rw[er] at cv
 obtain⟨tr,rfl,htr⟩:=cv
 refine⟨_,rfl,rfl,_,rfl,iteF ?_⟩
 refine⟨_,rfl,tr,_,_,_,rfl,rfl,SqT.of htr,rfl,_,rfl,_,rfl,tr,_,_,_,rfl,rfl,SqT.of htr,rfl,_,_,rfl,rfl,.inl ⟨by left,by left⟩,_,_,rfl,rfl,_,rfl,?_⟩
 refine iteFe (decide_eq_false (Int.not_lt.mpr le)) ?_
 refine⟨_,rfl,lp,_,rfl,.inr (SqT.of (S1 _ _ hlp)),rfl,_,rfl,?_⟩
 apply brH97 (A:=λ J=>Same H J)
 case main =>
  intro tail
  by_cases c1:ls.length=1
  ·refine iteTe (decide_eq_true (by rw[lls,c1];rfl)) ⟨_,rfl,(by show 2<=1000;decide),λ t1 J2 S2 f2 e2=>?_⟩
   have e:=one c1
   have h11:J2 tr=some (.tup (([1,1]:List Int).map V.int)):=by
    have h:=S2 _ _ htr
    rw[show p=1 from congrArg Prod.fst e,show qq=1 from congrArg Prod.snd e] at h
    exact h
   refine⟨.tuple (([1,1]:List Int).map .int),.tuple (([1,1]:List Int).map .int),⟨tr,_,rfl,h11,IsAll.ints [1,1]⟩,⟨t1,_,rfl,e2,IsAll.ints [1,1]⟩,zb8 _,zb8 _,ubr (Nat.add_le_add (uai _) (ubt (Nat.min_le_left _ _) (show _<=1 from uai _))) units,_,rfl,?_⟩
   exact iteF (tail J2 (S1.trans S2))
  ·exact iteFe (decide_eq_false λ z=>c1 (by injection z with z;left)) (iteF (tail J1 S1))
 case tail =>
 intro J2 S2
 refine⟨_,rfl,_,rfl,_,rfl,_,rfl,_,rfl,n,ts,ls,wv,.ref lp,rfl,Is.same S2 _ isw,ok,⟨Is.same S2 _ lvk.1,lvk.2⟩,λ pv J3 S3 sda isp=>?_⟩
 have S23:=S2.trans S3
 refine⟨n,ts,ls,wv,pv,kp,_,rfl,Is.same S23 _ isw,ok,S23 _ _ hkp,by left,by left,sda,isp,λ J4 S4=>?_⟩
 rw[zsz ok lvk.2.1 sda]
 refine⟨_,_,rfl,rfl,_,rfl,iteF ?_⟩
 have S24:=S23.trans S4
 refine⟨_,rfl,_,rfl,_,rfl,n,ts,clK n ts ls,wv,.ref kp,_,rfl,wk.same S24,by left,by left,λ v d J5 S5 isd td=>?_⟩
 cases td with
 | far fo=>exact absurd (zsk ok lvk.2.1) fo.not
 | keeps _ =>
  obtain⟨tt,vs2,rfl,htt,sv,r1,rfl,hs,r2⟩:=isd
  obtain rfl:sv=.str "keeps":=hs
  obtain⟨wv2,z,rfl,_,z0⟩:=r2
  obtain rfl:z=[]:=z0
  refine⟨tt,_,_,_,rfl,rfl,SqT.of htt,rfl,rfl,?_⟩
  rw[decide_eq_true rfl]
  exact q J5 (S24.trans S5)
def spTie97 (K:uac):Sp:=λ vs H Q _=>∃ (n:Int)(ts:List Tie)(ls:List (List Nat))(wv:V)(lp kp:Addr)(k:Nat),vs=[wv,.ref lp,.ref kp,.int (k:Int)]/\Is K H (webD n ts) wv/\WebOk n ts/\Lv K H n.toNat ls (.ref lp)/\H kp=some (.tup (natV (clK n ts ls)))/\k<ts.length/\∀ H',Same H H'->Q (.bl true) H'
theorem zdb (T:Bi mg)(D:DefOk K mg "_law_tie_right" s__law_tie_right ["web","levels","keep","number"])(O_climb:‹9› "climb" ["web","levels","u","v"] (spClimb K))(O_far:‹9› "far" ["web","keep","a","b"] (spFar K))(O_bunch:‹9› "bunch" ["web","levels","v"] (spBunch K)):‹10› "_law_tie_right" ["web","levels","keep","number"] (spTie97 K):=by
 exists 9,sc__law_tie_right
 obtain⟨n,ts,ls,wv,lp,kp,k,rfl,isw,ok,lvk,hkp,hk,q⟩:=h
 have units:(A.deeper (envOfC "_law_tie_right" (defScope s__law_tie_right) s.heap.objs.size f cdv)).units+3<cLine:=by have:=hr.units;left
 obtain⟨g0,g,ws,rfl,hg0,hg,hall,hlw⟩:=zaz isw
 obtain⟨ta,hta,htie⟩:=zbz hall hk
 obtain⟨e1,e2,e3,e4⟩:=zpb ok hk
 obtain⟨d,ed,d0,dl⟩:=zel ok hk
 have ed':dvC ts (en ts k).1 (en ts k).2=some d:=ed
 refine⟨_,(zac (zbn (zaq zav (zaq zav (pv 0) zae (λ _ _=>rfl)) (pv 3) (λ _ _=>rfl)) (zbp (n:=3) rfl (zah (zag (i:=4) nd rfl (uaw rfl)) (zah (zag (i:=5) nd rfl (uaw rfl)) (zah (zag (i:=6) nd rfl (uaw rfl)) za1))))) (zac (zap (i:=7) nd rfl (uaw rfl) (zad O_climb hr rfl (zaa (pv 0) (zaa (pv 1) (zaa (pv 4) (zaa (pv 5) zab)))))) (zac (zbn (zaq zav (pv 7) (zft zc5 zae) (λ _ _=>rfl)) (zbp (n:=4) rfl (zah (zag (i:=8) nd rfl (uaw rfl)) (zah (zag (i:=9) nd rfl (uaw rfl)) (zah (zag (i:=10) nd rfl (uaw rfl)) (zah (zag (i:=11) nd rfl (uaw rfl)) za1)))))) (zac (zap (i:=12) nd rfl (uaw rfl) (zad O_far hr rfl (zaa (pv 0) (zaa (pv 2) (zaa (pv 8) (zaa (pv 10) zab)))))) (zac (zbb (PW.pt (zc1 (zao zoc (zad O_far hr rfl (zaa (pv 0) (zaa (pv 2) (zaa (pv 8) (zaa (pv 9) zab))))) (pv 11) (nomark _)) (zcd (zao zob (zbc (zaa (pv 8) (zaa (pv 12) zab))) (zad O_bunch hr rfl (zaa (pv 0) (zaa (pv 1) (zaa (pv 10) zab)))) (by with_unfolding_all rfl))))) (zaf (zaj zb2)) zar) (zac (zbb (zao zhb (zax zbt (pv 11) (pv 12)) (zax zce (zax zc7 (zax zce zae (zal zas rfl T.z_len (by symm) (zaa (pv 7) zab))) zae) (pv 6)) (nomark _)) (zaf (zaj zb2)) zar) (zaf (zaj (za0 zha (zad O_far hr rfl (zaa (pv 0) (zaa (pv 2) (zaa (pv 4) (zaa (pv 5) zab))))) (zax zbt (pv 11) (pv 12)) (nomark _)))))))))),?_⟩
 refine⟨_,rfl,g0,_,_,_,rfl,rfl,SqT.of hg0,rfl,_,rfl,g,_,_,_,rfl,rfl,SqT.of hg,zat (uav _) hta,?_⟩
 refine⟨ta,_,rfl,SqT.of htie,rfl,_,_,rfl,_,_,rfl,_,_,rfl,rfl,?_⟩
 rw[← e3,← e4]
 obtain⟨a,ea⟩:∃ a,a=(en ts k).1:=⟨_,rfl⟩
 obtain⟨b,eb⟩:∃ b,b=(en ts k).2:=⟨_,rfl⟩
 rw[← ea,← eb] at ed' ⊢
 have an:a<n.toNat:=by left
 have bn:b<n.toNat:=by left
 refine⟨_,rfl,_,rfl,_,rfl,_,rfl,n,ts,ls,_,.ref lp,a,b,rfl,isw,ok,lvk,an,bn,λ r Du Dv J1 S1 fu fv cv=>?_⟩
 have eu:=zfi ok fu
 have ev:=zfi ok fv
 subst eu;subst ev
 rcases cv with ⟨_,en'⟩ | ⟨t,ys,d',rfl,_,ht,iys,_⟩
 ·exfalso
  rw[show Far.get (dFC n.toNat ts a) b=dvC ts a b from getC bn,ed'] at en'
  cases en'
 have lo:=lvk.2.1
 have cs0:=Cs.start ok lo (zjf ok a) (zjf ok b) an bn (by rw[show Far.get (dFC n.toNat ts a) b=dvC ts a b from getC bn];exact ed')
 obtain⟨pre,w',a',b',Da',Db',x',el,cs,bb,hab⟩:=zpk ok lo ls.length 0 (by left) cs0
 rw[el,ucm] at iys
 have lys:ys.length=pre.length+1:=by rw[iys.length,uar,uae,uae];rfl
 obtain⟨vl,evl,isl⟩:=iys.at_ (show (pre.map tupI++[[(w':Int),(a':Int),(b':Int),x']].map tupI)[pre.length]?=some (tupI [(w':Int),(a':Int),(b':Int),x']) by rw[ubb (by rw[uae];exact uai _),uae,uf1];rfl)
 obtain⟨tl,us,rfl,htl,hus⟩:=isl
 rw[IsAll.of_ints hus] at htl
 have atL:atI ys (-1)=some (.ref tl):=by
  have e0:ixN ys.length (-1)=some pre.length:=by
   unfold ixN
   rw[if_neg (by decide),if_pos (by left)]
   congr 1;left
  unfold atI
  rw[e0];exact evl
 have da':=zfi ok cs.fa
 have db':=zfi ok cs.fb
 have wa:w'∈bnL n.toNat ts ls a':=bnL_mem.mpr ⟨cs.wn,by have:=cs.bu;rw[da'] at this;exact this⟩
 have wb:w'∈bnL n.toNat ts ls b':=bnL_mem.mpr ⟨cs.wn,by rw[db'] at bb;exact bb⟩
 have gx:dq ts w' a'=x':=by
  have h:=cs.xa
  rw[da',show Far.get (dFC n.toNat ts a') w'=dvC ts a' w' from getC cs.wn] at h
  unfold dq
  rw[zbu ok,h];rfl
 refine⟨_,rfl,_,rfl,t,_,_,_,rfl,rfl,SqT.of ht,atL,tl,_,rfl,SqT.of htl,rfl,_,_,rfl,_,_,rfl,_,_,rfl,_,_,rfl,rfl,?_⟩
 have wk:∀ {J:Hp},Same H J->WK K J n ts (clK n ts ls) (.ref g0) (.ref kp):=λ S=>⟨Is.same S _ isw,ok,zb3 (S _ _ hkp),zch n ts ls⟩
 have dA:=zht ok cs.an wa
 have dB:=zht ok cs.bn wb
 refine⟨_,rfl,_,rfl,_,rfl,_,rfl,n,ts,clK n ts ls,_,.ref kp,(w':Int),(b':Int),rfl,wk S1,by left,by have:=cs.wn;left,by left,by have:=cs.bn;left,λ o1 J2 S2 h1=>?_⟩
 rw[uao,uao] at h1
 have eo1:=h1.unique dB
 subst eo1
 have S12:=S1.trans S2
 refine⟨_,rfl,_,rfl,_,rfl,_,rfl,n,ts,clK n ts ls,_,.ref kp,(w':Int),(a':Int),rfl,wk S12,by left,by have:=cs.wn;left,by left,by have:=cs.an;left,λ o2 J3 S3 h2=>?_⟩
 rw[uao,uao] at h2
 have eo2:=h2.unique dA
 subst eo2
 have S13:=S12.trans S3
 refine⟨_,rfl,rfl,_,rfl,?_⟩
 refine iteFe (by rw[gx];show (!decide (V.int x'=V.int x'))=false;rw[decide_eq_true rfl];rfl) ?_
 refine⟨_,rfl,_,rfl,(by show 2<=1000;decide),λ tp J4 S4 f4 e4'=>?_⟩
 have S14:=S13.trans S4
 refine⟨_,rfl,_,rfl,_,rfl,n,ts,ls,_,.ref lp,(b':Int),rfl,Is.same S14 _ isw,ok,⟨Is.same S14 _ lvk.1,lvk.2⟩,by left,by have:=cs.bn;left,λ tb yb D' J5 S5 fD e5 ib=>?_⟩
 rw[uao] at fD
 rw[zfi ok fD,zfn] at ib
 have bin:bunD (dFC n.toNat ts b') w'∈((uaf n.toNat).filter λ w=>bunB ls (dFC n.toNat ts b') w).map (bunD (dFC n.toNat ts b')):=ubx.mpr ⟨w',wb,rfl⟩
 have ebd:bunD (dFC n.toNat ts b') w'=tupI [(w':Int),dq ts w' b']:=by
  unfold bunD
  rw[show Far.get (dFC n.toNat ts b') w'=dvC ts b' w' from getC cs.wn,zpx ok cs.bn wb]
  have:dq ts b' w'=dq ts w' b':=by unfold dq;rw[zbu ok]
  show tupI [(w':Int),dq ts b' w']=_
  rw[this]
 refine⟨tb,_,yb,tupI [(w':Int),dq ts w' b'],_,rfl,e5,ib,⟨tp,_,rfl,S5 _ _ e4',IsAll.ints [(w':Int),dq ts w' b']⟩,λ d hd=>?_,zb8 _,?_,bin,?_,?_⟩
 ·obtain⟨w2,_,rfl⟩:=ubx.mp hd
  exact zq8 _ _
 ·show (A.deeper (envOfC "_law_tie_right" (defScope s__law_tie_right) s.heap.objs.size f cdv)).units+1+1<cLine
  left
 ·rw[ebd];exact SeqAt.eqv_refl _ (zb8 _)
 refine⟨_,rfl,iteF ?_⟩
 have S15:=S14.trans S5
 have tri:dq ts w' b'<=x'+d:=by
  have w1:=(zbl ok w' a').1 x' (by have h:=cs.xa;rw[da',show Far.get (dFC n.toNat ts a') w'=dvC ts a' w' from getC cs.wn] at h;rw[zbu ok];exact h)
  have w2:=(zbl ok a' b').1 d (by have h:=cs.ab;rw[da',show Far.get (dFC n.toNat ts a') b'=dvC ts a' b' from getC cs.bn] at h;exact h)
  obtain⟨y,ey,ly⟩:=(zbl ok w' b').2 _ (w1.trans w2)
  unfold dq
  rw[ey];exact ly
 have lim:=cs.lim
 rw[Nat.zero_add] at lim
 have bound:x'+dq ts w' b'<=(2*((ys.length:Nat):Int)-1)*(tieAt ts k).2.2:=by
  rw[lys]
  have m1:(2*(pre.length:Int)+1)*d<=(2*(pre.length:Int)+1)*(tieAt ts k).2.2:=ucv dl (by left)
  have m2:(2*(pre.length:Int)+1)*d=2*(pre.length*d)+d:=by rw[ufk,Int.one_mul,ue1]
  have m3:(2*((pre.length+1:Nat):Int)-1)=2*(pre.length:Int)+1:=by left
  rw[m3]
  left
 have ht5:=(S2.trans (S3.trans (S4.trans S5))) _ _ ht
 refine⟨_,rfl,_,rfl,_,_,rfl,rfl,_,rfl,t,_,rfl,.inr (SqT.of ht5),_,_,rfl,rfl,.inl ⟨by decide,by decide⟩,_,_,rfl,rfl,_,rfl,_,_,rfl,rfl,?_,_,_,rfl,rfl,_,rfl,?_⟩
 ·have tl:=(zbm lo cs.wn).1
  have tp:=cs.tp
  have l6:=lo.six
  exact .inl ⟨by left,by left⟩
 refine iteFe (decide_eq_false (Int.not_lt.mpr bound)) ?_
 refine⟨_,rfl,_,rfl,_,rfl,_,rfl,n,ts,clK n ts ls,_,.ref kp,(a:Int),(b:Int),rfl,wk S15,by left,by left,by left,by left,λ o3 J6 S6 h3=>?_⟩
 rw[uao,uao] at h3
 have wl1:=(zdp ok cs.an wa).back (zbk ok (zch n ts ls))
 have wl:=wl1.trans (zdp ok cs.bn wb)
 rw[gx] at wl
 have wab:Far.Walk (arcs ts (clK n ts ls)) a b (x'+dq ts w' b'):=by
  rcases hab with ⟨h1,h2⟩ | ⟨h1,h2⟩
  ·rw[h1,h2] at wl;rw[h2];exact wl
  ·rw[h1,h2] at wl
   rw[h2]
   exact wl.back (zbk ok (zch n ts ls))
 obtain⟨y,ey,ly⟩:=h3.2 _ wab
 subst ey
 refine⟨_,rfl,_,rfl,_,_,rfl,rfl,_,_,rfl,rfl,?_⟩
 have qq:=q J6 (S15.trans S6)
 rw[← decide_eq_true ly] at qq
 exact qq
def spLaw (K:uac):Sp:=λ vs H Q _=>∃ (a:Addr)(ns:List Int),vs=[.ref a]/\SqL K H a (ns.map V.int)/\ns.length<=63/\∀ H',Q (.bl true) H'
theorem zio (ls:List (List Nat)):tupD (piecesD ls)=true:=by
 refine znm λ d hd=>?_
 obtain⟨p,_,rfl⟩:=ubx.mp hd
 exact zek _
theorem zud {f:Addr}{fd:FuncData}(T:Bi mg)(F:Fun K "law" "law" s_law f fd)(O__law_pot:‹10› "_law_pot" ["script","k"] (spPot K))(O__law_take:‹10› "_law_take" ["pot","many"] spTake)(O__law_most:‹10› "_law_most" ["pot","k"] spMost)(O__law_web:‹10› "_law_web" ["pot","most"] (spWeb K))(O__law_levels:‹10› "_law_levels" ["pot","n"] (spLevels K))(O__law_order:‹10› "_law_order" ["pot","many"] spOrder)(O_level_keep:‹10› "level_keep" ["web","levels"] (spLevKeep K))(O__law_kept_right:‹10› "_law_kept_right" ["web","levels","keep"] (spKR97 K))(O__law_tie_right:‹10› "_law_tie_right" ["web","levels","keep","number"] (spTie97 K))(O_bunch:‹10› "bunch" ["web","levels","v"] (spBunch K))(O_far:‹10› "far" ["web","keep","a","b"] (spFar K)):FnOk P w K mg base CX0 11 f fd ["script"] (spLaw K):=by
 refine F.ok (k:=10) sc_law (λ vs H Q E h=>?_) (λ cdv A outer s H vs Q E hr h=>?_)
 ·obtain⟨a,ns,rfl,_⟩:=h
  rfl
 obtain⟨a,ns,rfl,hS,h63,q⟩:=h
 have nd:=sc_law.nd
 have hl:(ns.map V.int).length=ns.length:=uae _
 refine⟨_,(zac (zb5 PassesOwn.never rfl (zbs rfl T.z_range (zaa (zal (zfm rfl) rfl T.z_max (by symm) (zaa zae (zaa (zal (zfl rfl) rfl T.z_min (by symm) (zaa zae (zaa (zal zas rfl T.z_len (by symm) (zaa (pv 0) zab)) zab))) zab))) zab)) (zag (i:=1) nd rfl (uaw rfl)) (zac (zap (i:=2) nd rfl (uaw rfl) (zad O__law_pot hr rfl (zaa (pv 0) (zaa (pv 1) zab)))) (zac (zap (i:=3) nd rfl (uaw rfl) (zad O__law_web hr rfl (zaa (pv 2) (zaa (zad O__law_most hr rfl (zaa (pv 2) (zaa (pv 1) zab))) zab)))) (zac (zap (i:=4) nd rfl (uaw rfl) (zad O__law_levels hr rfl (zaa (pv 2) (zaa (zaq zav (pv 3) zae (λ _ _=>rfl)) zab)))) (zac (zap (i:=5) nd rfl (ufj rfl) (zad O_level_keep hr rfl (zaa (pv 3) (zaa (pv 4) zab)))) (zac (zbb (zbj (zbf (zad O__law_kept_right hr rfl (zaa (pv 3) (zaa (pv 4) (zaa (pv 5) zab)))))) (zaf (zaj zb2)) zar) (zac (zgo (i:=6) (N:=["script","k","pot","web","levels","keep","left","at","place","other","gone"]) (sc0:=defScope s_law) (own:=["number"]) (fr:=["keep"]) (js:=[5]) rfl (zbs rfl T.z_range (zaa (zal zas rfl T.z_len (by symm) (zaa (zaq zav (pv 3) zae (λ _ _=>rfl)) zab)) zab)) (λ _ _ _ _=>(zag (i:=0) (by show ua7 [("number":Str),("keep":Str)];decide +kernel) rfl (uaw rfl))) (λ _ _ _ _=>(zci (zao zdm (pv 0) (pv 1) (by with_unfolding_all rfl)))) (λ _ _ _ _=>(pv 0)) nd rfl (uaw rfl)) (zac (zb5 PassesOwn.never rfl (zda (zct znq (zad O__law_order hr rfl (zaa (pv 2) (zaa (zal zas rfl T.z_len (by symm) (zaa (pv 6) zab)) zab))) zdx (zdw zae))) (zag (i:=7) nd rfl (uaw rfl)) (zaf (zbb (zbj (zbf (zad O__law_tie_right hr rfl (zaa (pv 3) (zaa (pv 4) (zaa (pv 5) (zaa (zaq zay (pv 6) (pv 7) (λ _ _=>rfl)) zab))))))) (zaf (zaj zb2)) zar))) (zac (zap (i:=8) nd rfl (uaw rfl) (zad O__law_take hr rfl (zaa (pv 2) (zaa (zaq zav (pv 3) zae (λ _ _=>rfl)) zab)))) (zaf (zb5 PassesOwn.never rfl (zb0 (zad O_bunch hr rfl (zaa (pv 3) (zaa (pv 4) (zaa (pv 8) zab))))) (zbp (n:=2) rfl (zah (zag (i:=9) nd rfl (uaw rfl)) (zah (zag (i:=10) nd rfl (uaw rfl)) za1))) (zaf (zbb (zao zoc (zad O_far hr rfl (zaa (pv 3) (zaa (pv 5) (zaa (pv 9) (zaa (pv 8) zab))))) (pv 10) (nomark _)) (zaf (zaj zb2)) zar))))))))))))) (zaf (zaj zb2))),?_⟩
 refine⟨_,rfl,a,_,rfl,.inl hS,_,_,rfl,_,_,rfl,_,rfl,?_,?_,?_⟩
 ·split <;> split <;> left
 ·rw[hl];split <;> split <;> left
 generalize hj:(if (if (((ns.map V.int).length:Nat):Int)<63 then (((ns.map V.int).length:Nat):Int) else 63)>2 then (if (((ns.map V.int).length:Nat):Int)<63 then (((ns.map V.int).length:Nat):Int) else 63) else 2)=j
 have j12:j<=63:=by rw[← hj];split <;> split <;> left
 refine zcn (n:=j.toNat) (λ i σ H'=>∃ x1 x2 x3 x4 x5 x6 x7 x8 x9 x10:Option V,σ=[some (.ref a),x1,x2,x3,x4,x5,x6,x7,x8,x9,x10]/\Same H H') ⟨none,none,none,none,none,none,none,none,none,none,rfl,Same.refl H⟩ ?turn (λ σ H' _=>q H')
 rintro i σ H0 hi ⟨x1,x2,x3,x4,x5,x6,x7,x8,x9,x10,rfl,s0⟩
 refine⟨_,rfl,_,rfl,a,_,ns,rfl,s0.seq hS,by left,by left,λ l H1 s1 fl p1=>?_⟩
 have s01:Same H H1:=s0.trans s1
 have fl0:H l=none:=s0.free fl
 have npot:∀ {J:Hp}{b:Addr},Pot J l->J b=none->b≠l:=λ pp hb z=>by
  obtain⟨xs,e⟩:=pp.lst
  rw[z,e] at hb;cases hb
 have tkb:∀ {J J':Hp},But l J J'->Pot J l->TupKeep J J':=λ b pp=>by
  obtain⟨xs,e⟩:=pp.lst
  exact λ a ys h=>b _ _ (λ z=>by rw[z,e] at h;cases h) h
 refine⟨_,rfl,_,rfl,_,rfl,l,_,rfl,p1,λ m H2 b2 p2 m1 m24=>?_⟩
 refine⟨l,m,rfl,p2,m1,m24,λ wv H3 n ts b3 p3 ok nm isw=>?_⟩
 have n1:=ok.n1
 have n24:=ok.n24
 have few60:=ok.few
 have tup:tupD (webD n ts)=true:=zso n ts
 obtain⟨g0,gg,wz,rfl,hg0,hg,hall,hlw⟩:=zaz isw
 refine⟨_,rfl,_,rfl,g0,_,_,_,rfl,rfl,SqT.of hg0,rfl,l,n,rfl,p3,n1,n24,λ lv H4 ls b4 p4 lvk=>?_⟩
 have tk34:=tkb b4 p3
 have isw4:=Is.tk tk34 _ tup isw
 obtain⟨lp,lvs,rfl,hlp,iap⟩:=id lvk.1
 have tupL:tupD (piecesD ls)=true:=zio ls
 refine⟨_,rfl,_,rfl,n,ts,ls,_,.ref lp,rfl,isw4,ok,lvk,λ kt J5 S5 e5=>?_⟩
 have isw5:=Is.same S5 _ isw4
 have lvk5:Lv K J5 n.toNat ls (.ref lp):=⟨Is.same S5 _ lvk.1,lvk.2⟩
 refine⟨_,rfl,_,rfl,_,rfl,n,ts,ls,_,lp,kt,rfl,isw5,ok,lvk5,e5,λ J6 S6=>⟨_,rfl,iteF ?_⟩⟩
 have S46:=S5.trans S6
 have hg0':=S46 _ _ (tk34 _ _ hg0)
 have hg':=S46 _ _ (tk34 _ _ hg)
 refine⟨_,rfl,g0,_,_,_,rfl,rfl,SqT.of hg0',rfl,gg,_,rfl,.inr (SqT.of hg'),_,rfl,by left,by left,?_⟩
 refine zpi (n:=wz.length) (lo:=0) (λ σ'=>∃ o,σ'=[o,some (.ref kt)]) (λ i=>if decide (i∉clK n ts ls)=true then some (V.int (i:Int)) else none) (by left) (by exact⟨none,rfl⟩) (λ i σ' H' hi' s2 sg C L hC hL=>?_) (λ lo J7 hL S7 hH=>?_)
 ·obtain⟨o,rfl⟩:=sg
  rw[uf5]
  refine⟨_,rfl,_,rfl,kt,_,rfl,.inr (SqT.of (s2 _ _ (S6 _ _ e5))),rfl,zcw _,_,rfl,?_⟩
  show if (!inV (V.int (i:Int)) (natV (clK n ts ls)))=true then _ else _
  rw[zd4 (uav _),uao]
  by_cases c:i∈clK n ts ls
  ·rw[decide_eq_true c]
   exact iteF (hL _ _ ⟨_,rfl⟩ (Same.refl _) (by rw[if_neg (by rw[decide_eq_true_eq];exact λ z=>z c)]))
  ·rw[decide_eq_false c]
   exact iteT ⟨_,rfl,hC _ _ _ ⟨_,rfl⟩ (Same.refl _) (by rw[if_pos (decide_eq_true c)])⟩
 rw[zkz (λ i=>decide (i∉clK n ts ls)) (λ i=>V.int ((i:Nat):Int))] at hH
 have hlo:J7 lo=some (.lst (natV (outs ts.length (clK n ts ls)))):=by rw[hH,hlw];rfl
 have S47:=S46.trans S7
 have p7:=p4.same S47
 have nlo:lo≠l:=npot (p4.same S46) hL
 have lO:(outs ts.length (clK n ts ls)).length<=60:=by
  unfold outs
  have:=udr (λ k=>decide (k∉clK n ts ls)) (uaf ts.length)
  rw[uay] at this;left
 refine⟨_,rfl,_,rfl,lo,_,rfl,.inl (SqL.of hlo),l,_,rfl,p7,by left,by rw[zaw];left,λ lq J8 ms b8 p8 f8 nlq e8 pm=>?_⟩
 refine⟨_,rfl,lq,_,rfl,SqL.of e8,λ ls2 f9=>⟨ls2,rfl,⟨_,SqL.of zai⟩,?_⟩⟩
 have S9:=zam (H:=J8) (o:=.lst (cutV (ms.map V.int) none (some 2))) f9
 have hls2:upd J8 ls2 (.lst (cutV (ms.map V.int) none (some 2))) ls2=some (.lst ((ms.map V.int).take 2)):=by rw[zai,show cutV (ms.map V.int) none (some (2:Int))=(ms.map V.int).take 2 from zk1 (ms.map V.int) 2]
 rw[show cutV (ms.map V.int) none (some (2:Int))=(ms.map V.int).take 2 from zk1 (ms.map V.int) 2] at S9 ⊢
 rw[show cutV (ms.map V.int) none (some (2:Int))=(ms.map V.int).take 2 from zk1 (ms.map V.int) 2] at hls2
 generalize upd J8 ls2 (.lst ((ms.map V.int).take 2))=J9 at S9 hls2
 have tk79:TupKeep J7 J9:=λ c us e=>S9 _ _ (tkb b8 p7 _ _ e)
 have isw9:=Is.tk tk79 _ tup (Is.same S47 _ isw4)
 have lvk9:Lv K J9 n.toNat ls (.ref lp):=⟨Is.tk tk79 _ tupL (Is.same S47 _ lvk.1),lvk.2⟩
 have e9:J9 kt=some (.tup (natV (clK n ts ls))):=tk79 _ _ ((S6.trans S7) _ _ e5)
 have hlo9:=S9 _ _ (b8 _ _ nlo hlo)
 obtain⟨O,eO⟩:∃ O,O=outs ts.length (clK n ts ls):=⟨_,rfl⟩
 rw[← eO] at hlo9 lO
 rw[zaw,uao,← eO] at pm
 have p9:=p8.same S9
 refine zhv (xs:=(ms.map V.int).take 2) (λ i' σ J=>∃ (y1 y7 y8 y9 y10:Option V),σ=[some (.ref a),y1,some (.ref l),some (.ref g0),some (.ref lp),some (.ref kt),some (.ref lo),y7,y8,y9,y10]/\Same J9 J) ⟨_,_,_,_,_,rfl,Same.refl _⟩ (λ i' σ J _ h=>?_) (λ i' x σ J hx h=>?_) (λ σ J h=>?_)
 ·obtain⟨y1,y7,y8,y9,y10,rfl,sm⟩:=h
  exact SqL.of (sm _ _ hls2)
 ·obtain⟨y1,y7,y8,y9,y10,rfl,sm⟩:=h
  have xm:=List.mem_of_mem_take (ua2 hx)
  obtain⟨v,hv,rfl⟩:=ubx.mp xm
  obtain⟨jj,hjj,rfl⟩:=ubx.mp (pm.mem_iff.mp hv)
  have jl:=uaq.mp hjj
  have eat:atI (natV O) (jj:Int)=some (.int ((O[jj]:Nat):Int)):=zat (uav _) (by rw[uao];unfold natV;rw[uaj,uad jl];rfl)
  have hkl:O[jj]<ts.length:=zdz (ks:=clK n ts ls) (by rw[← eO];exact udb jl)
  refine⟨_,rfl,_,rfl,_,rfl,_,rfl,_,rfl,lo,_,_,_,rfl,rfl,SqL.of (sm _ _ hlo9),eat,n,ts,ls,_,lp,kt,O[jj],rfl,Is.same sm _ isw9,ok,⟨Is.same sm _ lvk9.1,lvk9.2⟩,sm _ _ e9,hkl,λ J10 S10=>⟨_,rfl,iteF ⟨_,_,_,_,_,rfl,sm.trans S10⟩⟩⟩
 ·obtain⟨y1,y7,y8,y9,y10,rfl,sm⟩:=h
  have pJ:=p9.same sm
  have iswJ:=Is.same sm _ isw9
  obtain⟨_,gg2,wz2,e0,hg0J,_,_,_⟩:=zaz iswJ
  cases e0
  refine⟨_,rfl,_,rfl,g0,_,_,_,rfl,rfl,SqT.of hg0J,rfl,l,n,rfl,pJ,by left,by left,λ pl J10 pl0 pl1 b10 p10=>?_⟩
  have tk10:=tkb b10 pJ
  have isw10:=Is.tk tk10 _ tup iswJ
  have lvk10:Lv K J10 n.toNat ls (.ref lp):=⟨Is.tk tk10 _ tupL (Is.same sm _ lvk9.1),lvk9.2⟩
  have e10:=tk10 _ _ (sm _ _ e9)
  refine⟨_,rfl,_,rfl,_,rfl,n,ts,ls,_,.ref lp,pl,rfl,isw10,ok,lvk10,pl0,pl1,λ tb yb D' J11 S11 fD e11 ib=>⟨tb,rfl,⟨_,SqT.of e11⟩,?_⟩⟩
  have pln:pl.toNat<n.toNat:=by left
  rw[zfi ok fD,zfn] at ib
  have S411:But l H1 J11:=b2.trans (b3.trans (b4.trans ((Same.but S47).trans (b8.trans ((Same.but (S9.trans sm)).trans (b10.trans (Same.but S11)))))))
  refine zfg (xs:=yb) (λ i' σ J=>∃ (y1 y7 y9 y10:Option V),σ=[some (.ref a),y1,some (.ref l),some (.ref g0),some (.ref lp),some (.ref kt),some (.ref lo),y7,some (.int pl),y9,y10]/\Same J11 J) ⟨_,_,_,_,rfl,Same.refl _⟩ (λ i' σ J' _ h=>?_) (λ i' x σ J' hx h=>?_) (λ σ J' h=>?_)
  ·obtain⟨y1,y7,y9,y10,rfl,s12⟩:=h
   exact SqT.of (s12 _ _ e11)
  ·obtain⟨y1,y7,y9,y10,rfl,s12⟩:=h
   obtain⟨dd,hd,ix⟩:=ib.get' hx
   rw[uaj] at hd
   obtain⟨w',hw',rfl⟩:=uba.mp hd
   have wb:w'∈bnL n.toNat ts ls pl.toNat:=ua2 hw'
   have wn:=(bnL_mem.mp wb).1
   obtain⟨tc,us,rfl,htc,hus⟩:=ix
   rw[IsAll.of_ints hus] at htc
   have S1112:=S11.trans s12
   refine⟨tc,_,rfl,SqT.of (s12 _ _ htc),rfl,_,_,rfl,_,_,rfl,rfl,?_⟩
   refine⟨_,rfl,_,rfl,_,rfl,_,rfl,n,ts,clK n ts ls,_,.ref kt,(w':Int),pl,rfl,⟨Is.same S1112 _ isw10,ok,zb3 (S1112 _ _ e10),zch n ts ls⟩,by left,by left,pl0,pl1,λ o1 J13 S13 h1=>?_⟩
   rw[uao] at h1
   have eo1:=h1.unique (zht ok pln wb)
   subst eo1
   refine⟨_,rfl,rfl,_,rfl,?_⟩
   have eg:dq ts w' pl.toNat=(Far.get (dFC n.toNat ts pl.toNat) w').getD 0:=by
    rw[show Far.get (dFC n.toNat ts pl.toNat) w'=dvC ts pl.toNat w' from getC wn]
    unfold dq
    rw[zbu ok]
   refine iteFe ?_ ⟨_,_,_,_,rfl,s12.trans S13⟩
   show (!decide (V.int (dq ts w' pl.toNat)=V.int ((Far.get (dFC n.toNat ts pl.toNat) w').getD 0)))=false
   rw[eg,decide_eq_true rfl];rfl
  ·obtain⟨y1,y7,y9,y10,rfl,s12⟩:=h
   refine⟨_,_,_,_,_,_,_,_,_,_,rfl,λ b' o e=>?_⟩
   have nb:=zak e fl0
   exact s12 _ _ (S411 _ _ nb (s01 _ _ e))
end
end Me
namespace Me
open PySem PySem.Spec PyProof.Rows L2 L3
abbrev Bdq (x:Str)(st:Stmt)(ps:List Str):Prop:=∀ (kV doc pm:Value)(an:Option Addr)(cdv ct:Value)(us:List Value),us.length=ps.length->bindArgs (uc8 x x (defArgs st) (defBody st) (defScope st) .none kV doc pm an cdv ct) ⟨us,[]⟩=pure (ps.zip us)
theorem zuq {K:uac}{h:Heap}{mg:Str->Option Value}{x:Str}{st:Stmt}{ps:List Str}{f:Addr}{od an:Option Addr}{sl:Array (Option Value)}{oc kV dc pm cd ct:Value}(X:K.In h)(G:h.Ns mainGlobals mg)
  (b:∀ (kV doc pm:Value)(an:Option Addr)(cdv ct:Value)(us:List Value),us.length=ps.length->bindArgs (uc8 x x (defArgs st) (defBody st) (defScope st) .none kV doc pm an cdv ct) ⟨us,[]⟩=pure (ps.zip us))
  (a:ubk K mainGlobals x=some (some (.ref f))) (l:K.lookup f=some ⟨oc,od,.func (uc8 x x (defArgs st) (defBody st) (defScope st) .none kV dc pm an cd ct),sl⟩) (c:uei K cd x=true) (k:ud8 K (.ref f)=true):DefOk K mg x st ps:=by
 have F:=zsd (st:=st) l c k
 exact⟨f,_,F,F.binds b,PySem.W.mg_of X G a⟩
theorem dq {p:Program}{K:uac}{h:Heap}{mg:Str->Option Value}{x:Str}{st:Stmt}{ps:List Str}(f c j u:Nat)(X:K.In h)(G:h.Ns mainGlobals mg)
  (b:∀ (kV doc pm:Value)(an:Option Addr)(cdv ct:Value)(us:List Value),us.length=ps.length->bindArgs (uc8 x x (defArgs st) (defBody st) (defScope st) .none kV doc pm an cdv ct) ⟨us,[]⟩=pure (ps.zip us))
  (a:ubk K mainGlobals x=some (some (.ref f)):=by kernel_rfl) (l:K.lookup f=some ⟨.type "function",none,.func (uc8 x x (defArgs st) (defBody st) (defScope st) .none .none .none (Hx.mdV p ⟨0,0,0,j,u,0⟩) none (.ref c) .none),#[]⟩:=by kernel_rfl) (cc:uei K (.ref c) x=true:=by kernel_rfl) (k:ud8 K (.ref f)=true:=by kernel_rfl):DefOk K mg x st ps:=zuq X G b a l cc k
theorem zlb:Bdq "is_whole" s_is_whole ["thing"]:=by ac_rfl
theorem zjx:Bdq "is_rising" s_is_rising ["parts"]:=by ac_rfl
theorem zgi:Bdq "is_tuple_of" s_is_tuple_of ["thing","many"]:=by ac_rfl
theorem zlc:Bdq "is_place" s_is_place ["web","thing"]:=by ac_rfl
theorem zr2:Bdq "whole" s_whole ["web"]:=by ac_rfl
theorem zgc:Bdq "tie_between" s_tie_between ["web","a","b"]:=by ac_rfl
theorem zc4:Bdq "are_unlike_places" s_are_unlike_places ["web","thing"]:=by ac_rfl
theorem zib:Bdq "ties_along" s_ties_along ["web","places"]:=by ac_rfl
theorem zh9:Bdq "way_length" s_way_length ["web","way"]:=by ac_rfl
theorem zgb:Bdq "tie_weights" s_tie_weights ["web"]:=by ac_rfl
theorem zjz:Bdq "cost_with" s_cost_with ["cost","length","weight"]:=by ac_rfl
theorem zfo:Bdq "reached_from" s_reached_from ["web","keep","root"]:=by ac_rfl
theorem zjy:Bdq "fars_from" s_fars_from ["web","keep","root"]:=by ac_rfl
theorem zuy:Bdq "far" s_far ["web","keep","a","b"]:=by ac_rfl
theorem zju:Bdq "tree_from" s_tree_from ["web","keep","root"]:=by ac_rfl
theorem zm7:Bdq "the_way" s_the_way ["web","keep","a","b"]:=by ac_rfl
theorem zgg:Bdq "led_to_root" s_led_to_root ["web","keep","tree","root","place"]:=by ac_rfl
theorem zld:Bdq "is_level" s_is_level ["web","thing"]:=by ac_rfl
theorem zge:Bdq "lies_within" s_lies_within ["level","ahead"]:=by ac_rfl
theorem zij:Bdq "are_levels" s_are_levels ["web","thing"]:=by ac_rfl
theorem zgd:Bdq "need_levels" s_need_levels ["web","levels"]:=by ac_rfl
theorem zp2:Bdq "top_of" s_top_of ["levels","place"]:=by ac_rfl
theorem zie:Bdq "nearest_of" s_nearest_of ["levels","number","fars"]:=by ac_rfl
theorem zig:Bdq "is_bunched" s_is_bunched ["levels","fars","w"]:=by ac_rfl
theorem zk9:Bdq "pivot_by" s_pivot_by ["levels","i","fars"]:=by ac_rfl
theorem zk8:Bdq "web_fars" s_web_fars ["web","place"]:=by ac_rfl
theorem zr4:Bdq "bunch" s_bunch ["web","levels","v"]:=by ac_rfl
theorem zr3:Bdq "climb" s_climb ["web","levels","u","v"]:=by ac_rfl
theorem zfp:Bdq "heights_from" s_heights_from ["web","keep","a","roof"]:=by ac_rfl
theorem zjt:Bdq "tree_ties" s_tree_ties ["web","tree"]:=by ac_rfl
theorem zid:Bdq "need_times" s_need_times ["t"]:=by ac_rfl
theorem zla:Bdq "not_kept" s_not_kept ["web","keep"]:=by ac_rfl
theorem zp1:Bdq "way_of" s_way_of ["web","keep","tie"]:=by ac_rfl
theorem zjv:Bdq "is_within" s_is_within ["web","tie","t","way"]:=by ac_rfl
theorem zih:Bdq "heights_of" s_heights_of ["web","keep","tie","t"]:=by ac_rfl
theorem zia:Bdq "times_told" s_times_told ["web","keep","t"]:=by ac_rfl
theorem zgj:Bdq "common_part" s_common_part ["one","other"]:=by ac_rfl
theorem zgh:Bdq "least_ratio" s_least_ratio ["web","keep"]:=by ac_rfl
theorem zii:Bdq "bunches_of" s_bunches_of ["web","levels"]:=by ac_rfl
theorem zfq:Bdq "cluster_tree" s_cluster_tree ["web","bunches","w"]:=by ac_rfl
theorem zei:Bdq "cluster_trees" s_cluster_trees ["web","bunches"]:=by ac_rfl
theorem zeh:Bdq "ties_of_trees" s_ties_of_trees ["web","trees"]:=by ac_rfl
theorem zif:Bdq "level_keep" s_level_keep ["web","levels"]:=by ac_rfl
theorem zj0:Bdq "best_side" s_best_side ["web","bunches","tie"]:=by ac_rfl
theorem zgf:Bdq "level_paper" s_level_paper ["web","levels"]:=by ac_rfl
theorem zjw:Bdq "is_rooted" s_is_rooted ["web","pair"]:=by ac_rfl
theorem zic:Bdq "side_right" s_side_right ["web","keep","t","trees","tie","side"]:=by ac_rfl
theorem zga:Bdq "trees_right" s_trees_right ["web","keep","t","paper"]:=by ac_rfl
theorem zlf:Bdq "_law_pot" s__law_pot ["script","k"]:=by ac_rfl
theorem zj2:Bdq "_law_take" s__law_take ["pot","many"]:=by ac_rfl
theorem zgl:Bdq "_law_length" s__law_length ["pot","way"]:=by ac_rfl
theorem zj1:Bdq "_law_tied" s__law_tied ["pot","n","style","a","b"]:=by ac_rfl
theorem zik:Bdq "_law_order" s__law_order ["pot","many"]:=by ac_rfl
theorem zle:Bdq "_law_web" s__law_web ["pot","most"]:=by ac_rfl
theorem zgk:Bdq "_law_levels" s__law_levels ["pot","n"]:=by ac_rfl
theorem zj3:Bdq "_law_most" s__law_most ["pot","k"]:=by ac_rfl
theorem zea:Bdq "_law_tie_right" s__law_tie_right ["web","levels","keep","number"]:=by ac_rfl
theorem zdu:Bdq "_law_kept_right" s__law_kept_right ["web","levels","keep"]:=by ac_rfl
theorem ztg {P:Program}{w:World}{K:uac}{mg:Str->Option Value}{base:Heap}{f:Addr}{fd:FuncData}(T:Bi mg)
  (D_is_whole:DefOk K mg "is_whole" s_is_whole ["thing"])
  (D_is_rising:DefOk K mg "is_rising" s_is_rising ["parts"])
  (D_is_tuple_of:DefOk K mg "is_tuple_of" s_is_tuple_of ["thing","many"])
  (D_is_place:DefOk K mg "is_place" s_is_place ["web","thing"])
  (D_whole:DefOk K mg "whole" s_whole ["web"])
  (D_tie_between:DefOk K mg "tie_between" s_tie_between ["web","a","b"])
  (D_are_unlike_places:DefOk K mg "are_unlike_places" s_are_unlike_places ["web","thing"])
  (D_ties_along:DefOk K mg "ties_along" s_ties_along ["web","places"])
  (D_way_length:DefOk K mg "way_length" s_way_length ["web","way"])
  (D_tie_weights:DefOk K mg "tie_weights" s_tie_weights ["web"])
  (D_cost_with:DefOk K mg "cost_with" s_cost_with ["cost","length","weight"])
  (D_reached_from:DefOk K mg "reached_from" s_reached_from ["web","keep","root"])
  (D_fars_from:DefOk K mg "fars_from" s_fars_from ["web","keep","root"])
  (D_far:DefOk K mg "far" s_far ["web","keep","a","b"])
  (D_tree_from:DefOk K mg "tree_from" s_tree_from ["web","keep","root"])
  (D_the_way:DefOk K mg "the_way" s_the_way ["web","keep","a","b"])
  (D_led_to_root:DefOk K mg "led_to_root" s_led_to_root ["web","keep","tree","root","place"])
  (D_is_level:DefOk K mg "is_level" s_is_level ["web","thing"])
  (D_lies_within:DefOk K mg "lies_within" s_lies_within ["level","ahead"])
  (D_are_levels:DefOk K mg "are_levels" s_are_levels ["web","thing"])
  (D_need_levels:DefOk K mg "need_levels" s_need_levels ["web","levels"])
  (D_top_of:DefOk K mg "top_of" s_top_of ["levels","place"])
  (D_nearest_of:DefOk K mg "nearest_of" s_nearest_of ["levels","number","fars"])
  (D_is_bunched:DefOk K mg "is_bunched" s_is_bunched ["levels","fars","w"])
  (D_pivot_by:DefOk K mg "pivot_by" s_pivot_by ["levels","i","fars"])
  (D_web_fars:DefOk K mg "web_fars" s_web_fars ["web","place"])
  (D_bunch:DefOk K mg "bunch" s_bunch ["web","levels","v"])
  (D_climb:DefOk K mg "climb" s_climb ["web","levels","u","v"])
  (D_heights_from:DefOk K mg "heights_from" s_heights_from ["web","keep","a","roof"])
  (D_tree_ties:DefOk K mg "tree_ties" s_tree_ties ["web","tree"])
  (D_need_times:DefOk K mg "need_times" s_need_times ["t"])
  (D_not_kept:DefOk K mg "not_kept" s_not_kept ["web","keep"])
  (D_way_of:DefOk K mg "way_of" s_way_of ["web","keep","tie"])
  (D_is_within:DefOk K mg "is_within" s_is_within ["web","tie","t","way"])
  (D_heights_of:DefOk K mg "heights_of" s_heights_of ["web","keep","tie","t"])
  (D_times_told:DefOk K mg "times_told" s_times_told ["web","keep","t"])
  (D_common_part:DefOk K mg "common_part" s_common_part ["one","other"])
  (D_least_ratio:DefOk K mg "least_ratio" s_least_ratio ["web","keep"])
  (D_bunches_of:DefOk K mg "bunches_of" s_bunches_of ["web","levels"])
  (D_cluster_tree:DefOk K mg "cluster_tree" s_cluster_tree ["web","bunches","w"])
  (D_cluster_trees:DefOk K mg "cluster_trees" s_cluster_trees ["web","bunches"])
  (D_ties_of_trees:DefOk K mg "ties_of_trees" s_ties_of_trees ["web","trees"])
  (D_level_keep:DefOk K mg "level_keep" s_level_keep ["web","levels"])
  (D_best_side:DefOk K mg "best_side" s_best_side ["web","bunches","tie"])
  (D_level_paper:DefOk K mg "level_paper" s_level_paper ["web","levels"])
  (D_is_rooted:DefOk K mg "is_rooted" s_is_rooted ["web","pair"])
  (D_side_right:DefOk K mg "side_right" s_side_right ["web","keep","t","trees","tie","side"])
  (D_trees_right:DefOk K mg "trees_right" s_trees_right ["web","keep","t","paper"])
  (D__law_pot:DefOk K mg "_law_pot" s__law_pot ["script","k"])
  (D__law_take:DefOk K mg "_law_take" s__law_take ["pot","many"])
  (D__law_length:DefOk K mg "_law_length" s__law_length ["pot","way"])
  (D__law_tied:DefOk K mg "_law_tied" s__law_tied ["pot","n","style","a","b"])
  (D__law_order:DefOk K mg "_law_order" s__law_order ["pot","many"])
  (D__law_web:DefOk K mg "_law_web" s__law_web ["pot","most"])
  (D__law_levels:DefOk K mg "_law_levels" s__law_levels ["pot","n"])
  (D__law_most:DefOk K mg "_law_most" s__law_most ["pot","k"])
  (D__law_tie_right:DefOk K mg "_law_tie_right" s__law_tie_right ["web","levels","keep","number"])
  (D__law_kept_right:DefOk K mg "_law_kept_right" s__law_kept_right ["web","levels","keep"])
  (F:Fun K "law" "law" s_law f fd):FnOk P w K mg base CX0 11 f fd ["script"] (spLaw K):=by
 have O__law_take:=zi6 (P:=P) (w:=w) (base:=base) T D__law_take
 have O__law_pot:=zkr (P:=P) (w:=w) (base:=base) T D__law_pot
 have O__law_length:=zf5 T D__law_length O__law_take
 have O__law_tied:=zi5 T D__law_tied O__law_take
 have O__law_order:=zho T D__law_order O__law_take
 have O__law_web:=zkq T D__law_web (O__law_take.mono (by decide)) O__law_order O__law_tied O__law_length
 have O_tie_weights:=zfw (P:=P) (w:=w) (base:=base) T D_tie_weights
 have O_cost_with:=zi3 (P:=P) (w:=w) (base:=base) T D_cost_with
 have O_reached_fromC:=zee T D_reached_from O_tie_weights O_cost_with
 have O_reached_from:‹2› "reached_from" ["web","keep","root"] (spReached K):=O_reached_fromC.imp znv
 have O_reached_fromB:‹2› "reached_from" ["web","keep","root"] (spReachedB K):=O_reached_fromC.imp znw
 have O_tree_from:=zhe T D_tree_from O_reached_fromB
 have O_tie_between:=zfx (P:=P) (w:=w) (base:=base) T D_tie_between
 have O_fars_from:=zi2 T D_fars_from O_reached_from
 have O_is_whole:=zkn (P:=P) (w:=w) (base:=base) T D_is_whole
 have O_is_place:=zko T D_is_place O_is_whole
 have O_are_unlike_places:=zc2 T D_are_unlike_places O_is_place
 have O_is_rising:=zd0 (P:=P) (w:=w) (base:=base) T D_is_rising
 have O_is_level:=zkp T D_is_level O_are_unlike_places (O_is_rising.mono (by decide))
 have O_lies_within:=zfz (P:=P) (w:=w) (K:=K) (base:=base) T D_lies_within
 have O_are_levels:=zhn T D_are_levels O_is_level (O_lies_within.mono (by decide))
 have O_need_levels:=zfy T D_need_levels O_are_levels
 have O_top_of:=zog (P:=P) (w:=w) (base:=base) T D_top_of
 have O_nearest_of:=zhi (P:=P) (w:=w) (base:=base) T D_nearest_of
 have O_is_bunched:=zhl T D_is_bunched O_nearest_of O_top_of
 have O_whole:=zq3 (P:=P) (w:=w) (base:=base) T D_whole
 have O_web_fars:=zki T D_web_fars (O_whole.mono (by decide)) O_fars_from
 have O_bunch:=zq6 T D_bunch O_need_levels (O_web_fars.mono (by decide)) (O_is_bunched.mono (by decide))
 have O__law_levels:=zf4 T D__law_levels O__law_take
 have O_tree_ties:=zhd T D_tree_ties O_tie_between
 have O_bunches_of:=zhm T D_bunches_of O_bunch
 have O_cluster_tree:=ze4 T D_cluster_tree O_tree_from (O_whole.mono (by decide))
 have O_cluster_trees:=zef T D_cluster_trees O_cluster_tree
 have O_ties_of_trees:=zed T D_ties_of_trees (O_tree_ties.mono (by decide))
 have O_level_keep:=zhj T D_level_keep (O_ties_of_trees.mono (by decide)) (O_cluster_trees.mono (by decide)) O_bunches_of
 have O_ties_along:=zhf T D_ties_along O_tie_between
 have O_way_length:=zhc T D_way_length O_ties_along
 have O_need_times:=zhh T D_need_times O_is_whole
 have O_not_kept:=zkm T D_not_kept O_whole
 have O_is_tuple_of:=ze1 (P:=P) (w:=w) (K:=K) (base:=base) T D_is_tuple_of
 have O_is_placeO:=zi1 T D_is_place O_is_whole
 have O_is_risingL:=zhk (P:=P) (w:=w) (K:=K) (base:=base) T D_is_rising
 have O_best_side:=zi4 (P:=P) (w:=w) (K:=K) (base:=base) T D_best_side
 have O_level_paper:=zf0 T D_level_paper O_bunches_of (O_cluster_trees.mono (by decide)) (O_not_kept.mono (by decide)) (O_ties_of_trees.mono (by decide)) (O_best_side.mono (by decide))
 have O_led:=zq4 T D_led_to_root O_is_placeO (O_tie_between.mono (by decide))
 have O_side_right:=zhg T D_side_right (O_is_whole.mono (by decide)) O_led O_way_length
 have O_is_rooted:=zi0 T D_is_rooted (O_is_tuple_of.mono (by decide)) O_is_placeO
 have O_trees_right:=zfv T D_trees_right (O_need_times.mono (by decide)) (O_is_tuple_of.mono (by decide)) (O_is_rooted.mono (by decide)) (O_not_kept.mono (by decide)) (O_is_risingL.mono (by decide)) O_side_right
 have O_far:=zue T D_far O_fars_from
 have O_heights_from:=ze3 T D_heights_from O_fars_from
 have O_the_wayB:=zkk T D_the_way O_tree_from
 have O_the_way:‹4› "the_way" ["web","keep","a","b"] (spWayM K):=O_the_wayB.imp zu1
 have O_is_within:=ziz T D_is_within O_way_length
 have O_way_of:=zkj T D_way_of O_the_way
 have O_heights_of:=ze2 T D_heights_of O_heights_from
 have O_times_told:=ze0 T D_times_told (O_need_times.mono (by decide)) (O_not_kept.mono (by decide)) O_way_of (O_is_within.mono (by decide)) O_heights_of
 have O_common_part:=zf2 (P:=P) (w:=w) (base:=base) T D_common_part
 have O_least_ratio:=zf1 T D_least_ratio (O_not_kept.mono (by decide)) O_far (O_common_part.mono (by decide))
 have O_pivot_by:=zkl T D_pivot_by O_top_of
 have O_climb:=zq5 T D_climb O_need_levels (O_web_fars.mono (by decide)) (O_is_bunched.mono (by decide)) (O_top_of.mono (by decide)) (O_pivot_by.mono (by decide))
 have O__law_most:=zf3 T D__law_most O__law_take
 have O__law_kept_right:=zc3 T D__law_kept_right (O_least_ratio.mono (by decide)) (O_trees_right.mono (by decide)) O_level_paper (O_times_told.mono (by decide))
 have O__law_tie_right:=zdb T D__law_tie_right (O_climb.mono (by decide)) (O_far.mono (by decide)) (O_bunch.mono (by decide))
 exact zud T F (O__law_pot.mono (by decide)) (O__law_take.mono (by decide)) (O__law_most.mono (by decide)) (O__law_web.mono (by decide)) (O__law_levels.mono (by decide)) (O__law_order.mono (by decide)) (O_level_keep.mono (by decide)) O__law_kept_right O__law_tie_right (O_bunch.mono (by decide)) (O_far.mono (by decide))
theorem walk {l:PySem.W.OpenLaw}{q:Program}{loose:List Str}{XP:(Str->Option Value)->Heap->Prop}{YP:World->Heap->Prop}{d:DefRec}{K:Params->uac}(hn:l.most=some 63)(hdf:d.params.defaults=[])
  (hY:∀ (w:World)(h:Heap),YP w h->(K w.params).In h)
  (F:∀ (w:World)(mg:Str->Option Value)(fa:Addr)(h:Heap),(K w.params).In h->h.Ns mainGlobals mg->mg d.name=some (.ref fa) ->
   ∃ fd:FuncData,(∀ (s:Shared)(u:Value),BindsTo s fd ⟨[u],[]⟩ [("script",u)])/\∀ base:Heap,(K w.params).In base->base.Ns mainGlobals mg->FnOk l.prog w (K w.params) mg base CX0 11 fa fd ["script"] (spLaw (K w.params))) :
  PySem.W.WalkO q loose XP YP l.row.toRowW d [] (λ f vs=>PySem.call f vs) :=
 L2.zsm (n:=63) (k:=11) (x:="script") (CX:=λ _=>CX0) (sp:=λ w=>spLaw (K w.params)) hn (by decide) hdf ⟨rfl,by decide,by decide,rfl⟩ hY F (λ _ _ a ns hl _ hS=>⟨a,ns,rfl,hS,hl,λ _=>rfl⟩) λ _ _ _ _ _ z=>z
end Me
namespace Hy
open PySem PySem.W Hx
def cs:List Ch:=[⟨0,15,187,0,187,0⟩,⟨1,15,189,0,187,0⟩,⟨2,22,196,0,187,0⟩,⟨3,27,202,0,187,0⟩,⟨4,34,210,4,210,0⟩,⟨5,34,212,4,210,0⟩,⟨6,47,230,4,210,43⟩,⟨7,59,246,4,210,43⟩,⟨8,71,262,8,262,0⟩,⟨9,71,264,8,262,0⟩,⟨10,78,272,8,262,0⟩,⟨11,85,279,8,262,0⟩,⟨12,92,291,12,291,0⟩,⟨13,92,293,12,291,0⟩,⟨14,97,299,12,291,0⟩,⟨15,102,305,12,291,0⟩,⟨16,107,311,12,291,0⟩,⟨17,114,321,12,291,0⟩,⟨18,121,330,12,291,0⟩,⟨19,128,350,12,291,0⟩,⟨20,133,356,12,291,0⟩,⟨21,140,366,12,291,0⟩,⟨22,147,377,12,291,0⟩,⟨23,154,389,12,291,0⟩,⟨24,161,402,24,402,0⟩,⟨25,161,404,24,402,0⟩,⟨26,168,412,24,402,0⟩,⟨27,173,418,24,402,0⟩,⟨28,178,424,24,402,0⟩,⟨29,185,432,24,402,0⟩,⟨30,190,438,24,402,0⟩,⟨31,195,444,24,402,0⟩,⟨32,202,454,24,402,0⟩,⟨33,207,460,24,402,0⟩,⟨34,214,468,24,402,0⟩,⟨35,219,474,24,402,0⟩,⟨36,226,491,36,491,0⟩,⟨37,226,493,36,491,0⟩,⟨38,231,499,38,499,0⟩,⟨39,231,501,38,499,0⟩,⟨40,236,507,40,507,0⟩,⟨41,236,509,40,507,0⟩,⟨42,243,516,40,507,0⟩,⟨43,248,522,40,507,0⟩,⟨44,255,534,40,507,0⟩,⟨45,262,544,40,507,0⟩,⟨46,269,557,40,507,0⟩,⟨47,276,569,40,507,0⟩,⟨48,283,578,40,507,0⟩,⟨49,290,594,49,594,0⟩,⟨50,290,596,49,594,0⟩,⟨51,295,602,49,594,0⟩,⟨52,300,608,49,594,0⟩,⟨53,305,614,49,594,0⟩,⟨54,312,625,49,594,0⟩,⟨55,319,633,49,594,0⟩,⟨56,324,639,49,594,0⟩,⟨57,329,645,49,594,0⟩,⟨58,334,651,49,594,0⟩,⟨59,341,668,49,594,0⟩,⟨60,346,674,60,674,0⟩,⟨61,346,676,60,674,0⟩,⟨62,353,686,60,674,0⟩,⟨63,360,695,60,674,0⟩,⟨64,367,703,60,674,0⟩,⟨65,374,715,60,674,0⟩,⟨66,381,726,60,674,0⟩,⟨67,388,743,60,674,0⟩,⟨68,393,749,60,674,0⟩,⟨69,400,757,60,674,0⟩,⟨70,407,776,60,674,0⟩,⟨71,414,787,60,674,0⟩]
end Hy
lay_quick Hx.PieceT Hx.PreT Hx.BlockT Hx.LookA Hx.LookB Hx.LookC PySem.Challenge.pw_thinways_k97_whole_levels_of_times
namespace Hy
open PySem PySem.W Hx
theorem pre:PreT uaa boots boot_drawn boot_heap boot_toks cs ⟨0,15,187⟩:=by
 rw[PySem.W.Fast.te16428918119715843241,PySem.W.Fast.te12025752977721530341];delta PySem.W.Fast.tw16428918119715843241;intro w;kernel_rfl
theorem pc0:PieceT uaa boots boot_drawn cs ⟨0,15,187⟩ ⟨6,47,230⟩ 290:=by
 rw[PySem.W.Fast.te4643275101561185336,PySem.W.Fast.te12025752977721530341];delta PySem.W.Fast.tw4643275101561185336;intro w;kernel_rfl
theorem pc1:PieceT uaa boots boot_drawn cs ⟨6,47,230⟩ ⟨7,59,246⟩ 214:=by
 rw[PySem.W.Fast.te4643275101561185336,PySem.W.Fast.te12025752977721530341];delta PySem.W.Fast.tw4643275101561185336;intro w;kernel_rfl
theorem pc2:PieceT uaa boots boot_drawn cs ⟨7,59,246⟩ ⟨15,102,305⟩ 377:=by
 rw[PySem.W.Fast.te4643275101561185336,PySem.W.Fast.te12025752977721530341];delta PySem.W.Fast.tw4643275101561185336;intro w;kernel_rfl
theorem pc3:PieceT uaa boots boot_drawn cs ⟨15,102,305⟩ ⟨28,178,424⟩ 383:=by
 rw[PySem.W.Fast.te4643275101561185336,PySem.W.Fast.te12025752977721530341];delta PySem.W.Fast.tw4643275101561185336;intro w;kernel_rfl
theorem pc4:PieceT uaa boots boot_drawn cs ⟨28,178,424⟩ ⟨43,248,522⟩ 370:=by
 rw[PySem.W.Fast.te4643275101561185336,PySem.W.Fast.te12025752977721530341];delta PySem.W.Fast.tw4643275101561185336;intro w;kernel_rfl
theorem pc5:PieceT uaa boots boot_drawn cs ⟨43,248,522⟩ ⟨56,324,639⟩ 381:=by
 rw[PySem.W.Fast.te4643275101561185336,PySem.W.Fast.te12025752977721530341];delta PySem.W.Fast.tw4643275101561185336;intro w;kernel_rfl
theorem pc6:PieceT uaa boots boot_drawn cs ⟨56,324,639⟩ ⟨69,400,757⟩ 382:=by
 rw[PySem.W.Fast.te4643275101561185336,PySem.W.Fast.te12025752977721530341];delta PySem.W.Fast.tw4643275101561185336;intro w;kernel_rfl
theorem pc7:PieceT uaa boots boot_drawn cs ⟨69,400,757⟩ ⟨72,419,793⟩ 101:=by
 rw[PySem.W.Fast.te4643275101561185336,PySem.W.Fast.te12025752977721530341];delta PySem.W.Fast.tw4643275101561185336;intro w;kernel_rfl
theorem blk:BlockT uaa :=by
 rw[PySem.W.Fast.te421534021395069552,PySem.W.Fast.te12025752977721530341];delta PySem.W.Fast.tw421534021395069552;intro w s;kernel_rfl
theorem run (w:World)(os:OsState):topRun treeTable uaa w 11 ann0 (12+(1+(290+(214+(377+(383+(370+(381+(382+(101+2)))))))))) ⟨boot_heap w.params,ueu [],boot_drawn,boot_toks,os⟩ (topStub uaa)=some (stT uaa boots boot_drawn cs ⟨72,419,793⟩ w os).abs:=zs1 pre blk (chain pc0 (by decide) (chain pc1 (by decide) (chain pc2 (by decide) (chain pc3 (by decide) (chain pc4 (by decide) (chain pc5 (by decide) (chain pc6 (by decide) (chain pc7 (by decide) (zpo (by kernel_rfl))))))))))
theorem size (w:World):((boot_heap w.params).isNs mainGlobals&&(ueu []:Array GenState).size==0,(boot_heap w.params).objs.size,(boot_heap w.params).nsMap mainGlobals "__annotations__")=(true,11,ann0):=by kernel_rfl
theorem lkA:LookA uaa boots boot_drawn boot_heap cs ⟨72,419,793⟩:=by
 rw[PySem.W.Fast.te7818774390570169022,PySem.W.Fast.te12025752977721530341];delta PySem.W.Fast.tw7818774390570169022;intro w;kernel_rfl
theorem lkB:LookB uaa boots boot_drawn cs ⟨72,419,793⟩ [71] (OpenRow.toRowW (uaz).row).records:=by
 rw[PySem.W.Fast.te13889730532244352606,PySem.W.Fast.te12025752977721530341];delta PySem.W.Fast.tw13889730532244352606;intro w;kernel_rfl
theorem lkC:LookC uaa boots cs ⟨72,419,793⟩ [3,20,21,25,26,32,33,42,43,55,56,67,68,76,77,83,84,90,91,95,96,100,101,105,106,112,113,119,120,126,127,131,132,138,139,145,146,152,153,159,160,166,167,171,172,176,177,183,184,188,189,193,194,200,201,205,206,212,213,217,218,224,225,229,230,234,235,241,242,246,247,253,254,260,261,267,268,274,275,281,282,288,289,293,294,298,299,303,304,310,311,317,318,322,323,327,328,332,333,339,340,344,345,351,352,358,359,365,366,372,373,379,380,386,387,391,392,398,399,405,406,412,413,417,418]:=by
 rw[PySem.W.Fast.te6241646928739474683,PySem.W.Fast.te12025752977721530341];delta PySem.W.Fast.tw6241646928739474683;intro w;kernel_rfl
noncomputable abbrev K:=Kf uaa boots cs
theorem Kas (P:Params):[3,20,21,25,26,32,33,42,43,55,56,67,68,76,77,83,84,90,91,95,96,100,101,105,106,112,113,119,120,126,127,131,132,138,139,145,146,152,153,159,160,166,167,171,172,176,177,183,184,188,189,193,194,200,201,205,206,212,213,217,218,224,225,229,230,234,235,241,242,246,247,253,254,260,261,267,268,274,275,281,282,288,289,293,294,298,299,303,304,310,311,317,318,322,323,327,328,332,333,339,340,344,345,351,352,358,359,365,366,372,373,379,380,386,387,391,392,398,399,405,406,412,413,417,418]=(K P).map (·.1):=by kernel_rfl
noncomputable abbrev H:Hook:=kHook K [3,20,21,25,26,32,33,42,43,55,56,67,68,76,77,83,84,90,91,95,96,100,101,105,106,112,113,119,120,126,127,131,132,138,139,145,146,152,153,159,160,166,167,171,172,176,177,183,184,188,189,193,194,200,201,205,206,212,213,217,218,224,225,229,230,234,235,241,242,246,247,253,254,260,261,267,268,274,275,281,282,288,289,293,294,298,299,303,304,310,311,317,318,322,323,327,328,332,333,339,340,344,345,351,352,358,359,365,366,372,373,379,380,386,387,391,392,398,399,405,406,412,413,417,418] Kas
theorem opn:opening uaa=plainProg (uaa).main.scope.names:=by kernel_rfl
theorem fnc (s:Shared):fenceModules? uaa s=some s:=by kernel_rfl
theorem left:LeftO uaa (qv uaa [71]) (lz uaa [71] 72) (λ s=>xlAt (qv uaa [71]) [] s&&recOk (OpenRow.toRowW (uaz).row).records s) (Hook.obs H) (Hook.val H) 5626 :=
 zte (p:=uaa) (cs:=cs) (is:=[71]) (as:=[3,20,21,25,26,32,33,42,43,55,56,67,68,76,77,83,84,90,91,95,96,100,101,105,106,112,113,119,120,126,127,131,132,138,139,145,146,152,153,159,160,166,167,171,172,176,177,183,184,188,189,193,194,200,201,205,206,212,213,217,218,224,225,229,230,234,235,241,242,246,247,253,254,260,261,267,268,274,275,281,282,288,289,293,294,298,299,303,304,310,311,317,318,322,323,327,328,332,333,339,340,344,345,351,352,358,359,365,366,372,373,379,380,386,387,391,392,398,399,405,406,412,413,417,418]) (rc:=(OpenRow.toRowW (uaz).row).records) (c:=⟨72,419,793⟩) (M:=12+(1+(290+(214+(377+(383+(370+(381+(382+(101+2)))))))))) (N:=5626) (e:=Kas) opn (by decide) fnc size run (by decide) lkA lkB lkC
end Hy
namespace Hy
open PySem PySem.W PyProof.Rows L2 L3 Hx Me
theorem all {w:World}{h:Heap}{mg:Str->Option Value}{fa:Addr}(X:(K w.params).In h)(G:h.Ns mainGlobals mg)(hfa:mg "law"=some (.ref fa)) :
  ∃ fd:FuncData,(∀ (s:Shared)(v:Value),BindsTo s fd ⟨[v],[]⟩ [("script",v)])/\∀ base:Heap,(K w.params).In base->base.Ns mainGlobals mg->FnOk (uaz).prog w (K w.params) mg base CX0 11 fa fd ["script"] (spLaw (K w.params)):=by
 have T:Bi mg:=⟨ua5 X G (show ubk (K w.params) mainGlobals "len"=some none by kernel_rfl),ua5 X G (show ubk (K w.params) mainGlobals "range"=some none by kernel_rfl),ua5 X G (show ubk (K w.params) mainGlobals "zip"=some none by kernel_rfl),ua5 X G (show ubk (K w.params) mainGlobals "all"=some none by kernel_rfl),ua5 X G (show ubk (K w.params) mainGlobals "sorted"=some none by kernel_rfl),ua5 X G (show ubk (K w.params) mainGlobals "isinstance"=some none by kernel_rfl),ua5 X G (show ubk (K w.params) mainGlobals "min"=some none by kernel_rfl),ua5 X G (show ubk (K w.params) mainGlobals "max"=some none by kernel_rfl),ua5 X G (show ubk (K w.params) mainGlobals "tuple"=some none by kernel_rfl),ua5 X G (show ubk (K w.params) mainGlobals "list"=some none by kernel_rfl),ua5 X G (show ubk (K w.params) mainGlobals "int"=some none by kernel_rfl),ua5 X G (show ubk (K w.params) mainGlobals "bool"=some none by kernel_rfl),ua5 X G (show ubk (K w.params) mainGlobals "str"=some none by kernel_rfl),ua5 X G (show ubk (K w.params) mainGlobals "enumerate"=some none by kernel_rfl),ua5 X G (show ubk (K w.params) mainGlobals "sum"=some none by kernel_rfl),ua5 X G (show ubk (K w.params) mainGlobals "abs"=some none by kernel_rfl),ua5 X G (show ubk (K w.params) mainGlobals "set"=some none by kernel_rfl),ua5 X G (show ubk (K w.params) mainGlobals "reversed"=some none by kernel_rfl),ua5 X G (show ubk (K w.params) mainGlobals "any"=some none by kernel_rfl),ua5 X G (show ubk (K w.params) mainGlobals "repr"=some none by kernel_rfl),ua5 X G (show ubk (K w.params) mainGlobals "dict"=some none by kernel_rfl)⟩
 have D_is_whole:=dq (p:=uaa) (ps:=["thing"]) 21 20 0 187 X G zlb
 have D_is_rising:=dq (p:=uaa) (ps:=["parts"]) 26 25 0 187 X G zjx
 have D_is_tuple_of:=dq (p:=uaa) (ps:=["thing","many"]) 33 32 0 187 X G zgi
 have D_is_place:=dq (p:=uaa) (ps:=["web","thing"]) 77 76 8 262 X G zlc
 have D_whole:=dq (p:=uaa) (ps:=["web"]) 84 83 8 262 X G zr2
 have D_tie_between:=dq (p:=uaa) (ps:=["web","a","b"]) 91 90 8 262 X G zgc
 have D_are_unlike_places:=dq (p:=uaa) (ps:=["web","thing"]) 96 95 12 291 X G zc4
 have D_ties_along:=dq (p:=uaa) (ps:=["web","places"]) 101 100 12 291 X G zib
 have D_way_length:=dq (p:=uaa) (ps:=["web","way"]) 106 105 12 291 X G zh9
 have D_tie_weights:=dq (p:=uaa) (ps:=["web"]) 113 112 12 291 X G zgb
 have D_cost_with:=dq (p:=uaa) (ps:=["cost","length","weight"]) 120 119 12 291 X G zjz
 have D_reached_from:=dq (p:=uaa) (ps:=["web","keep","root"]) 127 126 12 291 X G zfo
 have D_fars_from:=dq (p:=uaa) (ps:=["web","keep","root"]) 132 131 12 291 X G zjy
 have D_far:=dq (p:=uaa) (ps:=["web","keep","a","b"]) 139 138 12 291 X G zuy
 have D_tree_from:=dq (p:=uaa) (ps:=["web","keep","root"]) 146 145 12 291 X G zju
 have D_the_way:=dq (p:=uaa) (ps:=["web","keep","a","b"]) 153 152 12 291 X G zm7
 have D_led_to_root:=dq (p:=uaa) (ps:=["web","keep","tree","root","place"]) 160 159 12 291 X G zgg
 have D_is_level:=dq (p:=uaa) (ps:=["web","thing"]) 167 166 24 402 X G zld
 have D_lies_within:=dq (p:=uaa) (ps:=["level","ahead"]) 172 171 24 402 X G zge
 have D_are_levels:=dq (p:=uaa) (ps:=["web","thing"]) 177 176 24 402 X G zij
 have D_need_levels:=dq (p:=uaa) (ps:=["web","levels"]) 184 183 24 402 X G zgd
 have D_top_of:=dq (p:=uaa) (ps:=["levels","place"]) 189 188 24 402 X G zp2
 have D_nearest_of:=dq (p:=uaa) (ps:=["levels","number","fars"]) 194 193 24 402 X G zie
 have D_is_bunched:=dq (p:=uaa) (ps:=["levels","fars","w"]) 201 200 24 402 X G zig
 have D_pivot_by:=dq (p:=uaa) (ps:=["levels","i","fars"]) 206 205 24 402 X G zk9
 have D_web_fars:=dq (p:=uaa) (ps:=["web","place"]) 213 212 24 402 X G zk8
 have D_bunch:=dq (p:=uaa) (ps:=["web","levels","v"]) 218 217 24 402 X G zr4
 have D_climb:=dq (p:=uaa) (ps:=["web","levels","u","v"]) 225 224 24 402 X G zr3
 have D_heights_from:=dq (p:=uaa) (ps:=["web","keep","a","roof"]) 230 229 36 491 X G zfp
 have D_tree_ties:=dq (p:=uaa) (ps:=["web","tree"]) 235 234 38 499 X G zjt
 have D_need_times:=dq (p:=uaa) (ps:=["t"]) 242 241 40 507 X G zid
 have D_not_kept:=dq (p:=uaa) (ps:=["web","keep"]) 247 246 40 507 X G zla
 have D_way_of:=dq (p:=uaa) (ps:=["web","keep","tie"]) 254 253 40 507 X G zp1
 have D_is_within:=dq (p:=uaa) (ps:=["web","tie","t","way"]) 261 260 40 507 X G zjv
 have D_heights_of:=dq (p:=uaa) (ps:=["web","keep","tie","t"]) 268 267 40 507 X G zih
 have D_times_told:=dq (p:=uaa) (ps:=["web","keep","t"]) 275 274 40 507 X G zia
 have D_common_part:=dq (p:=uaa) (ps:=["one","other"]) 282 281 40 507 X G zgj
 have D_least_ratio:=dq (p:=uaa) (ps:=["web","keep"]) 289 288 40 507 X G zgh
 have D_bunches_of:=dq (p:=uaa) (ps:=["web","levels"]) 294 293 49 594 X G zii
 have D_cluster_tree:=dq (p:=uaa) (ps:=["web","bunches","w"]) 299 298 49 594 X G zfq
 have D_cluster_trees:=dq (p:=uaa) (ps:=["web","bunches"]) 304 303 49 594 X G zei
 have D_ties_of_trees:=dq (p:=uaa) (ps:=["web","trees"]) 311 310 49 594 X G zeh
 have D_level_keep:=dq (p:=uaa) (ps:=["web","levels"]) 318 317 49 594 X G zif
 have D_best_side:=dq (p:=uaa) (ps:=["web","bunches","tie"]) 323 322 49 594 X G zj0
 have D_level_paper:=dq (p:=uaa) (ps:=["web","levels"]) 328 327 49 594 X G zgf
 have D_is_rooted:=dq (p:=uaa) (ps:=["web","pair"]) 333 332 49 594 X G zjw
 have D_side_right:=dq (p:=uaa) (ps:=["web","keep","t","trees","tie","side"]) 340 339 49 594 X G zic
 have D_trees_right:=dq (p:=uaa) (ps:=["web","keep","t","paper"]) 345 344 49 594 X G zga
 have D__law_pot:=dq (p:=uaa) (ps:=["script","k"]) 352 351 60 674 X G zlf
 have D__law_take:=dq (p:=uaa) (ps:=["pot","many"]) 359 358 60 674 X G zj2
 have D__law_length:=dq (p:=uaa) (ps:=["pot","way"]) 366 365 60 674 X G zgl
 have D__law_tied:=dq (p:=uaa) (ps:=["pot","n","style","a","b"]) 373 372 60 674 X G zj1
 have D__law_order:=dq (p:=uaa) (ps:=["pot","many"]) 380 379 60 674 X G zik
 have D__law_web:=dq (p:=uaa) (ps:=["pot","most"]) 387 386 60 674 X G zle
 have D__law_levels:=dq (p:=uaa) (ps:=["pot","n"]) 392 391 60 674 X G zgk
 have D__law_most:=dq (p:=uaa) (ps:=["pot","k"]) 399 398 60 674 X G zj3
 have D__law_tie_right:=dq (p:=uaa) (ps:=["web","levels","keep","number"]) 406 405 60 674 X G zea
 have D__law_kept_right:=dq (p:=uaa) (ps:=["web","levels","keep"]) 413 412 60 674 X G zdu
 have e:=hfa.symm.trans (PySem.W.mg_of X G (show ubk (K w.params) mainGlobals "law"=some (some (.ref 418)) by kernel_rfl))
 cases e
 have F:=zsd (x:="law") (qual:="law") (st:=s_law) (K:=K w.params) (f:=418) (oc:=.type "function") (od:=none) (an:=none) (osl:=#[]) (kV:=.none) (doc:=.none) (pm:=Hx.mdV uaa ⟨0,0,0,60,674,0⟩) (cdv:=.ref 417) (ct:=.none) (by kernel_rfl) (by kernel_rfl) (by kernel_rfl)
 exact⟨_,λ s v=>.of_eq rfl,λ base _ _=>ztg (P:=(uaz).prog) (w:=w) (base:=base) T D_is_whole D_is_rising D_is_tuple_of D_is_place D_whole D_tie_between D_are_unlike_places D_ties_along D_way_length D_tie_weights D_cost_with D_reached_from D_fars_from D_far D_tree_from D_the_way D_led_to_root D_is_level D_lies_within D_are_levels D_need_levels D_top_of D_nearest_of D_is_bunched D_pivot_by D_web_fars D_bunch D_climb D_heights_from D_tree_ties D_need_times D_not_kept D_way_of D_is_within D_heights_of D_times_told D_common_part D_least_ratio D_bunches_of D_cluster_tree D_cluster_trees D_ties_of_trees D_level_keep D_best_side D_level_paper D_is_rooted D_side_right D_trees_right D__law_pot D__law_take D__law_length D__law_tied D__law_order D__law_web D__law_levels D__law_most D__law_tie_right D__law_kept_right F⟩
end Hy
open PySem PySem.W PyProof.Rows
set_option maxRecDepth 100000 in
set_option maxHeartbeats 0 in
theorem PySem.Challenge.cw_thinways_k97_whole_levels_of_times_holds : PySem.Challenge.rw_thinways_k97_whole_levels_of_times.Holds := by
 w_on;o_law
 refine holds_open (q:=(Hx.qv PySem.Challenge.pw_thinways_k97_whole_levels_of_times [71])) (loose:=Hx.lz PySem.Challenge.pw_thinways_k97_whole_levels_of_times [71] 72) (Xt:=λ s=>xlAt (Hx.qv PySem.Challenge.pw_thinways_k97_whole_levels_of_times [71]) [] s&&recOk (OpenRow.toRowW (PySem.Challenge.rw_thinways_k97_whole_levels_of_times).row).records s) (XP:=XL (Hx.qv PySem.Challenge.pw_thinways_k97_whole_levels_of_times [71]) []) (Yf:=Hook.obs Hy.H) (Ya:=Hook.val Hy.H) (YP:=Hook.says Hy.H) (N:=5626) Hy.left (Hook.of Hy.H) (Hook.keeps Hy.H) (λ s e=>xl_of s (Bool.and_eq_true_iff.mp e).1) XL.keeps (by rfl) (by rfl) (by rfl) (λ s e=>recFacts_of (Bool.and_eq_true_iff.mp e).2) (by rfl) (by first | assumption | decide +kernel) (by symm) ⟨rfl,rfl,rfl,rfl,rfl,by symm⟩ ?hw ?hc
 case hw=>w_witness2
 case hc =>
  refine Me.walk (l:=PySem.Challenge.rw_thinways_k97_whole_levels_of_times) rfl rfl (λ w h Y=>PySem.W.kIn_of Y) λ w mg fa h KX G hmg=>Hy.all KX G hmg
