import PyProof.Rows.All
import Wide.All
import OpenK.AllK
import Wide.FinOn
import Lean
import PyProof.EqAt
import PyProof.EqKinds
import PyProof.TupleCall
import KE.KSortTup
import PyProof.ZipIter
import PyProof.TupleIter
import PyProof.WalksMore
import PyProof.Rows.TupIter
import PyProof.EnumIter
import PyProof.EnumFor
import PyProof.EnumStmt
import PyProof.ReprRoads
import PyProof.Rows.SeqMore
import PyProof.ListMulRoad
import PyProof.FactsAll.tuple_2
import PyProof.FactsAll.tuple_3
import PyProof.Rows.Tup
import PyProof.ListRange
import PyProof.TupleOfSeq
import PyProof.SumAny
import PyProof.ConsumeS
import PyProof.Rows.CallKwBuiltin
import KE.KLam
import KE.KSortKey
import PyProof.AutoSeq1
import KE.KListMore
import PyProof.FactsAll.subtypes_4
import PyProof.SetRoads
import PyProof.Rows.SetFrom
import PyProof.WalkInts
import PyProof.DictDisplay
import KE.KDictOf
import PyProof.AttrMissSeq
import PyProof.DictWalks
import PyProof.RaisesMany
import PyProof.RulesAs
import PyProof.ExcClass3
import KE.KIsAll
import KE.KTryMore
import PyProof.ExcArgsOwn
import PyProof.ExcBaseAll.ValueError
import PySem.Challenge.RW_thinways_k64_levels_refused
set_option Elab.async false
set_option linter.all false
set_option maxRecDepth 100000
def ug3:=@decide_eq_true
def ug4:=@of_decide_eq_true
def ug5:=@decide_eq_false
def ug6:=@of_decide_eq_false
def ug7:=@if_pos
def ug8:=@if_neg
open PySem.Challenge renaming pw_thinways_k64_levels_refused→a7, rw_thinways_k64_levels_refused→v9
open PySem renaming wpAny_bind→a8, wpAny_pure→c8, Value→c9, Shared→d8, wpAny→j7, Addr→j8, mainGlobals→m9, Program→n0, sizeLine→o7, model→p9, PyData→r8, wpAny_newObj_type→v8, wpAny_field→uab, wpAny_holding→uae, wpAny_callSpecial?_slot→uaf, Around→uaj, World→uak, wpAny_call_entry→uar, starEach→uav, codeAny_builtin→uaz, wpAny_seqItems→ua3, wpAny_mono→ua9, wpAny_truthy_bool→ubl, wpAny_setField→ubm, wpAny_setField_rec→ubp, plainId_quiet→ubq, Expr→uby, mem_of_lookup→ucf, wpAny_tryCatch→ucj, wpAny_pyIter_list→uck, sizeLine_eq→ucm, wpAny_attempt→ucq, wpAny_letGo→ucu, wpAny_updateSeq→uc1, wpAny_rule→uc2, wpAny_loadPart'→uc3, wpAny_typeOf→uc5, Stmt→uc9, wpAny_passesOwn→ude, codeAny_mono→udf, wpAny_setState_of→udh, wpAny_askSetting→udl, wpAny_setEntries_of→udq, call_meets→udr, wpAny_standAt→udx, wpAny_newList→udy, wpAny_execs_nil→udz, wpAny_Call_Name_kw→ud0, wpAny_isInstance→ud6, codeAny_call_builtin→ud9, wpAny_ite_split→uef, wpAny_pyIter_tuple→uem, wpAny_binaryOp_repeat_ref→ueo, wpAny_sequenceKey→ues, typeIs_int→uet, wpAny_onRaise→ue0, Scope→ue1, builtinLookup_eq_fast→ufb, wpAny_call→ufd, wpAny_updateSeq_pair→ufg, wpAny_runValue→ufk, wpAny_fieldsOf→ufl, isSubtype_stop→ufm, wpAny_of_eq→ufq, weight_type_call_type→uf2, fits_of_scanBound→ugb, wpAny_execs_cons→ugq, noFill_tuple_add→ugr, check_set_init_1→ugy
open PySem.Heap renaming get?_push_of_some→a9, get?_push_size→i7, lt_size→i9, get?_update_other→j0, get?_update_self→uag, size_push→uaq, size_after_update→uax, get?_none_of_le→ucr, ExtBut→ufa
open PySem.W renaming Frag→b9, nsIn→r9, mg_none_of→v7, mg_of→ube, kia_one→ubo, fnOf→ucl, keepIn→udc, kitOne→uds, codeIn→ud7, methodObj→ufc, instObj→ufr, lookIn→uf3, kitAny→uf4, findIn→uf5, cellsFrom_some→ugk
open List renaming getElem?_eq_getElem→c7, range→d7, getD_eq_getElem?_getD→f9, length_map→i5, length_append→i8, mem_cons_self→j3, mem_cons→j4, size_toArray→j5, getElem?_eq_some_iff→j6, length_singleton→k9, getElem?_map→l7, mem_singleton→l8, mem_cons_of_mem→l9, replicate→m5, not_mem_nil→m7, length_drop→o6, mem_range→o9, mem_append_right→r6, length_range→t5, mem_append→w8, getElem?_eq_none→x9, length_take→uac, Nodup→uan, mem_of_getElem?→uap, all_eq_true→uas, getElem?_append_right→uat, mem_filter→ua0, length_replicate→ua1, filterMap_cons→ua2, map_map→ua5, filterMap_append→ua6, map_cons→ua8, range_succ→uba, getElem?_append_left→ubd, mem_append_left→ubg, take_of_length_le→ubj, pairwise_lt_range→ubr, length_cons→ubs, getElem_mem→ubt, mem_map→ubx, pairwise_cons→ub0, nodup_cons→ub1, map_append→ub2, length_set→ub3, lookup_cons→ub4, pairwise_iff_getElem→ub5, getD→uca, pairwise_append→ucb, length_eq_zero_iff→ucc, pairwise_map→uce, find?_cons→uch, any_eq_true→ucn, mem_filterMap→uco, all_map→ucp, ext_getElem?→ucs, append_nil→uct, replicate_succ→ucx, map_congr_left→ucy, getElem_of_mem→ucz, getElem?_range→uc0, eq_nil_of_length_eq_zero→uc4, getElem?_set_self→uc7, perm_cons_erase→udd, length_reverse→udi, length_pos_iff→udj, length_nil→udm, getElem?_replicate→udn, getElem?_drop→udo, reverse_cons→udv, flatten_cons→udw, getElem?_set_ne→ud4, map_drop→ud5, zip_cons_cons→uec, filterMap_map→ued, drop_eq_getElem_cons→uee, append_assoc→uei, map_take→uen, ext_getElem→uep, countP_cons→ueq, drop_eq_nil_of_le→uer, mem_of_mem_erase→uex, getElem?_toArray→uey, countP_mono_left→uez, mem_of_mem_drop→ue6, drop_zero→ue8, map_filterMap→ufe, nodup_append→ufo, foldl→ufp, toArray→ufv, take_length→ufy, mem_flatMap→ufz, filter_cons→uf0, of_mem_zip→uf9, forIn_cons→uga, length_eraseIdx_of_lt→ugi, length_filterMap_le→ugw, filterMap_cons_some→ugx, pairwise_singleton→ug0, any_cons→ug1, all_cons→ug2
open Nat renaming le_refl→i6, ne_of_lt→l6, lt_of_lt_of_le→o0, le_trans→o8, zero_le→x8, lt_irrefl→uay, lt_succ_of_lt→ubf, ne_of_gt→ubh, le_of_eq→ubi, lt_of_le_of_lt→ubn, lt_succ_self→ubu, le_succ→ubv, lt_or_ge→ucw, le_add_right→ud3, not_lt_zero→ud8, lt_trans→ue2, le_of_lt→ue3, add_comm→ue4, lt_or_eq_of_le→ufi, lt_trichotomy→ufu, succ_le_succ→uf8, strongRecOn→ugh
open Bool renaming false_ne_true→j9, and_eq_true→uaa, eq_false_iff→uaw, false_eq_true→ua4, eq_iff_iff→uci, true_and→udb, or_eq_true→udp, false_and→ud1, and_false→ue9
open PySem.Str renaming ofString→v4
open Int renaming toNat_natCast→v5, natCast_nonneg→uad, toNat_of_nonneg→uao, le_refl→uau, emod_lt_of_pos→uc8, emod_nonneg→uda, add_right_comm→ufj, le_trans→uf1
open Or renaming inl→v6, inr→ufn
open PyProof.Rows renaming slot_tuple_getitem→z9, callWith_type1→ucv
open PySem.F renaming plain_min_loop→uah, plainAttrs_list→uai, called_set→uam, type_list_extend→ub6, type_list_append→ub7, slot_list_extend→ub8, slot_list_append→ub9, entry_min_loop→ucd, slot_tuple_iterator_next→udg, plain_list_iadd→udk, slot_int_rmul→udu, slot_enumerate_next→ud2, args_tuple_add_2→ueb, entry_tuple_add→ueg, slot_tuple_getattribute→uej, slot_tuple_add→uek, slot_tuple_mul→uew, slot_zip_next→ue7, plain_proto_collect→ufs, entry_proto_collect→uft, excAttr_ValueError→ufx, args_int_rmul_2→uf7, slot_int_index→ugc, entry_type_call→ugd, entry_list_iadd→uge, entry_int_rmul→ugf, typeCall_set_1→ugm, entry_set_init→ugn, args_tuple_iterator_next_1→ugo, slot_set_iter→ugs, plain_set_new→ugt, fills_int_mul→ugu, entry_tuple_iterator_next→ugv
open Array renaming getElem?_eq_some_iff→ual, length_toList→ua7, getElem?_eq_getElem→ubb, getElem?_toList→ubw, getD_eq_getD_getElem?→ucg, find?_toList→uea, mk→uel, mem_toList_iff→ue5, getD→ugp
open Option renaming map_eq_some_iff→ubc, isSome_iff_exists→ugg
open Option.some renaming inj→ubk
open PySem.Heap.SameBut renaming update→ubz, refl→ugl
open PyProof.Rows.F renaming plain_set_update_loop→uc6, entry_set_update_loop→ueh
open PySem.PyData renaming int→udt, depth→ufh, depthAll→ufw, tuple→ugz
open List.Pairwise renaming nil→ueu, map→uev, imp_of_mem→uff
open PySem.Heap.IsSliceOf renaming new→uf6
open List.Perm renaming append_left→ugj
local macro_rules | `(tactic| ac_rfl) => `(tactic| first | exact (fun _ _ _ _ _ _ us hl => match us, hl with | [_], _ => rfl) | exact (fun _ _ _ _ _ _ us hl => match us, hl with | [_, _], _ => rfl) | exact (fun _ _ _ _ _ _ us hl => match us, hl with | [_, _, _], _ => rfl) | exact (fun _ _ _ _ _ _ us hl => match us, hl with | [_, _, _, _], _ => rfl) | exact (fun _ _ _ _ _ _ us hl => match us, hl with | [_, _, _, _, _], _ => rfl) | exact (fun _ _ _ _ _ _ us hl => match us, hl with | [_, _, _, _, _, _], _ => rfl) | exact (fun _ _ _ _ _ _ us hl => match us, hl with | [_, _, _, _, _, _, _], _ => rfl))
local macro_rules | `(tactic| left) => `(tactic| first | lia | omega)
local macro_rules | `(tactic| symm) => `(tactic| decide +kernel)
local macro_rules | `(tactic| right) => `(tactic| exact ⟨rfl, rfl, rfl, by decide +kernel, rfl, by decide +kernel, by decide +kernel⟩)
set_option hygiene false
local macro_rules | `(⟨$a,*⟩) => do let u : Lean.TSyntax `term ← `(_); let r : Lean.TSyntax `term ← `(rfl); if a.getElems.any (fun x => x.raw.getId == `A || x.raw.getId == `E || x.raw.getId == `K || x.raw.getId == `M || x.raw.getId == `P || x.raw.getId == `V || x.raw.getId == `X || x.raw.getId == `Y || x.raw.getId == `Z) then (let b : Array (Lean.TSyntax `term) := a.getElems.foldl (fun o x => if x.raw.getId == `A then o ++ #[u, r] else if x.raw.getId == `E then o ++ #[u, r, r] else if x.raw.getId == `K then o ++ #[u, r, u, r] else if x.raw.getId == `M then o ++ #[u, u, r, r] else if x.raw.getId == `P then o ++ #[r, r] else if x.raw.getId == `V then o ++ #[u, u] else if x.raw.getId == `X then o ++ #[r, u, r] else if x.raw.getId == `Y then o ++ #[u, u, u, r, r] else if x.raw.getId == `Z then o ++ #[r, u] else  o ++ #[x]) #[]; `(⟨$[$b],*⟩)) else Lean.Macro.throwUnsupported
set_option hygiene true
namespace L2
open PySem PySem.Spec PyProof.Rows
abbrev Key:=Sum Int Str
def keyIs:Key->c9->Bool
 | .inl k,v=>Value.isInt k v
 | .inr x,v=>Value.isStrOf x v
def keyH (w:uak):Key->Int
 | .inl k=>hashInt k
 | .inr x=>hashStr w x
theorem cR:∀ {k:Key}{v:c9},keyIs k v=true->(∃ i t,k=Sum.inl i/\v=Value.int i t)\/(∃ x t,k=Sum.inr x/\v=Value.str x t)
 | .inl i,v,h=>by
  obtain⟨t,e⟩:=Value.isInt_shape (k:=i) (v:=v) h;exact .inl ⟨i,t,rfl,e⟩
 | .inr x,v,h=>by
  obtain⟨t,e⟩:=Value.isStrOf_shape (x:=x) (v:=v) h;exact .inr ⟨x,t,rfl,e⟩
theorem zM (i:Int)(t:Tok):keyIs (.inl i) (.int i t)=true:=by simp [keyIs,Value.isInt]
theorem zL (x:Str)(t:Tok):keyIs (.inr x) (.str x t)=true:=by simp [keyIs,Value.isStrOf]
theorem zev (a b:Int):decide ((Sum.inl a:Key)=Sum.inl b)=(a==b):=by
 by_cases e:a=b
 ·subst e;simp
 ·have h:¬ (Sum.inl a:Key)=Sum.inl b:=λ q=>e (Sum.inl.inj q);rw[ug5 h];exact (beq_eq_false_iff_ne.mpr e).symm
theorem zes (a b:Str):decide ((Sum.inr a:Key)=Sum.inr b)=decide (a=b):=by
 by_cases e:a=b
 ·subst e;simp
 ·have h:¬ (Sum.inr a:Key)=Sum.inr b:=λ q=>e (Sum.inr.inj q);rw[ug5 h,ug5 e]
theorem zeu (a:Int)(b:Str):decide ((Sum.inl a:Key)=Sum.inr b)=false:=ug5 (λ q=>nomatch q)
theorem zet (a:Str)(b:Int):decide ((Sum.inr a:Key)=Sum.inl b)=false:=ug5 (λ q=>nomatch q)
def mixKind (prog:n0)(w:uak):PySem.KeyKind prog w Key where
 is:=keyIs
 hash:=keyH w
 inj:=λ v a b ha hb=>by
  rcases cR ha with ⟨i,t,rfl,rfl⟩ | ⟨x,t,rfl,rfl⟩
  ·rcases cR hb with ⟨j,u,rfl,e⟩ | ⟨y,u,rfl,e⟩
   ·injection e with e1 _;rw[e1]
   ·exact nomatch e
  ·rcases cR hb with ⟨j,u,rfl,e⟩ | ⟨y,u,rfl,e⟩
   ·exact nomatch e
   ·injection e with e1 _;rw[e1]
 byValue:=λ k v h=>by
  rcases cR h with ⟨i,t,rfl,rfl⟩ | ⟨x,t,rfl,rfl⟩ <;> rfl
 pyHash:=λ hv h=>by
  rcases cR hv with ⟨i,t,rfl,rfl⟩ | ⟨x,t,rfl,rfl⟩
  ·exact wpAny_pyHash_int h
  ·exact wpAny_pyHash_str h
 eqBool:=λ hu hv h=>by
  rcases cR hu with ⟨i,t,rfl,rfl⟩ | ⟨x,t,rfl,rfl⟩
  ·rcases cR hv with ⟨j,u,rfl,rfl⟩ | ⟨y,u,rfl,rfl⟩
   ·rw[zev] at h;exact wpAny_eqBool_int h
   ·rw[zeu] at h;exact SeqAt.EqAt.int_str i t y u _ _ _ _ h
  ·rcases cR hv with ⟨j,u,rfl,rfl⟩ | ⟨y,u,rfl,rfl⟩
   ·rw[zet] at h;exact SeqAt.EqAt.str_int x t j u _ _ _ _ h
   ·rw[zes] at h;exact wpAny_eqBool_str h
 «strs»:=λ k x t v h=>by
  rcases cR h with ⟨i,u,rfl,e⟩ | ⟨y,u,rfl,e⟩
  ·exact nomatch e
  ·injection e with e1 _;subst e1;cases v <;> rfl
theorem xO (prog:n0)(w:uak)(k:Key)(v:c9):(mixKind prog w).is k v=keyIs k v:=rfl
theorem wK (prog:n0)(w:uak)(i:Int)(t:Tok):(mixKind prog w).is (.inl i) (.int i t)=true:=zM i t
theorem wJ (prog:n0)(w:uak)(x:Str)(t:Tok):(mixKind prog w).is (.inr x) (.str x t)=true:=zL x t
end L2
namespace L2
open PySem PySem.Spec PyProof.Rows
inductive V where
 | non | bl (b:Bool) | int (i:Int) | str (x:Str) | byt (b:Array UInt8) | flt (b:UInt64) | ref (a:j8) | ty (n:String)
 deriving DecidableEq
def RelV:V->c9->Prop
 | .non,u=>u=Value.none
 | .bl b,u=>u=Value.bool b
 | .int i,u=>∃ t,u=Value.int i t
 | .str x,u=>∃ t,u=Value.str x t
 | .byt b,u=>∃ t,u=Value.bytes b t
 | .flt b,u=>∃ t,u=Value.float b t
 | .ref a,u=>u=Value.ref a
 | .ty n,u=>u=Value.type n
abbrev Vals:List V->List c9->Prop:=Paired RelV
theorem Vals.length {xs:List V}{us:List c9}(r:Vals xs us):xs.length=us.length:=Paired.length r
theorem Vals.get:∀ {xs:List V}{us:List c9}{i:Nat}{x:V},Vals xs us->xs[i]?=some x->∃ u,us[i]?=some u/\RelV x u
 | _,_,_,_,.nil,e=>by simp at e
 | _,_,0,_,.cons r _,e=>by simp at e;subst e;exact⟨A,r⟩
 | _,_,i+1,x,.cons _ t,e=>by
  obtain⟨u,h1,h2⟩:=Vals.get (i:=i) (x:=x) t (by simpa using e);exact⟨u,by simpa using h1,h2⟩
theorem Vals.set {x:V}{u:c9}(r:RelV x u):∀ {xs:List V}{us:List c9}(i:Nat),Vals xs us->Vals (xs.set i x) (us.set i u)
 | _,_,_,.nil=>.nil
 | _,_,0,.cons _ t=>.cons r t
 | _,_,i+1,.cons q t=>.cons q (Vals.set r i t)
theorem Vals.append:∀ {xs ys:List V}{us ws:List c9},Vals xs us->Vals ys ws->Vals (xs++ys) (us++ws)
 | _,_,_,_,.nil,s=>s
 | _,_,_,_,.cons r t,s=>.cons r (Vals.append t s)
theorem Vals.take:∀ {xs:List V}{us:List c9}(n:Nat),Vals xs us->Vals (xs.take n) (us.take n)
 | _,_,0,_=>.nil
 | _,_,_+1,.nil=>.nil
 | _,_,n+1,.cons r t=>.cons r (Vals.take n t)
theorem Vals.drop:∀ {xs:List V}{us:List c9}(n:Nat),Vals xs us->Vals (xs.drop n) (us.drop n)
 | _,_,0,r=>r
 | _,_,_+1,.nil=>.nil
 | _,_,n+1,.cons _ t=>Vals.drop n t
def RelO:Option V->Option c9->Prop
 | some v,some u=>RelV v u
 | none,none=>True
 | _,_=>False
def KV {κ:Type}:List (κ × V)->List (κ × c9)->Prop:=Paired λ (p:κ × V) (q:κ × c9)=>p.1=q.1/\RelV p.2 q.2
def kV:Key->V
 | .inl i=>.int i
 | .inr x=>.str x
inductive HO where
  | lst (xs:List V)
  | tup (xs:List V)
  | dK (kvs:List (Key × V)) | dT (kvs:List (List Key × V))
  | set (S:Int->Bool) (n:Nat)
  | ins (C dx:j8) (fs:List (Str × V))
  | own (x:j8)
  | xd (fs:List (Str × V))
  | met (f x:j8)
  | rng (lo hi:Int)
  | frz (o:Obj) (u:HO)
  | tbl (ps:Array c9)
  | ext (φ:Heap->Prop)
abbrev Hp:=j8->Option HO
def upd (H:Hp)(a:j8)(o:HO):Hp:=λ b=>if b=a then some o else H b
theorem aM {H:Hp}{a:j8}{o:HO}:upd H a o a=some o:=by unfold upd;rw[ug7 rfl]
theorem aJ {H:Hp}{a b:j8}{o:HO}(h:b≠a):upd H a o b=H b:=by unfold upd;rw[ug8 h]
theorem aY {H:Hp}{a b:j8}{o:HO}(h:H a=some o)(h':H b=none):a≠b:=by
 intro e;subst e;rw[h] at h';cases h'
section
variable (P:n0)(w:uak)
def TupN (h:Heap)(a:j8)(items:Array c9):Prop:=∃ o,h.get? a=some o/\o.cls=.type "tuple"/\(∃ n,o.data=.seq items n)/\o.dict=none
theorem TupN.tup {h:Heap}{a:j8}{items:Array c9}(x:TupN h a items):IsTup h a items:=let ⟨o,e,c,d,_⟩:=x;⟨o,e,c,d⟩
theorem TupN.new (h:Heap)(items:Array c9):TupN (h.push { cls:=.type "tuple",data:=.seq items }) h.objs.size items:=⟨_,i7 _ rfl,rfl,⟨_,rfl⟩,rfl⟩
def ObjOk (H:Hp)(h:Heap)(a:j8):HO->Prop
 | .lst xs=>xs.length<=o7/\∃ (its:List c9)(n:Nat),Vals xs its/\h.get? a=some { cls:=.type "list",data:=.seq its.toArray n }
 | .tup xs=>xs.length<=o7/\∃ its:List c9,Vals xs its/\TupN h a its.toArray
 | .dK kvs=>kvs.length<=o7/\(a==sysModules)=false/\∃ vs,KV kvs vs/\h.DictOf (mixKind P w) a vs
 | .dT kvs => kvs.length <= o7 /\ (a==sysModules) = false /\ ∃ xs : List (List Key × j8 × c9),
     Paired (λ (p:List Key × V) (q:List Key × j8 × c9)=>p.1=q.1/\H q.2.1=some (.tup (p.1.map kV))/\RelV p.2 q.2.2) kvs xs /\
     ∃ o es ep,h.get? a=some o/\o.ExactDict/\o.data=.dict es ep/\es.toList=xs.map (entryOfKey (tupleKind (mixKind P w)))/\(xs.map (·.1)).Nodup
 | .set S n=>h.SetOf (intKind P w) a S n
 | .ins C dx fs => H dx = some (.own a) /\ fs.length <= 1000 /\ dx ≠ a /\ h.get? a = some (ufr C dx) /\
     ∃ mA,h.Ns1 dx mA/\(∀ f,RelO (fs.lookup f) (mA f))/\PySem.Within mA (fs.map (·.1))
 | .own _=>∃ o,h.get? a=some o
 | .xd fs=>∃ mA,h.Ns1 a mA/\∀ f,RelO (fs.lookup f) (mA f)
 | .rng lo hi=>∃ t u v,h.get? a=some { cls:=.type "range",data:=.fields #[.int lo t,.int hi u,.int 1 v] }
 | .frz o u=>h.get? a=some o/\ObjOk H h a u
 | .tbl ps=>h.get? a=some { cls:=.none,data:=.fields ps }
 | .met f x=>h.get? a=some (ufc (.ref f) (.ref x))
 | .ext φ=>φ h/\(∃ o,h.get? a=some o)/\∀ h1 h2:Heap,φ h1->(∀ o,h1.get? a=some o->h2.get? a=some o)->φ h2
def HOk (H:Hp)(h:Heap):Prop:=∀ a o,H a=some o->ObjOk P w H h a o
end
section
variable {P:n0}{w:uak}{H H':Hp}{h h':Heap}{a:j8}{o:HO}
theorem ObjOk.lt (x:ObjOk P w H h a o):a<h.objs.size:=by
 cases o with
 | lst xs=>obtain⟨_,_,_,_,e⟩:=x;exact i9 e
 | tup xs=>obtain⟨_,_,_,p⟩:=x;exact p.tup.lt
 | dK kvs=>obtain⟨_,_,_,_,o,_,_,e,_⟩:=x;exact i9 e
 | dT kvs=>obtain⟨_,_,_,_,o,_,_,e,_⟩:=x;exact i9 e
 | set S n=>obtain⟨o,_,_,_,e,_⟩:=x;exact i9 e
 | ins C dx fs=>obtain⟨_,_,_,e,_⟩:=x;exact i9 e
 | own y=>obtain⟨_,e⟩:=x;exact i9 e
 | xd fs=>obtain⟨_,⟨_,_,_,e,_⟩,_⟩:=x;exact i9 e
 | rng lo hi=>obtain⟨_,_,_,e⟩:=x;exact i9 e
 | frz ob u=>obtain⟨e,_⟩:=x;exact i9 e
 | tbl ps=>exact i9 (show h.get? a=some _ from x)
 | met f y=>exact i9 (show h.get? a=some _ from x)
 | ext φ=>obtain⟨_,⟨_,e⟩,_⟩:=x;exact i9 e
theorem Paired.mapP {α β:Type}{F G:α->β->Prop}:∀ {l₁:List α}{l₂:List β},Paired F l₁ l₂->(∀ a b,F a b->G a b)->Paired G l₁ l₂
 | _,_,.nil,_=>.nil
 | _,_,.cons r t,f=>.cons (f _ _ r) (Paired.mapP t f)
theorem ObjOk.stay (x:ObjOk P w H h a o)(k:∀ b u,(b=a\/H b=some (.own a))->h.get? b=some u->h'.get? b=some u)
  (ho:∀ b,H b=some (.own a)->H' b=some (.own a)) (ht:∀ b xs,H b=some (.tup xs)->H' b=some (.tup xs)):ObjOk P w H' h' a o:=by
 induction o with
 | lst xs=>obtain⟨z,its,n,r,e⟩:=x;exact⟨z,its,n,r,k _ _ (.inl rfl) e⟩
 | tup xs=>obtain⟨z,its,r,ob,e,c⟩:=x;exact⟨z,its,r,ob,k _ _ (.inl rfl) e,c⟩
 | dK kvs=>obtain⟨z,y,vs,r,ob,es,ep,e,c⟩:=x;exact⟨z,y,vs,r,ob,es,ep,k _ _ (.inl rfl) e,c⟩
 | dT kvs =>
  obtain⟨z,y,xs,r,ob,es,ep,e,c⟩:=x;exact⟨z,y,xs,Paired.mapP r λ p q z=>⟨z.1,ht _ _ z.2.1,z.2.2⟩,ob,es,ep,k _ _ (.inl rfl) e,c⟩
 | set S n=>obtain⟨ob,es,ep,t,e,c⟩:=x;exact⟨ob,es,ep,t,k _ _ (.inl rfl) e,c⟩
 | ins C dx fs =>
  obtain⟨d,z,ne,e,mA,⟨od,es,ep,e2,c⟩,r⟩:=x;exact⟨ho _ d,z,ne,k _ _ (.inl rfl) e,mA,⟨od,es,ep,k _ _ (.inr d) e2,c⟩,r⟩
 | own y=>obtain⟨ob,e⟩:=x;exact⟨ob,k _ _ (.inl rfl) e⟩
 | xd fs=>obtain⟨mA,⟨od,es,ep,e,c⟩,r⟩:=x;exact⟨mA,⟨od,es,ep,k _ _ (.inl rfl) e,c⟩,r⟩
 | rng lo hi=>obtain⟨t,u,v,e⟩:=x;exact⟨t,u,v,k _ _ (.inl rfl) e⟩
 | frz ob u ih=>obtain⟨e,q⟩:=x;exact⟨k _ _ (.inl rfl) e,ih q⟩
 | tbl ps =>
  have e:h.get? a=some { cls:=.none,data:=.fields ps }:=x;show h'.get? a=some { cls:=.none,data:=.fields ps };exact k a _ (.inl rfl) e
 | met f y =>
  have e:h.get? a=some (ufc (.ref f) (.ref y)):=x;show h'.get? a=some (ufc (.ref f) (.ref y));exact k a _ (.inl rfl) e
 | ext φ=>obtain⟨p,⟨o,e⟩,st⟩:=x;exact⟨st _ _ p λ o q=>k _ _ (.inl rfl) q,⟨o,k _ _ (.inl rfl) e⟩,st⟩
theorem HOk.lt (x:HOk P w H h)(e:H a=some o):a<h.objs.size:=(x a o e).lt
theorem HOk.fresh (x:HOk P w H h)(e:h.objs.size<=a):H a=none:=by
 cases q:H a with
 | none=>rfl
 | some u=>exact absurd (o0 (x.lt q) e) (uay _)
theorem HOk.kept (x:HOk P w H h)(k:∀ b u,h.get? b=some u->h'.get? b=some u):HOk P w H h':=λ a o e =>
 (x a o e).stay (λ b u _ q=>k b u q) (λ _ q=>q) λ _ _ q=>q
theorem HOk.laid (x:HOk P w H h)(k:∀ b u,h.get? b=some u->h'.get? b=some u)(hp:h.objs.size<=a)(new:ObjOk P w (upd H a o) h' a o):HOk P w (upd H a o) h':=λ b u e=>by
 have hn:=x.fresh hp;by_cases hb:b=a
 ·subst hb;rw[aM] at e;cases e;exact new
 ·rw[aJ hb] at e;exact (x b u e).stay (λ c v _ q=>k c v q) (λ c q=>by rw[aJ (aY q hn)];exact q) λ c xs q=>by rw[aJ (aY q hn)];exact q
end
def Rd (H:Hp)(a:j8)(u:HO):Prop:=H a=some u\/∃ o,H a=some (.frz o u)
theorem Rd.ok {P:n0}{w:uak}{H:Hp}{h:Heap}{a:j8}{u:HO}(r:Rd H a u)(x:HOk P w H h):ObjOk P w H h a u:=by
 rcases r with r | ⟨o,r⟩
 ·exact x a u r
 ·obtain⟨_,q⟩:=x a _ r;exact q
def Mut:Option HO->Prop
 | some (.lst _)=>True
 | some (.dK _)=>True
 | some (.dT _)=>True
 | some (.set _ _)=>True
 | some (.ins _ _ _)=>True
 | some (.ext _)=>True
 | _=>False
section
variable {P:n0}{w:uak}{H:Hp}{h h':Heap}{x e:j8}{o':HO}
theorem HOk.write (ok:HOk P w H h)(mu:Mut (H x))(he:e=x\/H e=some (.own x))(k:∀ b u,b≠e->h.get? b=some u->h'.get? b=some u)(heo:∃ u,h'.get? e=some u)
  (new:ObjOk P w (upd H x o') h' x o'):HOk P w (upd H x o') h':=λ b u q=>by
 have nown:∀ c y,H c=some (.own y)->c≠x:=λ c y r z=>by subst z;rw[r] at mu;exact mu
 have ntup:∀ c xs,H c=some (.tup xs)->c≠x:=λ c xs r z=>by subst z;rw[r] at mu;exact mu
 by_cases hb:b=x
 ·subst hb;rw[aM] at q;cases q;exact new
 ·rw[aJ hb] at q;by_cases hbe:b=e
  ·have q':H b=some (.own x):=by
    rcases he with z | z
    ·exact absurd (hbe.trans z) hb
    ·rw[hbe];exact z
   rw[q] at q';cases q';obtain⟨v,hv⟩:=heo;exact⟨v,by rw[hbe];exact hv⟩
  ·refine (ok b u q).stay (λ c v hc r=>k c v ?_ r) (λ c r=>by rw[aJ (nown c b r)];exact r) λ c xs r=>by rw[aJ (ntup c xs r)];exact r
   rcases hc with rfl | hc
   ·exact hbe
   ·rintro rfl;rcases he with z | z
    ·exact nown c b hc z
    ·rw[hc] at z;cases z;exact hb rfl
end
structure Un (fs ex:List j8)(H H':Hp)(h h':Heap):Prop where
 keep:∀ b o,h.get? b=some o->H b=none->b∉fs->b∉ex->h'.get? b=some o
 slot:∀ b o,h.get? b=some o->H b=none->b∈fs->b∉ex->∃ sl,h'.get? b=some { o with slots:=sl }
 free:∀ b o,h.get? b=some o->H b=none->b∉ex->H' b=none
 there:∀ b o,h.get? b=some o->b∉ex->∃ o',h'.get? b=some o'
 tups:∀ b xs,H b=some (.tup xs)->H' b=some (.tup xs)
 frzs:∀ b o u,H b=some (.frz o u)->H' b=some (.frz o u)
 tbls:∀ b ps,H b=some (.tbl ps)->∃ more,H' b=some (.tbl (ps++more))
section
variable {fs fs' ex ex':List j8}{H H1 H2:Hp}{h h1 h2 h':Heap}{a x e:j8}{o:HO}
theorem Un.any (u:Un fs ex H H1 h h1){b:j8}{ob:Obj}(q:h.get? b=some ob)(n:H b=none)(hx:b∉ex):∃ sl,h1.get? b=some { ob with slots:=sl }:=by
 by_cases hb:b∈fs
 ·exact u.slot b ob q n hb hx
 ·exact⟨ob.slots,u.keep b ob q n hb hx⟩
theorem Un.trans (a:Un fs ex H H1 h h1)(b:Un fs ex H1 H2 h1 h2):Un fs ex H H2 h h2 where
 keep:=λ c ob q n hc hx=>b.keep c ob (a.keep c ob q n hc hx) (a.free c ob q n hx) hc hx
 slot:=λ c ob q n hc hx=>by
  obtain⟨sl,e1⟩:=a.slot c ob q n hc hx;obtain⟨sl',e2⟩:=b.slot c _ e1 (a.free c ob q n hx) hc hx;exact⟨sl',e2⟩
 free:=λ c ob q n hx=>by
  obtain⟨o',e1⟩:=a.there c ob q hx;exact b.free c o' e1 (a.free c ob q n hx) hx
 there:=λ c ob q hx=>by
  obtain⟨o',e1⟩:=a.there c ob q hx;exact b.there c o' e1 hx
 tups:=λ c xs q=>b.tups c xs (a.tups c xs q)
 frzs:=λ c ob xs q=>b.frzs c ob xs (a.frzs c ob xs q)
 tbls:=λ c ps q=>by
  obtain⟨m1,e1⟩:=a.tbls c ps q;obtain⟨m2,e2⟩:=b.tbls c _ e1;exact⟨m1++m2,by rw[e2,Array.append_assoc]⟩
theorem Un.kept (k:∀ b u,h.get? b=some u->h'.get? b=some u):Un fs ex H H h h' :=
 ⟨λ b ob q _ _ _=>k b ob q,λ b ob q _ _ _=>⟨ob.slots,k b ob q⟩,λ _ _ _ n _=>n,λ b ob q _=>⟨ob,k b ob q⟩,λ _ _ q=>q,λ _ _ _ q=>q,λ _ ps q=>⟨#[],by rw[q];simp⟩⟩
theorem Un.refl:Un fs ex H H h h:=Un.kept λ _ _ q=>q
theorem Un.laid (k:∀ b u,h.get? b=some u->h'.get? b=some u)(hp:h.objs.size<=a)(hn:H a=none):Un fs ex H (upd H a o) h h' where
 keep:=λ b u q _ _ _=>k b u q
 slot:=λ b u q _ _ _=>⟨u.slots,k b u q⟩
 free:=λ b u q n _=>by rw[aJ (l6 (o0 (i9 q) hp))];exact n
 there:=λ b u q _=>⟨u,k b u q⟩
 tups:=λ b xs q=>by rw[aJ (aY q hn)];exact q
 frzs:=λ b u xs q=>by rw[aJ (aY q hn)];exact q
 tbls:=λ b ps q=>⟨#[],by rw[aJ (aY q hn),q];simp⟩
theorem Un.write (mu:Mut (H x))(he:e=x\/H e=some (.own x))(k:∀ b u,b≠e->h.get? b=some u->h'.get? b=some u)(heo:∃ u,h'.get? e=some u):Un fs ex H (upd H x o) h h':=by
 have hx:∀ b,H b=none->b≠x:=λ b n z=>by subst z;rw[n] at mu;exact mu
 have hb:∀ b,H b=none->b≠e:=λ b n z=>by
  subst z;rcases he with r | r
  ·exact hx b n r
  ·rw[n] at r;cases r
 have hm:∀ b u,H b=some u->¬ Mut (some u)->b≠x:=λ b u q nm z=>by subst z;rw[q] at mu;exact nm mu
 refine⟨λ b u q n _ _=>k b u (hb b n) q,λ b u q n _ _=>⟨u.slots,k b u (hb b n) q⟩,λ b u q n _=>by rw[aJ (hx b n)];exact n,λ b u q _=>?_,
  λ b xs q=>by rw[aJ (hm b _ q λ z=>z)];exact q,λ b u xs q=>by rw[aJ (hm b _ q λ z=>z)];exact q,λ b ps q=>⟨#[],by rw[aJ (hm b _ q λ z=>z),q];simp⟩⟩
 by_cases hbe:b=e
 ·subst hbe;exact heo
 ·exact⟨u,k b u hbe q⟩
end
def trk (h:Heap)(H:Hp):List j8:=(d7 h.objs.size).filter λ a=>(H a).isSome
def hidT (h:Heap)(H:Hp):Heap:=PySem.W.hideAll h (trk h H)
theorem zS (h:Heap)(H:Hp):(hidT h H).objs.size=h.objs.size:=PySem.W.hideAll_size _ _
theorem zbw {h:Heap}{H:Hp}{b:j8}{o:Obj}(e:h.get? b=some o)(n:H b=none):(hidT h H).get? b=some o :=
 PySem.W.hideAll_get _ e λ hm=>by
  have q:(H b).isSome=true:=(ua0.mp hm).2;rw[n] at q;simp at q
theorem zdf {h:Heap}{H:Hp}{b:j8}{o:Obj}(e:(hidT h H).get? b=some o):h.get? b=some o/\H b=none:=by
 have e':h.get? b=some o:=PySem.W.of_hideAll (trk h H) e;refine⟨e',?_⟩;cases q:H b with
 | none=>rfl
 | some x =>
  have hm:b∈trk h H:=ua0.mpr ⟨o9.mpr (i9 e'),by simp [q]⟩;have z:(hidT h H).get? b=none:=PySem.W.hideAll_none (trk h H) hm;rw[z] at e;cases e
def allNews (g h:Heap)(L:j8):List (j8 × Obj):=(d7 h.objs.size).filterMap λ a=>if a=L\/(g.get? a).isSome=true then none else (h.get? a).map λ o=>(a,o)
def rest (g h:Heap)(L d:j8):List (j8 × Obj):=(allNews g h L).filter λ p=>decide (p.1≠d)
end L2
namespace L2
open PySem PySem.Spec PyProof.Rows
structure Mod (K:b9)(mg:Str->Option c9)(base:Heap):Prop where
 kin:K.In base
 glob:base.Ns m9 mg
 blt:∃ mb,base.Ns builtinsNs mb/\∀ x:Str,x≠"__name__"->mb x=bootBuiltins x
 nolimit:base.NoLimit
structure Cx where
 prog:n0
 w:uak
 K:b9
 mg:Str->Option c9
 base:Heap
 A:uaj
 N:List Str
 s₀:d8
 H₀:Hp
 env:Env
 outer:List Env
 stack:List Env
 ex:List j8
 fn:Str->Bool
 calm:Bool
 pn:List (j8 × Obj)
 xe:c9->d8->Prop
def frs (l:List Env):List j8:=l.filterMap (·.frame)
abbrev Cx.fs (X:Cx):List j8:=frs X.outer
def Vis (sc:ue1)(x:Str):Prop:=sc.names.lookup x=some .local\/sc.names.lookup x=some .cell\/sc.names.lookup x=some .free
def Loc (sc:ue1)(x:Str):Prop:=sc.names.lookup x=some .local\/sc.names.lookup x=some .cell
def Look (env:Env)(h:Heap)(m:Str->Option c9)(x:Str)(u:c9):Prop :=
 (env.kindOf x=some .local/\m x=some u)\/((env.kindOf x=some .cell\/env.kindOf x=some .free)/\∃ c,env.cells.lookup x=some c/\h.IsCell c (some u))
structure Cx.Ok (X:Cx):Prop where
 mod:Mod X.K X.mg X.base
 kind:X.env.scope.kind=.function
 glob:X.env.globals=m9
 blt:X.env.builtins=builtinsNs
 above:X.s₀.heap.objs.size<=X.env.locals
 inj:∀ x y c,X.env.cells.lookup x=some c->X.env.cells.lookup y=some c->x=y
 has:∀ x,(X.env.kindOf x=some .cell\/X.env.kindOf x=some .free)->∃ c,X.env.cells.lookup x=some c
 cab:∀ x c,X.fn x=true->X.env.cells.lookup x=some c->X.s₀.heap.objs.size<=c
 hd:X.calm=true->X.A.handled=none
 frames:X.A.frames=some X.stack
 stk:X.stack=X.outer\/(X.stack=X.env::X.outer/\X.env.frame=some X.env.locals)
 exf:∀ b∈X.ex,b≠X.env.locals/\∀ x c,X.env.cells.lookup x=some c->c≠b
 bs:∀ b o,X.base.get? b=some o->X.s₀.heap.get? b=some o/\X.H₀ b=none
 bsz:X.base.objs.size<=X.s₀.heap.objs.size
 noex:∀ b o,X.base.get? b=some o->b∉X.ex
 exfs:∀ b∈X.ex,b∉X.fs
 funs:X.s₀.heap.FunFrames X.base X.outer
 frf:∀ b∈X.fs,X.H₀ b=none
structure Inv (X:Cx)(pins:List (j8 × Obj))(σ:List (Option V))(H:Hp)(s:d8):Prop where
 ok:X.Ok
 os:s.os=X.s₀.os
 bare:AllBare s.gens
 base:Un X.fs X.ex X.H₀ H X.s₀.heap s.heap
 loc:∃ m,s.heap.Ns X.env.locals m/\∀ (i:Nat)(x:Str)(v:V),X.N[i]?=some x->σ[i]?=some (some v)->Vis X.env.scope x->∃ u,RelV v u/\Look X.env s.heap m x u
 cell:∀ x c,X.env.cells.lookup x=some c->∃ v,s.heap.IsCell c v
 free:H X.env.locals=none
 freeC:∀ x c,X.env.cells.lookup x=some c->H c=none
 pin:∀ p∈X.pn++pins,s.heap.get? p.1=some p.2/\H p.1=none/\p.1≠X.env.locals/\p.1∉X.fs/\∀ v,p.2.data≠.cell v
 hok:HOk X.prog X.w H s.heap
 len:σ.length=X.N.length
section
variable {X:Cx}{pins:List (j8 × Obj)}{σ:List (Option V)}{H H':Hp}{s:d8}{h':Heap}
theorem Cx.Ok.nofr (ok:X.Ok){b:j8}{o:Obj}(e:X.base.get? b=some o):b∉X.fs:=λ hb=>by
 have:=(ok.funs.mem hb).1;rw[e] at this;cases this
theorem Inv.bs (I:Inv X pins σ H s):∀ b o,X.base.get? b=some o->s.heap.get? b=some o/\H b=none:=λ b o e =>
 ⟨I.base.keep b o (I.ok.bs b o e).1 (I.ok.bs b o e).2 (I.ok.nofr e) (I.ok.noex b o e),I.base.free b o (I.ok.bs b o e).1 (I.ok.bs b o e).2 (I.ok.noex b o e)⟩
theorem Inv.bk (I:Inv X pins σ H s):∀ b o,X.base.get? b=some o->s.heap.get? b=some o:=λ b o e=>(I.bs b o e).1
theorem Inv.mod (I:Inv X pins σ H s):Mod X.K X.mg X.base:=I.ok.mod
theorem Inv.kIn (I:Inv X pins σ H s):X.K.In s.heap:=I.ok.mod.kin.keeps I.bk
theorem Inv.lt (I:Inv X pins σ H s):X.env.locals<s.heap.objs.size:=let ⟨_,hn,_⟩:=I.loc;hn.lt
theorem Inv.sz (I:Inv X pins σ H s):X.s₀.heap.objs.size<=s.heap.objs.size:=o8 I.ok.above (ue3 I.lt)
theorem Inv.nofs (I:Inv X pins σ H s){a:j8}(h:s.heap.objs.size<=a):a∉X.fs:=λ hb=>by
 obtain⟨_,o,ho,_⟩:=I.ok.funs.mem hb;exact absurd (o0 (i9 ho) (o8 I.sz h)) (uay _)
theorem Inv.cne (I:Inv X pins σ H s):∀ x c,X.env.cells.lookup x=some c->c≠X.env.locals:=λ x c e z=>by
 obtain⟨v,o,ho,hd⟩:=I.cell x c e;obtain⟨m,⟨o',es,ep,ho',hd',_⟩,_⟩:=I.loc;rw[z,ho'] at ho;cases ho;rw[hd'] at hd;cases hd
theorem Inv.funs (I:Inv X pins σ H s):s.heap.FunFrames X.base X.outer:=by
 have all:∀ (l:List Env),(∀ b∈frs l,b∈X.fs)->X.s₀.heap.FunFrames X.base l->s.heap.FunFrames X.base l:=by
  intro l;induction l with
  | nil=>intro _ _;trivial
  | cons env r ih =>
   intro hs hl;obtain⟨hk,⟨L,o,hf,hn,ho,hd⟩,hr⟩:=hl;have hL:L∈X.fs:=hs L (by unfold frs;rw[ua2,hf];exact j3);obtain⟨sl,e⟩:=I.base.slot L o ho (I.ok.frf L hL) hL λ z=>I.ok.exfs L z hL;exact⟨hk,⟨L,_,hf,hn,e,hd⟩,ih (λ b hb=>hs b (by unfold frs;rw[ua2,hf];exact l9 _ hb)) hr⟩
 exact all X.outer (λ _ hb=>hb) I.ok.funs
theorem Inv.stack (I:Inv X pins σ H s):s.heap.FunFrames X.base X.stack:=by
 rcases I.ok.stk with e | ⟨e,hf⟩
 ·rw[e];exact I.funs
 ·rw[e];obtain⟨m,hn,_⟩:=I.loc;refine .cons (by rw[I.ok.kind];decide) hf hn ?_ I.funs;exact ucr (o8 I.ok.bsz I.ok.above)
theorem Inv.stkSub (I:Inv X pins σ H s):∀ b∈frs X.stack,b∈X.env.locals::X.fs:=λ b hb=>by
 rcases I.ok.stk with e | ⟨e,hf⟩
 ·rw[e] at hb;exact l9 _ hb
 ·rw[e] at hb;unfold frs at hb;rw[ua2,hf] at hb;exact hb
theorem Inv.stkFree (I:Inv X pins σ H s):∀ b∈frs X.stack,H b=none:=λ b hb=>by
 rcases j4.mp (I.stkSub b hb) with e | hb
 ·rw[e];exact I.free
 ·obtain⟨_,o,ho,_⟩:=I.ok.funs.mem hb;exact I.base.free b o ho (I.ok.frf b hb) λ z=>I.ok.exfs b z hb
theorem Inv.step {g':Array GenState}{t':Nat}{d':Drawn}{ch:List j8}(I:Inv X pins σ H s)
  (hch:∀ b∈ch,(b∈X.ex\/X.s₀.heap.objs.size<=b)/\b≠X.env.locals/\(∀ x c,X.env.cells.lookup x=some c->c≠b)/\∀ p∈X.pn++pins,p.1≠b)
  (keep:∀ b o,b≠X.env.locals->b∉X.fs->b∉ch->s.heap.get? b=some o->H b=none->h'.get? b=some o)
  (slot:∀ b o,b≠X.env.locals->b∈X.fs->b∉ch->s.heap.get? b=some o->H b=none->∃ sl,h'.get? b=some { o with slots:=sl }) (free:∀ b o,b∉ch->s.heap.get? b=some o->H b=none->H' b=none)
  (there:∀ b o,b∉ch->s.heap.get? b=some o->∃ o',h'.get? b=some o')
  (tups:∀ b xs,H b=some (.tup xs)->H' b=some (.tup xs)) (frzs:∀ b o u,H b=some (.frz o u)->H' b=some (.frz o u)) (tbls:∀ b ps,H b=some (.tbl ps)->∃ more,H' b=some (.tbl (ps++more)))
  (ns:∀ m,s.heap.Ns X.env.locals m->h'.Ns X.env.locals m) (hok:HOk X.prog X.w H' h') (hg:AllBare g') :
  Inv X pins σ H' { s with heap:=h',gens:=g',drawn:=d',toks:=t' }:=by
 have neL:∀ b o,X.s₀.heap.get? b=some o->b≠X.env.locals:=λ b o e=>l6 (o0 (i9 e) I.ok.above);have neC:∀ b o,X.s₀.heap.get? b=some o->b∉X.ex->b∉ch:=λ b o e hx hb=>by
  rcases (hch b hb).1 with z | z
  ·exact hx z
  ·exact absurd (o0 (i9 e) z) (uay _)
 have cellK:∀ x c,X.env.cells.lookup x=some c->∀ v,s.heap.IsCell c v->h'.IsCell c v:=λ x c e v ⟨o,ho,hd⟩=>by
  have nch:c∉ch:=λ z=>(hch c z).2.2.1 x c e rfl;by_cases hc:c∈X.fs
  ·obtain⟨sl,q⟩:=slot c o (I.cne x c e) hc nch ho (I.freeC x c e);exact⟨_,q,hd⟩
  ·exact⟨o,keep c o (I.cne x c e) hc nch ho (I.freeC x c e),hd⟩
 refine⟨I.ok,I.os,hg,⟨λ b o e n hb hx=>?_,λ b o e n hb hx=>?_,λ b o e n hx=>?_,λ b o e hx=>?_,λ b xs e=>tups b xs (I.base.tups b xs e),λ b o xs e=>frzs b o xs (I.base.frzs b o xs e),λ b ps e=>?_⟩,?_,λ x c e=>?_,?_,λ x c e=>?_,λ p hp=>?_,hok,I.len⟩
 ·exact keep b o (neL b o e) hb (neC b o e hx) (I.base.keep b o e n hb hx) (I.base.free b o e n hx)
 ·obtain⟨sl,e1⟩:=I.base.slot b o e n hb hx;obtain⟨sl',e2⟩:=slot b _ (neL b o e) hb (neC b o e hx) e1 (I.base.free b o e n hx);exact⟨sl',e2⟩
 ·obtain⟨o',e1⟩:=I.base.there b o e hx;exact free b o' (neC b o e hx) e1 (I.base.free b o e n hx)
 ·obtain⟨o',e1⟩:=I.base.there b o e hx;exact there b o' (neC b o e hx) e1
 ·obtain⟨m1,e1⟩:=I.base.tbls b ps e;obtain⟨m2,e2⟩:=tbls b _ e1;exact⟨m1++m2,by rw[e2,Array.append_assoc]⟩
 ·obtain⟨m,hn,hl⟩:=I.loc;refine⟨m,ns m hn,λ i x v e1 e2 e3=>?_⟩;obtain⟨u,r,l⟩:=hl i x v e1 e2 e3;refine⟨u,r,?_⟩;rcases l with l | ⟨k,c,e,z⟩
  ·exact .inl l
  ·exact .inr ⟨k,c,e,cellK x c e _ z⟩
 ·obtain⟨v,z⟩:=I.cell x c e;exact⟨v,cellK x c e v z⟩
 ·obtain⟨m,⟨o,_,_,ho,_⟩,_⟩:=I.loc;exact free _ o (λ z=>(hch _ z).2.1 rfl) ho I.free
 ·obtain⟨v,o,ho,hd⟩:=I.cell x c e;exact free c o (λ z=>(hch c z).2.2.1 x c e rfl) ho (I.freeC x c e)
 ·obtain⟨e,n,ne,nf,d⟩:=I.pin p hp;have nch:p.1∉ch:=λ z=>(hch p.1 z).2.2.2 p hp rfl;exact⟨keep p.1 p.2 ne nf nch e n,free p.1 p.2 nch e n,ne,nf,d⟩
theorem Inv.un {t':Nat}(I:Inv X pins σ H s)(u:Un X.fs [] H H' s.heap h')(hok:HOk X.prog X.w H' h'):Inv X pins σ H' { s with heap:=h',toks:=t' }:=by
 obtain⟨m,⟨o,es,ep,ho,r⟩,_⟩:=id I.loc;obtain⟨sl,hL⟩:=u.any ho I.free (by simp);exact I.step (g':=s.gens) (d':=s.drawn) (ch:=[]) (λ _ z=>nomatch z) (λ b o _ hb _ e n=>u.keep b o e n hb (by simp)) (λ b o _ hb _ e n=>u.slot b o e n hb (by simp)) (λ b o _ e n=>u.free b o e n (by simp)) (λ b o _ e=>u.there b o e (by simp)) u.tups u.frzs u.tbls (λ m' hm=>by
  obtain⟨o',es',ep',ho',r'⟩:=hm;rw[ho] at ho';cases ho';exact⟨_,es',ep',hL,r'⟩) hok I.bare
theorem Inv.call {g':Array GenState}{t':Nat}{d':Drawn}{ch:List j8}(I:Inv X pins σ H s)(u:Un (frs X.stack) ch H H' s.heap h')(hok:HOk X.prog X.w H' h')(hg:AllBare g')
  (hch:∀ b∈ch,(b∈X.ex\/X.s₀.heap.objs.size<=b)/\b≠X.env.locals/\(∀ x c,X.env.cells.lookup x=some c->c≠b)/\∀ p∈X.pn++pins,p.1≠b) :
  Inv X pins σ H' { s with heap:=h',gens:=g',drawn:=d',toks:=t' }:=by
 obtain⟨m,⟨o,es,ep,ho,r⟩,_⟩:=id I.loc;obtain⟨sl,hL⟩:=u.any ho I.free λ z=>(hch _ z).2.1 rfl;exact I.step (ch:=ch) hch (λ b o hL hb hc e n=>u.keep b o e n (λ z=>(j4.mp (I.stkSub b z)).elim hL hb) hc) (λ b o _ _ hc e n=>u.any e n hc) (λ b o hc e n=>u.free b o e n hc) (λ b o hc e=>u.there b o e hc) u.tups u.frzs u.tbls (λ m' hm=>by
  obtain⟨o',es',ep',ho',r'⟩:=hm;rw[ho] at ho';cases ho';exact⟨_,es',ep',hL,r'⟩) hok hg
theorem Inv.turned {t':Nat}{it:j8}(I:Inv X pins σ H s)(k:∀ b o,b≠it->s.heap.get? b=some o->h'.get? b=some o)(hn:H it=none)(hL:it≠X.env.locals)
  (h1:it∈X.ex\/X.s₀.heap.objs.size<=it) (h2:∀ x c,X.env.cells.lookup x=some c->c≠it) (h3:∀ p∈X.pn++pins,p.1≠it):Inv X pins σ H { s with heap:=h',toks:=t' }:=by
 have nit:∀ b u,H b=some u->b≠it:=λ b u e z=>by rw[z,hn] at e;cases e
 refine I.step (g':=s.gens) (d':=s.drawn) (ch:=[it]) (λ b hb=>?_) (λ b o _ _ hc e _=>k b o (λ z=>hc (by simp [z])) e) (λ b o _ _ hc e _=>⟨o.slots,k b o (λ z=>hc (by simp [z])) e⟩) (λ _ _ _ _ n=>n)
  (λ b o hc e=>⟨o,k b o (λ z=>hc (by simp [z])) e⟩) (λ _ _ e=>e) (λ _ _ _ e=>e) (λ b ps e=>⟨#[],by rw[e];simp⟩) (λ m hm=>?_) (λ b u e=>?_) I.bare
 ·have e:b=it:=by simpa using hb
  subst e;exact⟨h1,hL,h2,h3⟩
 ·obtain⟨o,es,ep,ho,r⟩:=hm;exact⟨o,es,ep,k _ o (Ne.symm hL) ho,r⟩
 ·refine (I.hok b u e).stay (λ c v hc q=>k c v ?_ q) (λ _ q=>q) λ _ _ q=>q;rcases hc with z | z
  ·rw[z];exact nit b u e
  ·exact nit c _ z
theorem Inv.tok (I:Inv X pins σ H s)(t:Nat):Inv X pins σ H { s with toks:=t }:=I.un (h':=s.heap) (t':=t) Un.refl I.hok
theorem Inv.kept {t':Nat}(I:Inv X pins σ H s)(k:∀ b u,s.heap.get? b=some u->h'.get? b=some u):Inv X pins σ H { s with heap:=h',toks:=t' }:=I.un (Un.kept k) (I.hok.kept k)
theorem Inv.laid {a:j8}{o:HO}{t':Nat}(I:Inv X pins σ H s)(k:∀ b u,s.heap.get? b=some u->h'.get? b=some u)(hp:s.heap.objs.size<=a)(new:ObjOk X.prog X.w (upd H a o) h' a o) :
  Inv X pins σ (upd H a o) { s with heap:=h',toks:=t' }:=I.un (Un.laid k hp (I.hok.fresh hp)) (I.hok.laid k hp new)
theorem Inv.write {x e:j8}{o:HO}{t':Nat}(I:Inv X pins σ H s)(mu:Mut (H x))(he:e=x\/H e=some (.own x))(k:∀ b u,b≠e->s.heap.get? b=some u->h'.get? b=some u)(heo:∃ u,h'.get? e=some u)
  (new:ObjOk X.prog X.w (upd H x o) h' x o):Inv X pins σ (upd H x o) { s with heap:=h',toks:=t' }:=I.un (Un.write mu he k heo) (I.hok.write mu he k heo new)
theorem Inv.pins_of {pins':List (j8 × Obj)}(I:Inv X pins σ H s)(h:∀ p∈pins',s.heap.get? p.1=some p.2/\H p.1=none/\p.1≠X.env.locals/\p.1∉X.fs/\∀ v,p.2.data≠.cell v):Inv X pins' σ H s :=
 ⟨I.ok,I.os,I.bare,I.base,I.loc,I.cell,I.free,I.freeC,λ p hp=>(w8.mp hp).elim (λ z=>I.pin p (ubg _ z)) (h p),I.hok,I.len⟩
theorem jD {N:List Str}(hN:N.Nodup){i j:Nat}{x:Str}(a:N[i]?=some x)(b:N[j]?=some x):i=j:=by
 obtain⟨h1,e1⟩:=j6.mp a;obtain⟨h2,e2⟩:=j6.mp b;exact (List.getElem_inj hN).mp (e1.trans e2.symm)
theorem mK {M:Model}{A:uaj}{E:c9->d8->Prop}{i:Nat}{x:Str}{v:V}{u:c9}{Q:Unit->d8->Prop}(I:Inv X pins σ H s)(hN:X.N.Nodup)(hi:X.N[i]?=some x)(hx:Loc X.env.scope x)(r:RelV v u)
  (h:∀ s',Inv X pins (σ.set i (some v)) H s'->(∃ a,Heap.SameBut a s.heap s'.heap/\(a=X.env.locals\/X.env.cells.lookup x=some a))->Q () s') (hf:X.fn x=true\/X.env.scope.names.lookup x=some .local:=by first | exact .inl rfl | exact .inr rfl | assumption):j7 M A (storeName X.env x u) Q E s:=by
 obtain⟨m,hn,hl⟩:=id I.loc;have hcls:(X.env.scope.kind==.class||(X.env.scope.kind==.module&&X.env.locals != X.env.globals))=false:=by rw[I.ok.kind];rfl
 have hiσ:i<σ.length:=by rw[I.len];exact (j6.mp hi).1
 have cne:=I.cne;have tracked:∀ {a:j8}{h':Heap},(∃ o,s.heap.get? a=some o/\H a=none)->Heap.SameBut a s.heap h'->HOk X.prog X.w H h':=λ {a h'} ha hs b ob e=>by
  obtain⟨_,_,hfree⟩:=ha;refine (I.hok b ob e).stay (λ c w' hc q=>(hs.2 c ?_).trans q) (λ _ q=>q) λ _ _ q=>q;rintro rfl;rcases hc with rfl | hc
  ·rw[hfree] at e;cases e
  ·rw[hfree] at hc;cases hc
 rcases hx with hk | hk
 ·refine wpAny_storeName_local hk hn (λ h' hn' hs=>?_) hcls;obtain⟨oL,_,_,hoL,_⟩:=id hn;refine h _ ⟨I.ok,I.os,I.bare,⟨λ b o e n hb hx=>?_,λ b o e n hb hx=>?_,I.base.free,λ b o e hx=>?_,I.base.tups,I.base.frzs,I.base.tbls⟩,⟨_,hn',λ j y v' e1 e2 e3=>?_⟩,λ y c e=>?_,I.free,I.freeC,λ p hp=>?_,tracked ⟨oL,hoL,I.free⟩ hs,by simpa using I.len⟩ ⟨_,hs,.inl rfl⟩
  ·exact (hs.2 b (l6 (o0 (i9 e) I.ok.above))).trans (I.base.keep b o e n hb hx)
  ·obtain⟨sl,e1⟩:=I.base.slot b o e n hb hx;exact⟨sl,(hs.2 b (l6 (o0 (i9 e) I.ok.above))).trans e1⟩
  ·obtain⟨o',e1⟩:=I.base.there b o e hx;exact⟨o',(hs.2 b (l6 (o0 (i9 e) I.ok.above))).trans e1⟩
  ·by_cases hj:j=i
   ·subst hj;rw[hi] at e1;cases e1;rw[uc7 hiσ] at e2;cases e2;exact⟨u,r,.inl ⟨hk,by simp⟩⟩
   ·rw[ud4 (Ne.symm hj)] at e2;obtain⟨u',r',q⟩:=hl j y v' e1 e2 e3;refine⟨u',r',?_⟩;rcases q with ⟨k,e⟩ | ⟨k,c,e,z⟩
    ·refine .inl ⟨k,?_⟩;have:y≠x:=λ e=>hj (jD hN e1 (e ▸ hi));simp [this,e]
    ·exact .inr ⟨k,c,e,z.sameBut hs (cne y c e)⟩
  ·obtain⟨w',z⟩:=I.cell y c e;exact⟨w',z.sameBut hs (cne y c e)⟩
  ·obtain⟨e,n,ne,nf,d⟩:=I.pin p hp;exact⟨(hs.2 p.1 ne).trans e,n,ne,nf,d⟩
 ·have hfn:X.fn x=true:=by
   rcases hf with z | z
   ·exact z
   ·rw[z] at hk;cases hk
  obtain⟨c,hc⟩:=I.ok.has x (.inl hk);obtain⟨w',z⟩:=I.cell x c hc;refine wpAny_storeName_cell I.ok.kind hk hc z (λ h' hc' hs=>?_);obtain⟨oc,hoc,hocd⟩:=id z;refine h { s with heap:=h' } ⟨I.ok,I.os,I.bare,⟨λ b o e n hb hx=>?_,λ b o e n hb hx=>?_,I.base.free,λ b o e hx=>?_,I.base.tups,I.base.frzs,I.base.tbls⟩,⟨m,hn.sameBut hs (Ne.symm (cne x c hc)),λ j y v' e1 e2 e3=>?_⟩,λ y c' e=>?_,I.free,I.freeC,λ p hp=>?_,tracked ⟨oc,hoc,I.freeC x c hc⟩ hs,by simpa using I.len⟩ ⟨c,hs,.inr hc⟩
  ·exact (hs.2 b (l6 (o0 (i9 e) (I.ok.cab x c hfn hc)))).trans (I.base.keep b o e n hb hx)
  ·obtain⟨sl,e1⟩:=I.base.slot b o e n hb hx;exact⟨sl,(hs.2 b (l6 (o0 (i9 e) (I.ok.cab x c hfn hc)))).trans e1⟩
  ·obtain⟨o',e1⟩:=I.base.there b o e hx;exact⟨o',(hs.2 b (l6 (o0 (i9 e) (I.ok.cab x c hfn hc)))).trans e1⟩
  ·by_cases hj:j=i
   ·subst hj;rw[hi] at e1;cases e1;rw[uc7 hiσ] at e2;cases e2;exact⟨u,r,.inr ⟨.inl hk,c,hc,hc'⟩⟩
   ·rw[ud4 (Ne.symm hj)] at e2;obtain⟨u',r',q⟩:=hl j y v' e1 e2 e3;refine⟨u',r',?_⟩;rcases q with q | ⟨k,c',e,z'⟩
    ·exact .inl q
    ·refine .inr ⟨k,c',e,z'.sameBut hs ?_⟩;rintro rfl;exact hj (jD hN e1 (I.ok.inj _ _ _ e hc ▸ hi))
  ·by_cases hcc:c'=c
   ·subst hcc;exact⟨_,hc'⟩
   ·obtain⟨w2,z2⟩:=I.cell y c' e;exact⟨w2,z2.sameBut hs hcc⟩
  ·obtain⟨e,n,ne,nf,d⟩:=I.pin p hp;refine⟨(hs.2 p.1 ?_).trans e,n,ne,nf,d⟩;intro q;rw[q,hoc] at e;have q':oc=p.2:=ubk e;exact d w' (by rw[← q'];exact hocd)
theorem fA {M:Model}{A:uaj}{E:c9->d8->Prop}{i:Nat}{x:Str}{v:V}{u:c9}{Q:Unit->d8->Prop}(I:Inv X pins σ H s)(hN:X.N.Nodup)(hi:X.N[i]?=some x)(hx:Loc X.env.scope x)(r:RelV v u)
  (h:∀ s',Inv X pins (σ.set i (some v)) H s'->Q () s') (hf:X.fn x=true\/X.env.scope.names.lookup x=some .local:=by first | exact .inl rfl | exact .inr rfl | assumption):j7 M A (storeName X.env x u) Q E s :=
 mK I hN hi hx r (λ s' I' _=>h s' I') hf
theorem Inv.call' {s':d8}{ch:List j8}(I:Inv X pins σ H s)(ho:s'.os=s.os)(u:Un (frs X.stack) ch H H' s.heap s'.heap)(hok:HOk X.prog X.w H' s'.heap)(hg:AllBare s'.gens)
  (hch:∀ b∈ch,(b∈X.ex\/X.s₀.heap.objs.size<=b)/\b≠X.env.locals/\(∀ x c,X.env.cells.lookup x=some c->c≠b)/\∀ p∈X.pn++pins,p.1≠b):Inv X pins σ H' s':=by
 obtain⟨h',g',d',t',o'⟩:=s';have e:o'=s.os:=ho;subst e;exact I.call (g':=g') (t':=t') (d':=d') u hok hg hch
end
abbrev XK:=c9->Option j8->Hp->Prop
abbrev St:=List (Option V)
abbrev VK:=V->Hp->Prop
abbrev TE:=St->Hp->VK->Prop
abbrev TT:=St->Hp->(Bool->Hp->Prop)->Prop
abbrev TA:=St->Hp->(List V->Hp->Prop)->Prop
structure Ends where
 nx:St->Hp->Prop
 rt:VK
 bk:St->Hp->Prop:=λ _ _=>False
 ct:St->Hp->Prop:=λ _ _=>False
abbrev TS:=Ends->St->Hp->Prop
def EP (X:Cx)(pins:List (j8 × Obj))(σ:St)(Q:VK)(u:c9)(s':d8):Prop:=∃ v H',Inv X pins σ H' s'/\RelV v u/\Q v H'
def TP (X:Cx)(pins:List (j8 × Obj))(σ:St)(Q:Bool->Hp->Prop)(b:Bool)(s':d8):Prop:=∃ H',Inv X pins σ H' s'/\Q b H'
def AP (X:Cx)(pins:List (j8 × Obj))(σ:St)(Q:List V->Hp->Prop)(us:List c9)(s':d8):Prop:=∃ vs H',Inv X pins σ H' s'/\Vals vs us/\Q vs H'
def SP (X:Cx)(pins:List (j8 × Obj))(D:Ends)(f:Flow)(s':d8):Prop :=
 match f with
 | .next=>∃ σ' H',Inv X pins σ' H' s'/\D.nx σ' H'
 | .brk=>∃ σ' H',Inv X pins σ' H' s'/\D.bk σ' H'
 | .cont=>∃ σ' H',Inv X pins σ' H' s'/\D.ct σ' H'
 | .ret u=>∃ v σ' H',Inv X pins σ' H' s'/\RelV v u/\D.rt v H'
def PE (X:Cx)(e:uby)(t:TE):Prop :=
 ∀ (pins:List (j8 × Obj))(s:d8)(σ:St)(H:Hp)(Q:VK),Inv X pins σ H s->t σ H Q->j7 (p9 X.prog X.w) X.A (eval e X.env) (EP X pins σ Q) X.xe s
def PT (X:Cx)(e:uby)(t:TT):Prop :=
 ∀ (pins:List (j8 × Obj))(s:d8)(σ:St)(H:Hp)(Q:Bool->Hp->Prop),Inv X pins σ H s->t σ H Q->j7 (p9 X.prog X.w) X.A (isTrue e X.env (eval e X.env)) (TP X pins σ Q) X.xe s
def PW (X:Cx)(e:uby)(t:TT):Prop :=
 ∀ (whole:Sem c9)(pins:List (j8 × Obj))(s:d8)(σ:St)(H:Hp)(Q:Bool->Hp->Prop),Inv X pins σ H s->t σ H Q->j7 (p9 X.prog X.w) X.A (isTrue e X.env whole) (TP X pins σ Q) X.xe s
theorem PW.pt {X:Cx}{e:uby}{t:TT}(h:PW X e t):PT X e t:=h _
def PA (X:Cx)(es:List uby)(t:TA):Prop :=
 ∀ (pos:Pos)(pins:List (j8 × Obj))(s:d8)(σ:St)(H:Hp)(Q:List V->Hp->Prop),Inv X pins σ H s->t σ H Q->j7 (p9 X.prog X.w) X.A (spliced (backTo pos (uav es X.env))) (AP X pins σ Q) X.xe s
def PS (X:Cx)(st:uc9)(t:TS):Prop :=
 ∀ (pins:List (j8 × Obj))(s:d8)(σ:St)(H:Hp)(D:Ends),Inv X pins σ H s->t D σ H->j7 (p9 X.prog X.w) X.A (exec st X.env) (SP X pins D) X.xe s
def PSs (X:Cx)(st:List uc9)(t:TS):Prop :=
 ∀ (pins:List (j8 × Obj))(s:d8)(σ:St)(H:Hp)(D:Ends),Inv X pins σ H s->t D σ H->j7 (p9 X.prog X.w) X.A (execs st X.env) (SP X pins D) X.xe s
theorem thn {α:Type}{t:Sem α}{Q Q':α->d8->Prop}{M:Model}{A:uaj}{E:c9->d8->Prop}{s:d8}(h:j7 M A t Q E s)(hQ:∀ a s,Q a s->Q' a s):j7 M A t Q' E s:=ua9 h hQ λ _ _ x=>x
end L2
namespace L2
open PySem PySem.Spec PyProof.Rows
section
variable {X:Cx}
inductive EVar (σ:L2.St)(i:Nat)(Q:V->Prop):Prop
 | mk:∀ v,(σ[i]?=some (some v))->Q v->EVar σ i Q
inductive EBl (x:V)(Q:Bool->Prop):Prop
 | mk:∀ c,(x=.bl c)->Q c->EBl x Q
inductive EInt (x:V)(Q:Int->Prop):Prop
 | mk:∀ i,(x=.int i)->Q i->EInt x Q
inductive ERef (x:V)(Q:j8->Prop):Prop
 | mk:∀ a,(x=.ref a)->Q a->ERef x Q
inductive EOne (vs:List V)(Q:Int->Prop):Prop
 | mk:∀ j,(vs=[.int j])->Q j->EOne vs Q
inductive ETwo (vs:List V)(Q:V->V->Prop):Prop
 | mk:∀ v w,(vs=[v,w])->Q v w->ETwo vs Q
def tVar (i:Nat):TE:=λ σ H Q=>EVar σ i λ v=>Q v H
def tC (v:V):TE:=λ _ H Q=>Q v H
theorem qO {i:Nat}{x:Str}{pos:Pos}(hN:X.N[i]?=some x)(hv:Vis X.env.scope x)(hd:(x==("__debug__":Str))=false:=by decide)(hcd:(x==("__classdict__":Str))=false:=by decide):PE X (.Name x pos) (tVar i):=by
 intro pins s σ H Q I h;obtain⟨v,e,h⟩:=h;obtain⟨m,hn,hl⟩:=I.loc;obtain⟨u,r,l⟩:=hl i x v hN e hv;have fin:EP X pins σ Q u s:=⟨v,H,I,r,h⟩;rcases l with ⟨hk,hm⟩ | ⟨hk,c,hc,hcell⟩
 ·exact wpAny_Name (wpAny_loadName_local I.ok.kind hk hn hm fin) hd
 ·rcases hk with hk | hk
  ·exact wpAny_Name (wpAny_loadName_cell I.ok.kind hk hc hcell fin) hd
  ·exact wpAny_Name (wpAny_loadName_free I.ok.kind hk hc hcell fin hcd) hd
theorem aC {i j pos}:PE X (.Constant (.int i) j pos) (tC (.int i)):=λ _ _ _ H _ I h=>wpAny_Constant_int ⟨.int i,H,I.tok _,⟨_,rfl⟩,h⟩
theorem bV {b j pos}:PE X (.Constant (.bool b) j pos) (tC (.bl b)):=λ _ _ _ H _ I h=>Constant_bool ⟨.bl b,H,I,rfl,h⟩
theorem bD {j pos}:PE X (.Constant .none j pos) (tC .non):=λ _ _ _ H _ I h=>Constant_none ⟨.non,H,I,rfl,h⟩
theorem iC {x j pos}:PE X (.Constant (.str x) j pos) (tC (.str x)):=λ _ _ _ H _ I h=>Calls.Constant_str ⟨.str x,H,I.tok _,⟨_,rfl⟩,h⟩
def Gl (X:Cx)(x:Str):Prop:=X.env.kindOf x=some .globalImplicit
theorem fN {E:c9->d8->Prop}{pins:List (j8 × Obj)}{s:d8}{σ:St}{H:Hp}{x:Str}{u:c9}{pos:Pos}{Q:c9->d8->Prop}(I:Inv X pins σ H s)(hg:Gl X x)(hm:X.mg x=some u)(h:Q u s)
  (hd:(x==("__debug__":Str))=false:=by decide):j7 (p9 X.prog X.w) X.A (eval (.Name x pos) X.env) Q E s :=
 Calls.Name_function_global I.ok.kind hg (Calls.loadGlobal_global (by rw[I.ok.glob];exact I.mod.glob.keeps I.bk) hm h) hd
theorem dQ {E:c9->d8->Prop}{pins:List (j8 × Obj)}{s:d8}{σ:St}{H:Hp}{x:Str}{u:c9}{pos:Pos}{Q:c9->d8->Prop}(I:Inv X pins σ H s)(hg:Gl X x)(hm:X.mg x=none)(hv:bootBuiltins x=some u)(h:Q u s)
  (hn:x≠"__name__":=by decide) (hd:(x==("__debug__":Str))=false:=by decide):j7 (p9 X.prog X.w) X.A (eval (.Name x pos) X.env) Q E s:=by
 obtain⟨mb,h1,h2⟩:=I.mod.blt;exact Calls.Name_function_global I.ok.kind hg (Calls.loadGlobal_builtin (by rw[I.ok.glob];exact I.mod.glob.keeps I.bk) hm (by rw[I.ok.blt];exact h1.keeps I.bk) ((h2 x hn).trans hv) h) hd
theorem bZ {x:Str}{v:V}{u:c9}{pos:Pos}(hg:Gl X x)(hm:X.mg x=some u)(r:RelV v u)(hd:(x==("__debug__":Str))=false:=by decide):PE X (.Name x pos) (tC v) :=
 λ _ _ _ H _ I h=>fN I hg hm ⟨v,H,I,r,h⟩ hd
theorem dM {x:Str}{v:V}{u:c9}{pos:Pos}(hg:Gl X x)(hm:X.mg x=none)(hv:bootBuiltins x=some u)(r:RelV v u)(hn:x≠"__name__":=by decide)(hd:(x==("__debug__":Str))=false:=by decide):PE X (.Name x pos) (tC v) :=
 λ _ _ _ H _ I h=>dQ I hg hm hv ⟨v,H,I,r,h⟩ hn hd
variable {a b:uby}{ta tb:TE}{pos:Pos}
def PC (X:Cx)(op:CmpOp)(a b:uby)(t:TE):Prop :=
 ∀ (pins:List (j8 × Obj))(s:d8)(σ:St)(H:Hp)(Q:VK),Inv X pins σ H s->t σ H Q ->
  j7 (p9 X.prog X.w) X.A (eval a X.env) (λ v s₁=>j7 (p9 X.prog X.w) X.A (eval b X.env) (λ u s₂=>j7 (p9 X.prog X.w) X.A (compareOp op v u) (EP X pins σ Q) X.xe s₂) X.xe s₁) X.xe s
theorem nobehind (b:uby){op:CmpOp}(h:op≠.In)(h2:op≠.NotIn):behindInMarks op b=false:=by
 have e1:(op==CmpOp.In)=false:=by cases op <;> first | rfl | exact absurd rfl h
 have e2:(op==CmpOp.NotIn)=false:=by cases op <;> first | rfl | exact absurd rfl h2
 cases b <;> simp [behindInMarks,e1,e2]
def tB (t:TE):TT:=λ σ H Q=>t σ H λ x H1=>EBl x λ c=>Q c H1
theorem qN {op:CmpOp}{t:TE}(h:PC X op a b t)(h1:behindInMarks op b=false:=by first | exact nobehind _ (by decide) (by decide) | rfl):PT X (.Compare a [op] [b] pos) (tB t):=by
 intro pins s σ H Q I hw;refine wpAny_isTrue_Compare1 (thn (h pins s σ H _ I hw) λ v s1 h1=>thn h1 λ u s2 h2=>thn h2 λ c s3 ⟨x,H1,I1,r1,q1⟩=>?_) h1;obtain⟨d,rfl,q⟩:=q1;cases r1;exact ubl ⟨H1,I1,q⟩
theorem bN {e:uby}{t:TE}(h:PE X e t)(he:∀ whole,isTrue e X.env whole=(do let v ← whole;standAt e.pos;holding [v] (truthy v)):=by intro _;rfl):PT X e (tB t):=by
 intro pins s σ H Q I hw;refine isTrue_plain (thn (h pins s σ H _ I hw) λ v s1 ⟨x,H1,I1,r1,q1⟩=>?_) (he _);obtain⟨d,rfl,q⟩:=q1;cases r1;exact ubl ⟨H1,I1,q⟩
variable {tA tB':TT}{rest:List uby}
def tAnd (t u:TT):TT:=λ σ H Q=>t σ H λ c H1=>if c=true then u σ H1 Q else Q false H1
def tOr (t u:TT):TT:=λ σ H Q=>t σ H λ c H1=>if c=true then Q true H1 else u σ H1 Q
def tNot (t:TT):TT:=λ σ H Q=>t σ H λ c H1=>Q (!c) H1
theorem zc5 (ha:PT X a tA):PW X (.BoolOp .And [a] pos) tA:=by
 intro wh pins s σ H Q I h;refine isTrue_and (thn (ha pins s σ H Q I h) λ c s1 e=>?_);cases c with
 | true=>exact isTrue_and_nil e
 | false=>exact e
theorem dE (ha:PT X a tA):PW X (.BoolOp .Or [a] pos) tA:=by
 intro wh pins s σ H Q I h;refine isTrue_or (thn (ha pins s σ H Q I h) λ c s1 e=>?_);cases c with
 | false=>exact isTrue_or_nil e
 | true=>exact e
theorem zea (ha:PT X a tA)(hb:PW X (.BoolOp .And (b::rest) pos) tB'):PW X (.BoolOp .And (a::b::rest) pos) (tAnd tA tB'):=by
 intro wh pins s σ H Q I h;refine isTrue_and (thn (ha pins s σ H _ I h) λ c s1 ⟨H1,I1,q1⟩=>?_);cases c with
 | true=>exact hb wh pins s1 σ H1 Q I1 q1
 | false=>exact⟨H1,I1,q1⟩
theorem dI (ha:PT X a tA)(hb:PW X (.BoolOp .Or (b::rest) pos) tB'):PW X (.BoolOp .Or (a::b::rest) pos) (tOr tA tB'):=by
 intro wh pins s σ H Q I h;refine isTrue_or (thn (ha pins s σ H _ I h) λ c s1 ⟨H1,I1,q1⟩=>?_);cases c with
 | true=>exact⟨H1,I1,q1⟩
 | false=>exact hb wh pins s1 σ H1 Q I1 q1
theorem bU (ha:PT X a tA):PT X (.UnaryOp .Not a pos) (tNot tA):=by
 intro pins s σ H Q I h;exact isTrue_not (ha pins s σ H (λ c H1=>Q (!c) H1) I h)
def tAndV (ta tb:TE):TE:=λ σ H Q=>ta σ H λ x H1=>EBl x λ c=>if c=true then tb σ H1 Q else Q (.bl false) H1
def tOrV (ta tb:TE):TE:=λ σ H Q=>ta σ H λ x H1=>EBl x λ c=>if c=true then Q (.bl true) H1 else tb σ H1 Q
def tNotV (ta:TE):TE:=λ σ H Q=>ta σ H λ x H1=>EBl x λ c=>Q (.bl (!c)) H1
theorem cJ {op} {t:TE} (h:PE X a t):PE X (.BoolOp op [a] pos) t:=λ pins s σ H Q I hw=>BoolOp_one (h pins s σ H Q I hw)
theorem dF (ha:PE X a ta)(hb:PE X (.BoolOp .And (b::rest) pos) tb):PE X (.BoolOp .And (a::b::rest) pos) (tAndV ta tb):=by
 intro pins s σ H Q I h;refine BoolOp_and (thn (ha pins s σ H _ I h) λ v s1 ⟨x,H1,I1,r1,q1⟩=>?_);obtain⟨c,rfl,q1⟩:=q1;cases r1;refine ubl ?_;cases c with
 | true=>exact hb pins s1 σ H1 Q I1 q1
 | false=>exact⟨.bl false,H1,I1,rfl,q1⟩
theorem iG (ha:PE X a ta)(hb:PE X (.BoolOp .Or (b::rest) pos) tb):PE X (.BoolOp .Or (a::b::rest) pos) (tOrV ta tb):=by
 intro pins s σ H Q I h;refine BoolOp_or (thn (ha pins s σ H _ I h) λ v s1 ⟨x,H1,I1,r1,q1⟩=>?_);obtain⟨c,rfl,q1⟩:=q1;cases r1;refine ubl ?_;cases c with
 | false=>exact hb pins s1 σ H1 Q I1 q1
 | true=>exact⟨.bl true,H1,I1,rfl,q1⟩
theorem qQ (ha:PE X a ta):PE X (.UnaryOp .Not a pos) (tNotV ta):=by
 intro pins s σ H Q I h;refine UnaryOp_ (thn (ha pins s σ H _ I h) λ v s1 ⟨x,H1,I1,r1,q1⟩=>?_);obtain⟨c,rfl,q1⟩:=q1;cases r1;exact not_of (ubl ⟨.bl (!c),H1,I1,rfl,q1⟩)
def tIf (t:TT)(ta tb:TE):TE:=λ σ H Q=>t σ H λ c H1=>if c=true then ta σ H1 Q else tb σ H1 Q
theorem oC {c:uby}(hc:PT X c tA)(ha:PE X a ta)(hb:PE X b tb):PE X (.IfExp c a b pos) (tIf tA ta tb):=by
 intro pins s σ H Q I h;refine wpAny_IfExp (thn (hc pins s σ H _ I h) λ d s1 ⟨H1,I1,q1⟩=>?_);cases d with
 | true=>exact ha pins s1 σ H1 Q I1 q1
 | false=>exact hb pins s1 σ H1 Q I1 q1
end
end L2
namespace L2
open PySem PySem.Spec PyProof.Rows
def SqL (K:b9)(H:Hp)(a:j8)(xs:List V):Prop :=
 Rd H a (.lst xs) \/
  ∃ (o:Obj)(its:Array c9)(n:Nat),K.lookup a=some o/\o.cls=.type "list"/\o.dict=none/\o.data=.seq its n/\its.size<=o7/\Vals xs its.toList
def SqT (K:b9)(H:Hp)(a:j8)(xs:List V):Prop :=
 Rd H a (.tup xs) \/
  ∃ (o:Obj)(its:Array c9)(n:Nat),K.lookup a=some o/\o.cls=.type "tuple"/\o.data=.seq its n/\its.size<=o7/\Vals xs its.toList
def absV:c9->Option V
 | .none=>some .non
 | .bool b=>some (.bl b)
 | .int i _=>some (.int i)
 | .str x _=>some (.str x)
 | .bytes b _=>some (.byt b)
 | .float b _=>some (.flt b)
 | .ref a=>some (.ref a)
 | .type n=>some (.ty n)
 | _=>none
theorem RelV.abs {x:V}{u:c9}(r:RelV x u):absV u=some x:=by
 cases x with
 | non=>cases r;rfl
 | bl _=>cases r;rfl
 | int _=>obtain⟨t,rfl⟩:=r;rfl
 | str _=>obtain⟨t,rfl⟩:=r;rfl
 | byt _=>obtain⟨t,rfl⟩:=r;rfl
 | flt _=>obtain⟨t,rfl⟩:=r;rfl
 | ref _=>cases r;rfl
 | ty _=>cases r;rfl
theorem RelV.inj {x y:V}{u:c9}(r:RelV x u)(q:RelV y u):x=y:=ubk (r.abs.symm.trans q.abs)
theorem Vals.inj:∀ {xs ys:List V}{us:List c9},Vals xs us->Vals ys us->xs=ys
 | _,_,_,.nil,.nil=>rfl
 | _,_,_,.cons r t,.cons r' t'=>by rw[r.inj r',Vals.inj t t']
section
variable {X:Cx}{pins:List (j8 × Obj)}{σ:St}{H:Hp}{s:d8}{a:j8}{xs ys:List V}
theorem SqL.of {K:b9}(h:H a=some (.lst xs)):SqL K H a xs:=.inl (.inl h)
theorem SqT.of {K:b9}(h:H a=some (.tup xs)):SqT K H a xs:=.inl (.inl h)
theorem Inv.list (I:Inv X pins σ H s)(h:SqL X.K H a xs):∃ its:List c9,Vals xs its/\PlainL s.heap a its.toArray/\xs.length<=o7:=by
 rcases h with h | ⟨o,its,n,hk,hc,hd,hs,hz,r⟩
 ·obtain⟨z,its,n,r,e⟩:=h.ok I.hok;exact⟨its,r,⟨_,n,e,P,rfl⟩,z⟩
 ·refine⟨its.toList,r,⟨o,n,I.kIn a o hk,hc,hd,by simpa using hs⟩,?_⟩;have e:=r.length;simp only [ua7] at e;left
theorem Inv.tuple (I:Inv X pins σ H s)(h:SqT X.K H a xs):∃ its:List c9,Vals xs its/\IsTup s.heap a its.toArray/\xs.length<=o7:=by
 rcases h with h | ⟨o,its,n,hk,hc,hs,hz,r⟩
 ·obtain⟨z,its,r,p⟩:=h.ok I.hok;exact⟨its,r,p.tup,z⟩
 ·refine⟨its.toList,r,⟨o,I.kIn a o hk,hc,n,by simpa using hs⟩,?_⟩;have e:=r.length;simp only [ua7] at e;left
theorem Inv.list_inj (I:Inv X pins σ H s)(h:SqL X.K H a xs)(h':SqL X.K H a ys):xs=ys:=by
 obtain⟨its,r,⟨o,n,e,_,_,d⟩,_⟩:=I.list h;obtain⟨its',r',⟨o',n',e',_,_,d'⟩,_⟩:=I.list h';rw[e] at e';cases e';rw[d] at d';injection d' with d1 _;have:its=its':=by simpa using congrArg Array.toList d1
 subst this;exact r.inj r'
theorem Inv.tuple_inj (I:Inv X pins σ H s)(h:SqT X.K H a xs)(h':SqT X.K H a ys):xs=ys:=by
 obtain⟨its,r,⟨o,e,_,n,d⟩,_⟩:=I.tuple h;obtain⟨its',r',⟨o',e',_,n',d'⟩,_⟩:=I.tuple h';rw[e] at e';cases e';rw[d] at d';injection d' with d1 _;have:its=its':=by simpa using congrArg Array.toList d1
 subst this;exact r.inj r'
end
abbrev Cx.wish (X:Cx)(E:c9->d8->Prop):Cx:={ X with xe:=E }
abbrev Cx.nox (X:Cx):Cx:=X.wish λ _ _=>False
theorem Cx.Ok.wish {X:Cx}(ok:X.Ok)(E:c9->d8->Prop):(X.wish E).Ok :=
 ⟨ok.mod,ok.kind,ok.glob,ok.blt,ok.above,ok.inj,ok.has,ok.cab,ok.hd,ok.frames,ok.stk,ok.exf,ok.bs,ok.bsz,ok.noex,ok.exfs,ok.funs,ok.frf⟩
theorem Cx.Ok.unwish {X:Cx}{E:c9->d8->Prop}(ok:(X.wish E).Ok):X.Ok :=
 ⟨ok.mod,ok.kind,ok.glob,ok.blt,ok.above,ok.inj,ok.has,ok.cab,ok.hd,ok.frames,ok.stk,ok.exf,ok.bs,ok.bsz,ok.noex,ok.exfs,ok.funs,ok.frf⟩
section
variable {X:Cx}{pins:List (j8 × Obj)}{σ:St}{H:Hp}{s:d8}{E:c9->d8->Prop}
theorem Inv.wish (I:Inv X pins σ H s)(E:c9->d8->Prop):Inv (X.wish E) pins σ H s:=⟨I.ok.wish E,I.os,I.bare,I.base,I.loc,I.cell,I.free,I.freeC,I.pin,I.hok,I.len⟩
theorem Inv.unwish (I:Inv (X.wish E) pins σ H s):Inv X pins σ H s:=⟨I.ok.unwish,I.os,I.bare,I.base,I.loc,I.cell,I.free,I.freeC,I.pin,I.hok,I.len⟩
theorem SP.unwish {D:Ends}{f:Flow}{s':d8}(h:SP (X.wish E) pins D f s'):SP X pins D f s':=by
 cases f with
 | next=>obtain⟨σ',H',I,q⟩:=h;exact⟨σ',H',I.unwish,q⟩
 | brk=>obtain⟨σ',H',I,q⟩:=h;exact⟨σ',H',I.unwish,q⟩
 | cont=>obtain⟨σ',H',I,q⟩:=h;exact⟨σ',H',I.unwish,q⟩
 | ret u=>obtain⟨v,σ',H',I,r,q⟩:=h;exact⟨v,σ',H',I.unwish,r,q⟩
theorem PSs.nox {st:List uc9}{t:TS}(h:PSs X.nox st t):PSs X st t:=λ pins s σ H D I hw =>
 ua9 (h pins s σ H D (I.wish _) hw) (λ _ _ q=>q.unwish) λ _ _ z=>False.elim z
end
section
variable {X:Cx}{st:uc9}{rest:List uc9}{t u:TS}{e:uby}{te:TE}{pos:Pos}
def tNext:TS:=λ D σ H=>D.nx σ H
def tSeq (t u:TS):TS:=λ D σ H=>t { D with nx:=u D } σ H
theorem aS:PSs X [] tNext:=λ _ _ σ H _ I h=>udz ⟨σ,H,I,h⟩
theorem aF (h1:PS X st t)(h2:PSs X rest u):PSs X (st::rest) (tSeq t u):=by
 intro pins s σ H D I h;refine ugq (thn (h1 pins s σ H { D with nx:=u D } I h) λ f s1 q=>?_);cases f with
 | next =>
  obtain⟨σ',H',I',q⟩:=q;exact h2 pins s1 σ' H' D I' q
 | ret v=>exact q
 | brk=>exact q
 | cont=>exact q
theorem aE (h1:PS X st t):PSs X [st] t:=by
 intro pins s σ H D I h;refine ugq (thn (h1 pins s σ H D I h) λ f s1 q=>?_);cases f with
 | next=>exact udz q
 | ret v=>exact q
 | brk=>exact q
 | cont=>exact q
def tCont:TS:=λ D σ H=>D.ct σ H
theorem vX:PS X (.Continue pos) tCont:=λ _ _ σ H _ I h=>wpAny_Continue ⟨σ,H,I,h⟩
theorem Inv.quiet {pins:List (j8 × Obj)}{σ:St}{H:Hp}{s:d8}(I:Inv X pins σ H s):interactive X.env=false:=by simp [interactive,I.ok.kind]
def tDrop (te:TE):TS:=λ D σ H=>te σ H λ _ H1=>D.nx σ H1
theorem bK (he:PE X e te)(hs:swapsWith e none pos.line X.env=pure false:=by rfl):PS X (.Expr e pos) (tDrop te):=by
 intro pins s σ H D I h;exact wpAny_Expr_any (thn (he pins s σ H _ I h) λ v s1 ⟨x,H1,I1,r1,q1⟩=>⟨σ,H1,I1,q1⟩) I.quiet hs
def tRet (te:TE):TS:=λ D σ H=>te σ H D.rt
theorem aH (he:PE X e te):PS X (.Return (some e) pos) (tRet te):=by
 intro pins s σ H D I h;exact wpAny_Return_some (thn (he pins s σ H _ I h) λ v s1 ⟨x,H1,I1,r1,q1⟩=>⟨x,σ,H1,I1,r1,q1⟩)
def tIfS (c:TT)(t u:TS):TS:=λ D σ H=>c σ H λ b H1=>if b=true then t D σ H1 else u D σ H1
theorem aT {c:uby}{a b:List uc9}{tc:TT}(hc:PT X c tc)(ha:PSs X a t)(hb:PSs X b u):PS X (.If c a b pos) (tIfS tc t u):=by
 intro pins s σ H D I h;refine wpAny_If (thn (hc pins s σ H _ I h) λ d s1 ⟨H1,I1,q1⟩=>?_);cases d with
 | true=>exact ha pins s1 σ H1 D I1 q1
 | false=>exact hb pins s1 σ H1 D I1 q1
def tNever:TS:=λ _ _ _=>False
theorem zbc:PS X st tNever:=λ _ _ _ _ _ _ h=>h.elim
theorem gG {sts:List uc9}:PSs X sts tNever:=λ _ _ _ _ _ _ h=>h.elim
end
abbrev TG:=V->St->Hp->(St->Hp->Prop)->Prop
abbrev TGs:=List V->St->Hp->(St->Hp->Prop)->Prop
def PG (X:Cx)(target:uby)(t:TG):Prop :=
 ∀ (pins:List (j8 × Obj))(s:d8)(σ:St)(H:Hp)(v:V)(u:c9)(Q:St->Hp->Prop),Inv X pins σ H s->RelV v u->t v σ H Q ->
  j7 (p9 X.prog X.w) X.A (assign target X.env u) (λ _ s'=>∃ σ' H',Inv X pins σ' H' s'/\Q σ' H') X.xe s
def PGs (X:Cx)(ts:List uby)(t:TGs):Prop :=
 ∀ (pins:List (j8 × Obj))(s:d8)(σ:St)(H:Hp)(vs:List V)(us:List c9)(Q:St->Hp->Prop),Inv X pins σ H s->Vals vs us->t vs σ H Q ->
  j7 (p9 X.prog X.w) X.A (assignInOrder ((assignEach ts X.env).map (·.2)) us) (λ _ s'=>∃ σ' H',Inv X pins σ' H' s'/\Q σ' H') X.xe s
abbrev TSet:=V->V->V->Hp->(Hp->Prop)->Prop
def PSet (X:Cx)(t:TSet):Prop :=
 ∀ (pins:List (j8 × Obj))(s:d8)(σ:St)(H:Hp)(o i v:V)(ov iv u:c9)(Q:Hp->Prop),Inv X pins σ H s->RelV o ov->RelV i iv->RelV v u->t o i v H Q ->
  j7 (p9 X.prog X.w) X.A (setItem ov iv u) (λ _ s'=>∃ H',Inv X pins σ H' s'/\Q H') X.xe s
section
variable {X:Cx}{pos:Pos}
def gName (i:Nat):TG:=λ v σ H Q=>Q (σ.set i (some v)) H
theorem aN {i:Nat}{x:Str}(hN:X.N.Nodup)(hi:X.N[i]?=some x)(hx:Loc X.env.scope x)(hf:X.fn x=true\/X.env.scope.names.lookup x=some .local:=by first | exact .inl rfl | exact .inr rfl | assumption):PG X (.Name x pos) (gName i):=by
 intro pins s σ H v u Q I r h;exact wpAny_assign_Name (fA I hN hi hx r (λ s' I'=>⟨_,H,I',h⟩) hf)
def gNil:TGs:=λ vs σ H Q=>vs=[]/\Q σ H
inductive gCons_i (t:TG)(u:TGs)(vs:List V)(σ:L2.St)(H:Hp)(Q:L2.St->Hp->Prop):Prop
 | mk:∀ v r,(vs=v::r)->(t v σ H λ σ' H'=>u r σ' H' Q)->gCons_i t u vs σ H Q
def gCons (t:TG)(u:TGs):TGs:=λ vs σ H Q=>gCons_i t u vs σ H Q
theorem bT:PGs X [] gNil:=by
 intro pins s σ H vs us Q I r h;obtain⟨e,h⟩:=h;subst e;cases r;exact assignInOrder_nil ⟨σ,H,I,h⟩
theorem aU {e:uby}{es:List uby}{t:TG}{u:TGs}(h1:PG X e t)(h2:PGs X es u)
  (hs:(assignEach (e::es) X.env).map (·.2)=assign e X.env::(assignEach es X.env).map (·.2):=by rfl):PGs X (e::es) (gCons t u):=by
 intro pins s σ H vs us Q I r h;obtain⟨v,vr,e1,h⟩:=h;subst e1;cases r with
 | cons r rr =>
  rw[hs];refine assignInOrder_cons (thn (h1 pins s σ H _ _ _ I r h) λ _ s1 ⟨σ1,H1,I1,q1⟩=>?_);exact h2 pins s1 σ1 H1 _ _ Q I1 rr q1
inductive gTup_i (K:b9)(n:Nat)(t:TGs)(v:V)(σ:L2.St)(H:Hp)(Q:L2.St->Hp->Prop):Prop
 | mk:∀ a xs,(v=.ref a)->(SqT K H a xs)->(xs.length=n)->(t xs σ H Q)->gTup_i K n t v σ H Q
def gTup (K:b9)(n:Nat)(t:TGs):TG:=λ v σ H Q=>gTup_i K n t v σ H Q
theorem cZ {es:List uby}{k:Nat}{t:TGs}{n:Nat}(hc:X.calm=true)(h:PGs X es t)
  (hn:(assignEach es X.env).length=n:=by rfl) (hst:(assignEach es X.env).findIdx? (·.1)=none:=by rfl):PG X (.Tuple es k pos) (gTup X.K n t):=by
 intro pins s σ H v u Q I r hw;obtain⟨a,xs,e1,hq,hl,hw⟩:=hw;subst e1;cases r;obtain⟨its,rv,ht,hz⟩:=I.tuple hq;refine assign_Tuple_tuple (I.ok.hd hc) ht (by simp [hn,← hl,rv.length]) hst λ h' hx=>?_;have I1:Inv X pins σ H { s with heap:=h' }:=I.kept (t':=s.toks) λ b o e=>hx b o (l6 (i9 e)) e;exact h pins _ σ H xs _ Q I1 (by simpa using rv) hw
def gSub (to ti:TE)(t:TSet):TG:=λ v σ H Q=>to σ H λ o H1=>ti σ H1 λ i H2=>t o i v H2 λ H3=>Q σ H3
theorem fT {o i:uby}{to ti:TE}{t:TSet}(ho:PE X o to)(hi:PE X i ti)(hs:PSet X t)
  (ha:∀ v,assign (.Subscript o i pos) X.env v=(do
   let ov ← holding [v] (eval o X.env);let iv ← holding [v,ov] (eval i X.env)
   standAt pos
   holding [v,ov,iv] (setItem ov iv v)
   release [v,ov,iv] []):=by intro _;rfl):PG X (.Subscript o i pos) (gSub to ti t):=by
 intro pins s σ H v u Q I r h;rw[ha];refine a8 (uae (thn (ho pins s σ H _ I h) λ ov s1 ⟨x,H1,I1,r1,q1⟩=>?_));refine a8 (uae (thn (hi pins s1 σ H1 _ I1 q1) λ iv s2 ⟨y,H2,I2,r2,q2⟩=>?_));refine a8 (udx (a8 (uae (thn (hs pins s2 σ H2 x y v ov iv u _ I2 r1 r2 r q2) λ _ s3 ⟨H3,I3,q3⟩=>?_))));exact wpAny_release ⟨σ,H3,I3,q3⟩
def tAsg (te:TE)(g:TG):TS:=λ D σ H=>te σ H λ x H1=>g x σ H1 D.nx
theorem cN {tg e:uby}{te:TE}{g:TG}(he:PE X e te)(hg:PG X tg g)(hs:swapsWithSole [tg] e pos.line X.env=pure false:=by rfl)(hw:swappedStores [tg] e X.env=pure none:=by rfl)
  (h1:(assignEach [tg] X.env).map (·.2)=[assign tg X.env]:=by rfl):PS X (.Assign [tg] e pos) (tAsg te g):=by
 intro pins s σ H D I h;refine wpAny_Assign_stores (thn (he pins s σ H _ I h) λ v s1 ⟨x,H1,I1,r1,q1⟩=>?_) hs hw;rw[h1];exact thn (hg pins s1 σ H1 x v _ I1 r1 q1) λ _ s2 q=>q
theorem aQ {i:Nat}{x:Str}{e:uby}{te:TE}{pos':Pos}(hN:X.N.Nodup)(hi:X.N[i]?=some x)(hx:Loc X.env.scope x)(he:PE X e te)(hs:swapsWith e (some (.Name x pos')) pos.line X.env=pure false:=by rfl)(hf:X.fn x=true\/X.env.scope.names.lookup x=some .local:=by first | exact .inl rfl | exact .inr rfl | assumption) :
  PS X (.Assign [.Name x pos'] e pos) (tAsg te (gName i)):=by
 intro pins s σ H D I h;refine wpAny_Assign_Name (thn (he pins s σ H _ I h) λ v s1 ⟨y,H1,I1,r1,q1⟩=>?_) hs;exact fA I1 hN hi hx r1 (λ s2 I2=>⟨_,H1,I2,q1⟩) hf
def tPar (i j:Nat)(ta:TA):TS:=λ D σ H=>ta σ H λ vs H1=>ETwo vs λ v w=>D.nx ((σ.set i (some v)).set j (some w)) H1
theorem zec {i j:Nat}{x y:Str}{a b:uby}{ta:TA}{px py pt:Pos} {kt k2 pt2} (hc:X.calm=true) (hN:X.N.Nodup) (hi:X.N[i]?=some x) (hj:X.N[j]?=some y) (hij:i≠j)
  (hx:X.env.scope.names.lookup x=some .local) (hy:X.env.scope.names.lookup y=some .local) (ha:PA X [a,b] ta)
  (hw:swappedStores [.Tuple [.Name x px,.Name y py] kt pt] (.Tuple [a,b] k2 pt2) X.env=pure (some [x,y]))
  (hs:swapsWithSole [.Tuple [.Name x px,.Name y py] kt pt] (.Tuple [a,b] k2 pt2) pos.line X.env=pure false:=by rfl) :
  PS X (.Assign [.Tuple [.Name x px,.Name y py] kt pt] (.Tuple [a,b] k2 pt2) pos) (tPar i j ta):=by
 intro pins s σ H D I h;rw[exec_Assign_arm];refine a8 (udx ?_);rw[hs];refine a8 (c8 ?_);rw[ug8 (by decide)];refine a8 (Tuple_ (thn (ha _ pins s σ H _ I h) λ us s1 ⟨vs,H1,I1,r1,q1⟩=>?_));obtain⟨v,w,e1,q1⟩:=q1;subst e1;obtain⟨u1,u2,rfl,rv,rw'⟩:∃ u1 u2,us=[u1,u2]/\RelV v u1/\RelV w u2:=by
  cases r1 with
  | cons p q =>
   cases q with
   | cons p' q' =>
    cases q';exact⟨_,A,p,p'⟩
 refine v8 ?_ (by show 2<=o7;decide);have I2:Inv X pins σ H1 { s1 with heap:=s1.heap.push { cls:=.type "tuple",data:=.seq [u1,u2].toArray } }:=I1.kept (t':=s1.toks) λ b o e=>a9 _ e;rw[hw];refine a8 (c8 ?_);show j7 (p9 X.prog X.w) X.A (do rule "assign.swapped-stores";let items ← unpackItems (.ref s1.heap.objs.size) 2 none;assignInOrder [λ v=>bindName X.env y v,λ v=>bindName X.env x v] items.reverse;pure Flow.next) _ _ _;refine a8 (uc2 (a8 (unpackItems_tuple (items:=#[u1,u2]) (I.ok.hd hc) (IsTup.new s1.heap _) λ h' hx'=>?_)));have I3:=I2.kept (h':=h') (t':=s1.toks) λ b o e=>hx' b o (l6 (i9 e)) e;show j7 _ _ (assignInOrder [λ v=>bindName X.env y v,λ v=>bindName X.env x v] [u2,u1] >>= λ _=>pure Flow.next) _ _ _;refine a8 (assignInOrder_cons (wpAny_bindName (fA I3 hN hj (.inl hy) rw' (λ s2 I4=>?_) (.inr hy))));refine assignInOrder_cons (wpAny_bindName (fA I4 hN hi (.inl hx) rv (λ s3 I5=>assignInOrder_nil (c8 ?_)) (.inr hx)));rw[List.set_comm _ _ (Ne.symm hij)] at I5;exact⟨_,H1,I5,q1⟩
end
section
variable {X:Cx}{pos:Pos}
def tWhile (c:TT)(tb:TS):TS:=λ D σ H=>∃ W:Nat->St->Hp->Prop,(∃ m,W m σ H)/\∀ m σ H,W m σ H ->
 c σ H λ b H1=>if b=true then ∃ N:St->Hp->Prop,(∀ σ' H',N σ' H'->∃ m',m'<m/\W m' σ' H')/\tb { D with nx:=N,ct:=N,bk:=D.nx } σ H1 else D.nx σ H1
theorem oB {c:uby}{body:List uc9}{tc:TT}{tb:TS}(hp:PassesOwn (p9 X.prog X.w) X.A X.env X.xe)(hc:PT X c tc)(hb:PSs X body tb):PS X (.While c body [] pos) (tWhile tc tb):=by
 intro pins s σ H D I h;obtain⟨W,⟨m0,w0⟩,turn⟩:=h;refine wpAny_While (codeAny_whileLoop (λ n s'=>∃ σ' H',Inv X pins σ' H' s'/\W n σ' H') ?_ m0 ⟨σ,H,I,w0⟩);rintro n s1 ⟨σ1,H1,I1,w1⟩;refine ude hp (thn (hc pins s1 σ1 H1 _ I1 (turn n σ1 H1 w1)) λ b s2 ⟨H2,I2,q2⟩=>?_);cases b with
 | true =>
  obtain⟨N,hN,q2⟩:=q2;rw[ug7 rfl];refine ude hp (thn (hb pins s2 σ1 H2 _ I2 q2) λ f s3 q3=>?_);cases f with
  | next =>
   obtain⟨σ3,H3,I3,n3⟩:=q3;obtain⟨m',hm,w3⟩:=hN σ3 H3 n3;exact⟨m',hm,σ3,H3,I3,w3⟩
  | cont =>
   obtain⟨σ3,H3,I3,n3⟩:=q3;obtain⟨m',hm,w3⟩:=hN σ3 H3 n3;exact⟨m',hm,σ3,H3,I3,w3⟩
  | brk=>exact q3
  | ret v=>exact q3
 | false =>
  rw[ug8 j9];exact udz ⟨σ1,H2,I2,q2⟩
end
structure It where
 go:Nat->Hp->Prop
 yld:Nat->Hp->V->Hp->Prop
 stop:Nat->Hp->Prop
def FpOk (X:Cx)(pins:List (j8 × Obj))(H:Hp)(b:j8):Prop :=
 H b=none/\b≠X.env.locals/\b∉X.fs/\(b∈X.ex\/X.s₀.heap.objs.size<=b)/\(∀ x c,X.env.cells.lookup x=some c->c≠b)/\∀ p∈X.pn++pins,p.1≠b
theorem Inv.fpOk {X:Cx}{pins:List (j8 × Obj)}{σ:St}{H H':Hp}{s:d8}{b:j8}(I:Inv X pins σ H s)(hb:s.heap.objs.size<=b)(hn:H' b=none):FpOk X pins H' b:=by
 refine⟨hn,ubh (o0 I.lt hb),I.nofs hb,.inr (o8 I.sz hb),λ x c e z=>?_,λ p hp z=>?_⟩
 ·obtain⟨v,q⟩:=I.cell x c e;exact absurd (o0 q.lt (by rw[z];exact hb)) (uay _)
 ·exact absurd (o0 (i9 (I.pin p hp).1) (by rw[z];exact hb)) (uay _)
structure Turn (P:n0)(w:uak)(K:b9)(tg:uby)(J:It)(fp:List j8)(it:j8)(tn:Nat->Heap->Prop):Prop where
 mem:it∈fp
 obj:∀ i h,tn i h->∀ b∈fp,∃ o,h.get? b=some o/\∀ v,o.data≠.cell v
 keep:∀ i h h',tn i h->(∀ b∈fp,∀ o,h.get? b=some o->h'.get? b=some o)->tn i h'
 item:∀ (X:Cx),X.prog=P->X.w=w->X.K=K->X.calm=true->∀ (i:Nat)(pins:List (j8 × Obj))(s:d8)(σ:St)(H:Hp)(E:c9->d8->Prop),Inv X pins σ H s->(∀ b∈fp,FpOk X pins H b)->tn i s.heap->J.go i H ->
  j7 (p9 P w) X.A (pyNext (.ref it)) (λ r s1=>∃ u,r=some u /\
   j7 (p9 P w) X.A (letOwnedTupleGo tg (.ref it) u) (λ _ s2=>∃ x H',Inv X pins σ H' s2/\RelV x u/\J.yld i H x H'/\tn (i+1) s2.heap/\∀ b∈fp,H' b=none) E s1) E s
 done:∀ (X:Cx),X.prog=P->X.w=w->X.K=K->X.calm=true->∀ (i:Nat)(pins:List (j8 × Obj))(s:d8)(σ:St)(H:Hp)(E:c9->d8->Prop),Inv X pins σ H s->(∀ b∈fp,FpOk X pins H b)->tn i s.heap->J.stop i H ->
  j7 (p9 P w) X.A (pyNext (.ref it)) (λ r s1=>r=none/\Inv X pins σ H s1) E s
 self:∀ (A:uaj)(i:Nat)(s:d8)(Q:c9->d8->Prop)(E:c9->d8->Prop),tn i s.heap->Q (.ref it) s->j7 (p9 P w) A (pyIter (.ref it)) Q E s
abbrev TI:=St->Hp->(It->Hp->Prop)->Prop
def PIE (X:Cx)(pins:List (j8 × Obj))(σ:St)(tg:uby)(R:It->Hp->Prop)(itv:c9)(s2:d8):Prop :=
 ∃ (it:j8)(fp:List j8)(tn:Nat->Heap->Prop)(J:It)(H':Hp),itv=.ref it/\Inv X pins σ H' s2/\Turn X.prog X.w X.K tg J fp it tn/\tn 0 s2.heap/\(∀ b∈fp,FpOk X pins H' b)/\R J H'
def PI (X:Cx)(tg iter:uby)(wi:TI):Prop :=
 ∀ (pins:List (j8 × Obj))(s:d8)(σ:St)(H:Hp)(R:It->Hp->Prop),Inv X pins σ H s->wi σ H R ->
  j7 (p9 X.prog X.w) X.A (eval iter X.env) (λ v s1=>j7 (p9 X.prog X.w) X.A (pyIter v) (PIE X pins σ tg R) X.xe s1) X.xe s
theorem iH {M:Model}{A:uaj}{E:c9->d8->Prop}{s:d8}{tg:uby}{it:j8}{u:c9}{o:Obj}{n:String}{vs:Array c9}{Q:Unit->d8->Prop}(ho:s.heap.get? it=some o)(hc:o.cls=.type n)(hd:o.data=.fields vs)
  (hn:["enumerate","zip","dict_itemiterator","dict_reverseitemiterator","odict_iterator","itertools.zip_longest","itertools.pairwise"].contains n=false) (hQ:Q () s):j7 M A (letOwnedTupleGo tg (.ref it) u) Q E s:=by
 unfold letOwnedTupleGo;cases tg <;> first
  | exact c8 hQ
  | (cases u <;> first
      | exact c8 hQ
      | (refine a8 (wpAny_load ho ?_)
         rw[hc,hd];show j7 M A (if (["enumerate","zip","dict_itemiterator","dict_reverseitemiterator","odict_iterator","itertools.zip_longest","itertools.pairwise"].contains n&&vs[0]?==some (rawInt _))=true then _ else _) Q E s;rw[ug8 (by intro h;rw[hn,ud1] at h;cases h)];exact c8 hQ))
def Itl (K:b9)(a:j8):It :=
 ⟨λ i H=>∃ xs x,SqL K H a xs/\xs[i]?=some x,λ i H x H'=>H'=H/\∀ xs,SqL K H a xs->xs[i]?=some x,λ i H=>∃ xs,SqL K H a xs/\xs.length<=i⟩
def Itt (K:b9)(a:j8):It :=
 ⟨λ i H=>∃ xs x,SqT K H a xs/\xs[i]?=some x,λ i H x H'=>H'=H/\∀ xs,SqT K H a xs->xs[i]?=some x,λ i H=>∃ xs,SqT K H a xs/\xs.length<=i⟩
def Itr (lo:Int)(n:Nat):It:=⟨λ i _=>i<n,λ i H x H'=>H'=H/\x=.int (lo+i),λ i _=>n<=i⟩
theorem yG {P:n0}{w:uak}{K:b9}{tg:uby}(a it:j8):Turn P w K tg (Itl K a) [it] it (λ i h=>h.IsListIter it a i) where
 mem:=by simp
 obj:=λ i h st b hb=>by
  have e:b=it:=by simpa using hb
  subst e;obtain⟨o,e,c,d⟩:=st;exact⟨o,e,λ v z=>by rw[d] at z;cases z⟩
 keep:=λ i h h' st k=>st.at λ o e=>k it (by simp) o e
 item:=by
  intro X hP hw hK hc i pins s σ H E I hf st hg;subst hP hw hK;obtain⟨xs,x,hq,hx⟩:=hg;obtain⟨its,rv,p,hz⟩:=I.list hq;obtain⟨u,hu,ru⟩:=rv.get hx;obtain⟨f0,f1,f2,f3,f4,f5⟩:=hf it (by simp);refine wpAny_pyNext_list_item st p.isList (x:=u) (by simpa using hu) λ h' st' sb=>?_;have I1:Inv X pins σ H { s with heap:=h' }:=I.turned (t':=s.toks) (λ b o hb e=>(sb.2 b hb).trans e) f0 f1 f3 f4 f5;obtain⟨o,e,c,d⟩:=id st';exact⟨u,rfl,iH (s:={ s with heap:=h' }) e c d (by decide) ⟨x,H,I1,ru,⟨rfl,λ ys hy=>by rw[I.list_inj hy hq];exact hx⟩,st',λ b hb=>(hf b hb).1⟩⟩
 done:=by
  intro X hP hw hK hc i pins s σ H E I hf st hg;subst hP hw hK;obtain⟨xs,hq,hx⟩:=hg;obtain⟨its,rv,p,hz⟩:=I.list hq;obtain⟨f0,f1,f2,f3,f4,f5⟩:=hf it (by simp);have hl:=rv.length;exact wpAny_pyNext_list_end (I.ok.hd hc) st p.isList (by simp;left) λ h' eb=>⟨rfl,I.turned (t':=s.toks) (λ b o hb e=>eb b o hb e) f0 f1 f3 f4 f5⟩
 self:=λ _ _ _ _ _ st h=>wpAny_pyIter_listiter st h
theorem xD {P:n0}{w:uak}{K:b9}{tg:uby}(a it:j8):Turn P w K tg (Itt K a) [it] it (λ i h=>h.IsTupleIter it a i) where
 mem:=by simp
 obj:=λ i h st b hb=>by
  have e:b=it:=by simpa using hb
  subst e;obtain⟨o,e,c,d⟩:=st;exact⟨o,e,λ v z=>by rw[d] at z;cases z⟩
 keep:=λ i h h' st k=>st.at λ o e=>k it (by simp) o e
 item:=by
  intro X hP hw hK hc i pins s σ H E I hf st hg;subst hP hw hK;obtain⟨xs,x,hq,hx⟩:=hg;obtain⟨its,rv,p,hz⟩:=I.tuple hq;obtain⟨u,hu,ru⟩:=rv.get hx;obtain⟨f0,f1,f2,f3,f4,f5⟩:=hf it (by simp);refine wpAny_pyNext_tuple_item st (show s.heap.IsTuple a its.toArray from p) (x:=u) (by simpa using hu) λ h' st' sb=>?_;have I1:Inv X pins σ H { s with heap:=h' }:=I.turned (t':=s.toks) (λ b o hb e=>(sb.2 b hb).trans e) f0 f1 f3 f4 f5;obtain⟨o,e,c,d⟩:=id st';exact⟨u,rfl,iH (s:={ s with heap:=h' }) e c d (by decide) ⟨x,H,I1,ru,⟨rfl,λ ys hy=>by rw[I.tuple_inj hy hq];exact hx⟩,st',λ b hb=>(hf b hb).1⟩⟩
 done:=by
  intro X hP hw hK hc i pins s σ H E I hf st hg;subst hP hw hK;obtain⟨xs,hq,hx⟩:=hg;obtain⟨its,rv,p,hz⟩:=I.tuple hq;obtain⟨f0,f1,f2,f3,f4,f5⟩:=hf it (by simp);have hl:=rv.length;exact wpAny_pyNext_tuple_end (I.ok.hd hc) st (show s.heap.IsTuple a its.toArray from p) (by simp;left) λ h' eb=>⟨rfl,I.turned (t':=s.toks) (λ b o hb e=>eb b o hb e) f0 f1 f3 f4 f5⟩
 self:=λ _ _ _ _ _ st h=>wpAny_pyIter_tupleiter st h
theorem xE {P:n0}{w:uak}{K:b9}{tg:uby}(it:j8)(lo:Int)(n:Nat):Turn P w K tg (Itr lo n) [it] it (λ i h=>IsRangeIter h it (lo+(i:Nat)*1) ((n:Int)-(i:Nat)) 1) where
 mem:=by simp
 obj:=λ i h st b hb=>by
  have e:b=it:=by simpa using hb
  subst e;exact⟨_,st,λ v z=>by
   have z':Data.fields _=Data.cell v:=z;cases z'⟩
 keep:=λ i h h' st k=>k it (by simp) _ st
 item:=by
  intro X hP hw hK hc i pins s σ H E I hf st hg;subst hP hw hK;obtain⟨f0,f1,f2,f3,f4,f5⟩:=hf it (by simp);have W:=Walks.range (prog:=X.prog) (w:=X.w) (I.ok.hd hc) it lo 1 n;refine W.item i s _ _ hg st λ v h' tk hv st' kk=>?_;obtain⟨t,rfl⟩:=hv;have I1:Inv X pins σ H { s with heap:=h',toks:=tk }:=I.turned (λ b o hb e=>kk b o (by simpa using hb) e) f0 f1 f3 f4 f5;refine⟨A,iH (s:={ s with heap:=h',toks:=tk }) (n:="range_iterator") st' rfl rfl (by decide) ⟨.int (lo+i),H,I1,⟨t,?_⟩,⟨rfl,rfl⟩,st',λ b hb=>(hf b hb).1⟩⟩;rw[Int.mul_one]
 done:=by
  intro X hP hw hK hc i pins s σ H E I hf st hg;subst hP hw hK;obtain⟨f0,f1,f2,f3,f4,f5⟩:=hf it (by simp);exact wpAny_pyNext_range_end (I.ok.hd hc) st (by have:n<=i:=hg;left) λ h' eb=>⟨rfl,I.turned (t':=s.toks) (λ b o hb e=>eb b o hb e) f0 f1 f3 f4 f5⟩
 self:=λ _ _ _ _ _ st h=>wpAny_pyIter_rangeiter st h
end L2
namespace L2
open PySem PySem.Spec PyProof.Rows
section
variable {X:Cx}{tg:uby}
def iList (K:b9)(tl:TE):TI:=λ σ H R=>tl σ H λ x H1=>ERef x λ a=>(∃ xs,SqL K H1 a xs)/\R (Itl K a) H1
def iTup (K:b9)(tl:TE):TI:=λ σ H R=>tl σ H λ x H1=>ERef x λ a=>(∃ xs,SqT K H1 a xs)/\R (Itt K a) H1
theorem gW {l:uby}{tl:TE}(hl:PE X l tl):PI X tg l (iList X.K tl):=by
 intro pins s σ H R I h;refine thn (hl pins s σ H _ I h) λ v s1 ⟨x,H1,I1,r1,q1⟩=>?_;obtain⟨a,e,⟨xs,hq⟩,q⟩:=q1;subst e;cases r1;obtain⟨its,rv,p,hz⟩:=I1.list hq;refine uck p.isList ?_;refine⟨s1.heap.objs.size,[s1.heap.objs.size],V,H1,rfl,I1.kept (t':=s1.toks) λ b o e=>a9 _ e,yG a _,⟨_,i7 _ rfl,rfl,rfl⟩,λ b hb=>?_,q⟩;have e:b=s1.heap.objs.size:=by simpa using hb
 subst e;exact I1.fpOk (i6 _) (I1.hok.fresh (i6 _))
theorem bW {l:uby}{tl:TE}(hl:PE X l tl):PI X tg l (iTup X.K tl):=by
 intro pins s σ H R I h;refine thn (hl pins s σ H _ I h) λ v s1 ⟨x,H1,I1,r1,q1⟩=>?_;obtain⟨a,e,⟨xs,hq⟩,q⟩:=q1;subst e;cases r1;obtain⟨its,rv,p,hz⟩:=I1.tuple hq;refine uem (show s1.heap.IsTuple a its.toArray from p) ?_;refine⟨s1.heap.objs.size,[s1.heap.objs.size],V,H1,rfl,I1.kept (t':=s1.toks) λ b o e=>a9 _ e,xD a _,⟨_,i7 _ rfl,rfl,rfl⟩,λ b hb=>?_,q⟩;have e:b=s1.heap.objs.size:=by simpa using hb
 subst e;exact I1.fpOk (i6 _) (I1.hok.fresh (i6 _))
theorem zba {pins:List (j8 × Obj)}{σ:St}{H:Hp}{s:d8}{R:It->Hp->Prop}{E:c9->d8->Prop}{lo hi:Int}{t u v:Tok}{tk:Nat}(I:Inv X pins σ H s)(h1:-(2^62)<=lo)(h2:lo<2^62)(h3:-(2^62)<=hi)(h4:hi<2^62)
  (q:R (Itr lo (hi-lo).toNat) H):j7 (p9 X.prog X.w) X.A (pyIter (.ref s.heap.objs.size)) (PIE X pins σ tg R) E { s with heap:=s.heap.push { cls:=.type "range",data:=.fields #[.int lo t,.int hi u,.int 1 v] },toks:=tk }:=by
 refine wpAny_pyIter_range (IsRange.new ..) (small_one h1 h2 h3 h4) ?_;have I1:Inv X pins σ H { s with heap:=s.heap.push { cls:=.type "range",data:=.fields #[.int lo t,.int hi u,.int 1 v] },toks:=tk }:=I.kept λ b o e=>a9 _ e;refine⟨(s.heap.push { cls:=.type "range",data:=.fields #[.int lo t,.int hi u,.int 1 v] }).objs.size,[(s.heap.push { cls:=.type "range",data:=.fields #[.int lo t,.int hi u,.int 1 v] }).objs.size],V,H,rfl,
  I1.kept (t':=tk) λ b o e=>a9 _ e,xE _ lo (hi-lo).toNat,?_,λ b hb=>?_,q⟩
 ·have e1:lo+((0:Nat):Int)*1=lo:=by simp
  have e2:(((hi-lo).toNat:Nat):Int)-((0:Nat):Int)=Builtin.Range.rangeSize lo hi 1:=by rw[rangeSize_one];split <;> left
  show IsRangeIter _ _ (lo+((0:Nat):Int)*1) ((((hi-lo).toNat:Nat):Int)-((0:Nat):Int)) 1;rw[e1,e2];exact i7 _ rfl
 ·have e:b=(s.heap.push { cls:=.type "range",data:=.fields #[.int lo t,.int hi u,.int 1 v] }).objs.size:=by simpa using hb
  subst e;exact I1.fpOk (i6 _) (I1.hok.fresh (i6 _))
def iRng1 (ta:TA):TI:=λ σ H R=>ta σ H λ vs H1=>EOne vs λ j=>-(2^62)<=j/\j<2^62/\R (Itr 0 j.toNat) H1
theorem cS {a:uby}{ta:TA}{p pos:Pos}(hg:Gl X "range")(hm:X.mg "range"=none)(ha:PA X [a] ta)(hs:uav [a] X.env=[(false,eval a X.env)]:=by rfl):PI X tg (.Call (.Name "range" p) [a] [] pos) (iRng1 ta):=by
 intro pins s σ H R I h;refine Call_ (dQ I hg hm boot_range (ucv (thn (ha pos pins s σ H _ I h) λ us s1 ⟨vs,H1,I1,r1,q1⟩=>?_) hs rfl));obtain⟨j,e,q1,q2,q⟩:=q1;subst e;cases r1 with
 | cons r rr =>
  cases rr;obtain⟨t,rfl⟩:=r;exact call_range_1 (zba I1 (by left) (by left) q1 q2 (by simpa using q))
def tFor (wi:TI)(g:TG)(tb:TS):TS:=λ D σ H=>wi σ H λ J H1=>∃ W:Nat->Nat->St->Hp->Prop,(∃ m,W 0 m σ H1)/\∀ i m σ H,W i m σ H ->
 (J.stop i H/\D.nx σ H)\/(J.go i H/\∃ N:St->Hp->Prop,(∀ σ' H',N σ' H'->∃ m',m'<m/\W (i+1) m' σ' H')/\∀ x H',J.yld i H x H'->g x σ H' λ σ2 H2=>tb { D with nx:=N,ct:=N,bk:=D.nx } σ2 H2)
def pinsAt (fp:List j8)(h:Heap):List (j8 × Obj):=fp.filterMap λ b=>(h.get? b).map λ o=>(b,o)
theorem dW {fp:List j8}{h:Heap}{b:j8}{o:Obj}(hb:b∈fp)(e:h.get? b=some o):(b,o)∈pinsAt fp h:=uco.mpr ⟨b,hb,by rw[e];rfl⟩
theorem zA {fp:List j8}{h:Heap}{p:j8 × Obj}(hp:p∈pinsAt fp h):p.1∈fp/\h.get? p.1=some p.2:=by
 obtain⟨b,hb,e⟩:=uco.mp hp;cases q:h.get? b with
 | none=>rw[q] at e;cases e
 | some o =>
  rw[q] at e;have e':(b,o)=p:=ubk e;subst e';exact⟨hb,q⟩
theorem Inv.pinned {pins:List (j8 × Obj)}{σ:St}{H:Hp}{s:d8}{fp:List j8}(I:Inv X pins σ H s)(hf:∀ b∈fp,FpOk X pins H b)(ho:∀ b∈fp,∃ o,s.heap.get? b=some o/\∀ v,o.data≠.cell v):Inv X (pins++pinsAt fp s.heap) σ H s :=
 I.pins_of λ p hp=>(w8.mp hp).elim (λ z=>I.pin p (r6 _ z)) λ z=>by
  obtain⟨hb,e⟩:=zA z;obtain⟨f0,f1,f2,_⟩:=hf p.1 hb;obtain⟨o,e',d⟩:=ho p.1 hb;rw[e] at e';cases e';exact⟨e,f0,f1,f2,d⟩
theorem Inv.unpinned {pins pl:List (j8 × Obj)}{σ:St}{H:Hp}{s:d8}(I:Inv X (pins++pl) σ H s):Inv X pins σ H s:=I.pins_of λ p hp=>I.pin p (r6 _ (ubg _ hp))
theorem cC {iter:uby}{body:List uc9}{wi:TI}{g:TG}{tb:TS}{pos:Pos}(hp:PassesOwn (p9 X.prog X.w) X.A X.env X.xe)(hc:X.calm=true)(hi:PI X tg iter wi)(hg:PG X tg g)(hb:PSs X body tb)
  (hs:∀ x,foldedSetIterable iter X.env x=pure x:=by intro _;rfl):PS X (.For tg iter body [] pos) (tFor wi g tb):=by
 intro pins s σ H D I h;refine wpAny_For (thn (hi pins s σ H _ I h) λ v s1 h1=>thn h1 λ itv s2 h2=>?_) hs;obtain⟨it,fp,tn,J,H2,e,I2,T,st2,f2,W,⟨m0,w0⟩,turn⟩:=h2;subst e
 have stat:∀ {H':Hp},(∀ b∈fp,H' b=none)->∀ b∈fp,FpOk X pins H' b:=λ hn b hb=>⟨hn b hb,(f2 b hb).2⟩;refine codeAny_forLoop_any (λ n s'=>∃ i σ' H',Inv X pins σ' H' s'/\tn i s'.heap/\(∀ b∈fp,H' b=none)/\W i n σ' H') ?_ m0 ⟨0,σ,H2,I2,st2,λ b hb=>(f2 b hb).1,w0⟩;rintro n s3 ⟨i,σ3,H3,I3,st3,fr3,w3⟩;rcases turn i n σ3 H3 w3 with ⟨stop,qn⟩ | ⟨go,N,hN,step⟩
 ·refine ude hp (thn (T.done X rfl rfl rfl hc i pins s3 σ3 H3 X.xe I3 (stat fr3) st3 stop) λ r s4 ⟨hr,I4⟩=>?_);subst hr;exact udz ⟨σ3,H3,I4,qn⟩
 ·refine ude hp (thn (T.item X rfl rfl rfl hc i pins s3 σ3 H3 X.xe I3 (stat fr3) st3 go) λ r s4 ⟨u,hr,h4⟩=>?_);subst hr;refine ude hp (thn h4 λ _ s5 ⟨x,H5,I5,r5,y5,st5,fr5⟩=>?_);have I5':=I5.pinned (stat fr5) (T.obj _ _ st5);refine ude hp (thn (hg _ s5 σ3 H5 x u _ I5' r5 (step x H5 y5)) λ _ s6 ⟨σ6,H6,I6,q6⟩=>?_);refine ude hp (thn (hb _ s6 σ6 H6 _ I6 q6) λ f s7 q7=>?_);have again:∀ {σ7:St}{H7:Hp},Inv X (pins++pinsAt fp s5.heap) σ7 H7 s7->N σ7 H7->∃ m,m<n/\∃ i σ' H',Inv X pins σ' H' s7/\tn i s7.heap/\(∀ b∈fp,H' b=none)/\W i m σ' H':=λ {σ7 H7} I7 n7=>by
   obtain⟨m',hm,w7⟩:=hN σ7 H7 n7;refine⟨m',hm,i+1,σ7,H7,I7.unpinned,T.keep _ _ _ st5 λ b hb o e=>(I7.pin (b,o) (r6 _ (r6 _ (dW hb e)))).1,λ b hb=>?_,w7⟩;obtain⟨o,e,d⟩:=T.obj _ _ st5 b hb;exact (I7.pin (b,o) (r6 _ (r6 _ (dW hb e)))).2.1
  cases f with
  | next=>obtain⟨σ7,H7,I7,n7⟩:=q7;exact again I7 n7
  | cont=>obtain⟨σ7,H7,I7,n7⟩:=q7;exact again I7 n7
  | brk=>obtain⟨σ7,H7,I7,q7⟩:=q7;exact⟨σ7,H7,I7.unpinned,q7⟩
  | ret v=>obtain⟨x7,σ7,H7,I7,r7,q7⟩:=q7;exact⟨x7,σ7,H7,I7.unpinned,r7,q7⟩
end
theorem zb0 {K:b9}{a:j8}{xs:List V}{g:TG}{tb:TS}{D:Ends}{σ:St}{H:Hp}(Pv:Nat->St->Hp->Prop)(h0:Pv 0 σ H)(hl:∀ i σ H,i<=xs.length->Pv i σ H->SqL K H a xs)
  (hs:∀ i x σ H,xs[i]?=some x->Pv i σ H->g x σ H λ σ2 H2=>tb { D with nx:=Pv (i+1),ct:=Pv (i+1),bk:=D.nx } σ2 H2) (hd:∀ σ H,Pv xs.length σ H->D.nx σ H) :
  ∃ W:Nat->Nat->St->Hp->Prop,(∃ m,W 0 m σ H)/\∀ i m σ H,W i m σ H ->
   ((Itl K a).stop i H/\D.nx σ H)\/((Itl K a).go i H/\∃ N:St->Hp->Prop,(∀ σ' H',N σ' H'->∃ m',m'<m/\W (i+1) m' σ' H')/\∀ x H',(Itl K a).yld i H x H'->g x σ H' λ σ2 H2=>tb { D with nx:=N,ct:=N,bk:=D.nx } σ2 H2):=by
 refine⟨λ i m σ H=>m=xs.length-i/\i<=xs.length/\Pv i σ H,⟨xs.length,by simp,x8 _,h0⟩,?_⟩;rintro i m σ H ⟨rfl,hi,p⟩;have q:=hl i σ H hi p;by_cases hlt:i<xs.length
 ·refine .inr ⟨⟨xs,xs[i],q,by simp [hlt]⟩,Pv (i+1),λ σ' H' p'=>⟨xs.length-(i+1),by left,rfl,hlt,p'⟩,λ x H' y=>?_⟩;obtain⟨e,y⟩:=y;subst e;exact hs i x σ _ (y xs q) p
 ·have e:i=xs.length:=by left
  subst e;exact .inl ⟨⟨xs,q,i6 _⟩,hd σ H p⟩
theorem gZ {K:b9}{a:j8}{xs:List V}{g:TG}{tb:TS}{D:Ends}{σ:St}{H:Hp}(Pv:Nat->St->Hp->Prop)(h0:Pv 0 σ H)(hl:∀ i σ H,i<=xs.length->Pv i σ H->SqT K H a xs)
  (hs:∀ i x σ H,xs[i]?=some x->Pv i σ H->g x σ H λ σ2 H2=>tb { D with nx:=Pv (i+1),ct:=Pv (i+1),bk:=D.nx } σ2 H2) (hd:∀ σ H,Pv xs.length σ H->D.nx σ H) :
  ∃ W:Nat->Nat->St->Hp->Prop,(∃ m,W 0 m σ H)/\∀ i m σ H,W i m σ H ->
   ((Itt K a).stop i H/\D.nx σ H)\/((Itt K a).go i H/\∃ N:St->Hp->Prop,(∀ σ' H',N σ' H'->∃ m',m'<m/\W (i+1) m' σ' H')/\∀ x H',(Itt K a).yld i H x H'->g x σ H' λ σ2 H2=>tb { D with nx:=N,ct:=N,bk:=D.nx } σ2 H2):=by
 refine⟨λ i m σ H=>m=xs.length-i/\i<=xs.length/\Pv i σ H,⟨xs.length,by simp,x8 _,h0⟩,?_⟩;rintro i m σ H ⟨rfl,hi,p⟩;have q:=hl i σ H hi p;by_cases hlt:i<xs.length
 ·refine .inr ⟨⟨xs,xs[i],q,by simp [hlt]⟩,Pv (i+1),λ σ' H' p'=>⟨xs.length-(i+1),by left,rfl,hlt,p'⟩,λ x H' y=>?_⟩;obtain⟨e,y⟩:=y;subst e;exact hs i x σ _ (y xs q) p
 ·have e:i=xs.length:=by left
  subst e;exact .inl ⟨⟨xs,q,i6 _⟩,hd σ H p⟩
theorem dJ {lo:Int}{n:Nat}{g:TG}{tb:TS}{D:Ends}{σ:St}{H:Hp}(Pv:Nat->St->Hp->Prop)(h0:Pv 0 σ H)
  (hs:∀ i σ H,i<n->Pv i σ H->g (.int (lo+i)) σ H λ σ2 H2=>tb { D with nx:=Pv (i+1),ct:=Pv (i+1),bk:=D.nx } σ2 H2) (hd:∀ σ H,Pv n σ H->D.nx σ H) :
  ∃ W:Nat->Nat->St->Hp->Prop,(∃ m,W 0 m σ H)/\∀ i m σ H,W i m σ H ->
   ((Itr lo n).stop i H/\D.nx σ H)\/((Itr lo n).go i H/\∃ N:St->Hp->Prop,(∀ σ' H',N σ' H'->∃ m',m'<m/\W (i+1) m' σ' H')/\∀ x H',(Itr lo n).yld i H x H'->g x σ H' λ σ2 H2=>tb { D with nx:=N,ct:=N,bk:=D.nx } σ2 H2):=by
 refine⟨λ i m σ H=>m=n-i/\i<=n/\Pv i σ H,⟨n,by simp,x8 _,h0⟩,?_⟩;rintro i m σ H ⟨rfl,hi,p⟩;by_cases hlt:i<n
 ·refine .inr ⟨hlt,Pv (i+1),λ σ' H' p'=>⟨n-(i+1),by left,rfl,hlt,p'⟩,λ x H' y=>?_⟩;obtain⟨e,y⟩:=y;subst e y;exact hs i σ _ hlt p
 ·have e:i=n:=by left
  subst e;exact .inl ⟨i6 _,hd σ H p⟩
end L2
namespace L2
open PySem PySem.Spec PyProof.Rows
abbrev R2:=V->V->Hp->VK->Prop
def OpR (X:Cx)(f:c9->c9->Sem c9)(r:R2):Prop :=
 ∀ (pins:List (j8 × Obj))(s:d8)(σ:St)(H:Hp)(x y:V)(v u:c9)(Q:VK),Inv X pins σ H s->RelV x v->RelV y u->r x y H Q ->
  j7 (p9 X.prog X.w) X.A (f v u) (EP X pins σ Q) X.xe s
def UnR (X:Cx)(f:c9->Sem c9)(r:V->Hp->VK->Prop):Prop :=
 ∀ (pins:List (j8 × Obj))(s:d8)(σ:St)(H:Hp)(x:V)(v:c9)(Q:VK),Inv X pins σ H s->RelV x v->r x H Q ->
  j7 (p9 X.prog X.w) X.A (f v) (EP X pins σ Q) X.xe s
def CallR (X:Cx)(f:c9)(r:List V->Hp->VK->Prop):Prop :=
 ∀ (pins:List (j8 × Obj))(s:d8)(σ:St)(H:Hp)(xs:List V)(us:List c9)(Q:VK),Inv X pins σ H s->Vals xs us->r xs H Q ->
  j7 (p9 X.prog X.w) X.A (call f us) (EP X pins σ Q) X.xe s
def tOp (r:R2)(ta tb:TE):TE:=λ σ H Q=>ta σ H λ x H1=>tb σ H1 λ y H2=>r x y H2 Q
def tUn (r:V->Hp->VK->Prop)(ta:TE):TE:=λ σ H Q=>ta σ H λ x H1=>r x H1 Q
inductive rI_i (C:Int->Int->Prop)(g:Int->Int->V)(x:V)(y:V)(H:Hp)(Q:VK):Prop
 | mk:∀ i j,(x=.int i)->(y=.int j)->(C i j)->(Q (g i j) H)->rI_i C g x y H Q
def rI (C:Int->Int->Prop)(g:Int->Int->V):R2:=λ x y H Q=>rI_i C g x y H Q
inductive rI0_i (g:Int->Int->V)(x:V)(y:V)(H:Hp)(Q:VK):Prop
 | mk:∀ i j,(x=.int i)->(y=.int j)->(Q (g i j) H)->rI0_i g x y H Q
def rI0 (g:Int->Int->V):R2:=λ x y H Q=>rI0_i g x y H Q
inductive rU_i (g:Int->V)(x:V)(H:Hp)(Q:VK):Prop
 | mk:∀ i,(x=.int i)->(Q (g i) H)->rU_i g x H Q
def rU (g:Int->V):V->Hp->VK->Prop:=λ x H Q=>rU_i g x H Q
section
variable {X:Cx}{a b c:uby}{ta tb tc:TE}{pos:Pos}
theorem binT (ha:PE X a ta)(hb:PE X b tb){pins:List (j8 × Obj)}{s:d8}{σ:St}{H:Hp}{R:V->V->Hp->Prop}(I:Inv X pins σ H s)
  (h:ta σ H λ x H1=>tb σ H1 λ y H2=>R x y H2) {Q:c9->d8->Prop} {f:c9->c9->Sem c9}
  (hf:∀ v u s2 x y H2,Inv X pins σ H2 s2->RelV x v->RelV y u->R x y H2->j7 (p9 X.prog X.w) X.A (f v u) Q X.xe s2) :
  j7 (p9 X.prog X.w) X.A (eval a X.env) (λ v s₁=>j7 (p9 X.prog X.w) X.A (eval b X.env) (λ u s₂=>j7 (p9 X.prog X.w) X.A (f v u) Q X.xe s₂) X.xe s₁) X.xe s:=by
 refine thn (ha pins s σ H _ I h) λ v s1 ⟨x,H1,I1,r1,q1⟩=>?_;refine thn (hb pins s1 σ H1 _ I1 q1) λ u s2 ⟨y,H2,I2,r2,q2⟩=>?_;exact hf v u s2 x y H2 I2 r1 r2 q2
theorem aL {op:Operator}{r:R2}(ho:OpR X (binaryOp op) r)(ha:PE X a ta)(hb:PE X b tb):PE X (.BinOp a op b pos) (tOp r ta tb):=by
 intro pins s σ H Q I h;exact wpAny_BinOp (binT ha hb I h λ v u s2 x y H2 I2 rx ry q=>ho pins s2 σ H2 x y v u Q I2 rx ry q)
theorem eR {op:UnaryOp}{r:V->Hp->VK->Prop}(ho:UnR X (unaryOp op) r)(ha:PE X a ta):PE X (.UnaryOp op a pos) (tUn r ta):=by
 intro pins s σ H Q I h;exact UnaryOp_ (thn (ha pins s σ H _ I h) λ v s1 ⟨x,H1,I1,r1,q1⟩=>ho pins s1 σ H1 x v Q I1 r1 q1)
theorem opI {f:c9->c9->Sem c9}{C:Int->Int->Prop}{g:Int->Int->Int}
  (rule:∀ (i j:Int)(t u:Tok)(s:d8)(Q:c9->d8->Prop)(E:c9->d8->Prop),C i j->Q (.int (g i j) s.toks) { s with toks:=s.toks+1 }->j7 (p9 X.prog X.w) X.A (f (.int i t) (.int j u)) Q E s) :
  OpR X f (rI C λ i j=>.int (g i j)):=by
 intro pins s σ H x y v u Q I rx ry h;obtain⟨i,j,rfl,rfl,hc,q⟩:=h;obtain⟨t,rfl⟩:=rx;obtain⟨t',rfl⟩:=ry;exact rule i j t t' s _ _ hc ⟨.int (g i j),H,I.tok _,⟨A⟩,q⟩
theorem opI0 {f:c9->c9->Sem c9}{g:Int->Int->Int}
  (rule:∀ (i j:Int)(t u:Tok)(s:d8)(Q:c9->d8->Prop)(E:c9->d8->Prop),Q (.int (g i j) s.toks) { s with toks:=s.toks+1 }->j7 (p9 X.prog X.w) X.A (f (.int i t) (.int j u)) Q E s) :
  OpR X f (rI0 λ i j=>.int (g i j)):=by
 intro pins s σ H x y v u Q I rx ry h;obtain⟨i,j,rfl,rfl,q⟩:=h;obtain⟨t,rfl⟩:=rx;obtain⟨t',rfl⟩:=ry;exact rule i j t t' s _ _ ⟨.int (g i j),H,I.tok _,⟨A⟩,q⟩
theorem opB0 {f:c9->c9->Sem c9}{g:Int->Int->Bool}
  (rule:∀ (i j:Int)(t u:Tok)(s:d8)(Q:c9->d8->Prop)(E:c9->d8->Prop),Q (.bool (g i j)) s->j7 (p9 X.prog X.w) X.A (f (.int i t) (.int j u)) Q E s) :
  OpR X f (rI0 λ i j=>.bl (g i j)):=by
 intro pins s σ H x y v u Q I rx ry h;obtain⟨i,j,rfl,rfl,q⟩:=h;obtain⟨t,rfl⟩:=rx;obtain⟨t',rfl⟩:=ry;exact rule i j t t' s _ _ ⟨.bl (g i j),H,I,rfl,q⟩
def CDiv (i j:Int):Prop:=0<j/\j<1073741824
def CPow (i j:Int):Prop:=0<=j/\j<=1000000/\i.natAbs<2^64
def CMul (i j:Int):Prop:=(-(2^64)<i/\i<2^64)\/(-(2^64)<j/\j<2^64)
theorem CMul.ok {i j:Int}(h:CMul i j):IntMulOk i j:=by
 rcases h with ⟨h1,h2⟩ | ⟨h1,h2⟩
 ·exact .of_left (intBits_le_64 h1 h2)
 ·exact .of_right (intBits_le_64 h1 h2)
theorem bR:OpR X (binaryOp .Add) (rI0 λ i j=>.int (i+j)):=opI0 λ _ _ _ _ _ _ _ q=>add_int q
theorem dA:OpR X (binaryOp .Sub) (rI0 λ i j=>.int (i-j)):=opI0 λ _ _ _ _ _ _ _ q=>sub_int q
theorem iD:OpR X (binaryOp .Mult) (rI CMul λ i j=>.int (i*j)):=opI λ _ _ _ _ _ _ _ hc q=>mul_int q hc.ok
theorem pU:OpR X (binaryOp .FloorDiv) (rI CDiv λ i j=>.int (i / j)):=opI λ i j _ _ _ _ _ hc q=>by
 have h1:(0:Int)<j:=hc.1;have h2:j<1073741824:=hc.2;exact floordiv_int (by left) (by rw[Int.fdiv_eq_ediv_of_nonneg i (by left)];exact q) (.inl (PyProof.noPylong_small (by left)))
theorem cO:OpR X (binaryOp .Mod) (rI (λ _ j=>0<j) λ i j=>.int (i%j)):=opI λ i j _ _ _ _ _ hc q=>by
 have h1:(0:Int)<j:=hc;exact mod_int' (by left) (by rw[Int.fmod_eq_emod_of_nonneg i (by left)];exact q)
theorem cK:OpR X (binaryOp .Pow) (rI CPow λ i j=>.int (i^j.toNat)):=opI λ _ _ _ _ _ _ _ hc q=>pow_int_small hc.1 hc.2.1 hc.2.2 q
theorem unI {f:c9->Sem c9}{g:Int->Int}
  (rule:∀ (i:Int)(t:Tok)(s:d8)(Q:c9->d8->Prop)(E:c9->d8->Prop),Q (.int (g i) s.toks) { s with toks:=s.toks+1 }->j7 (p9 X.prog X.w) X.A (f (.int i t)) Q E s) :
  UnR X f (rU λ i=>.int (g i)):=by
 intro pins s σ H x v Q I rx h;obtain⟨i,rfl,q⟩:=h;obtain⟨t,rfl⟩:=rx;exact rule i t s _ _ ⟨.int (g i),H,I.tok _,⟨A⟩,q⟩
theorem eK:UnR X (unaryOp .USub) (rU λ i=>.int (-i)):=unI λ _ _ _ _ _ q=>neg_int q
end
def scal:V->V->Bool
 | .non,.non=>true | .non,.int _=>true | .int _,.non=>true | .non,.bl _=>true | .bl _,.non=>true | .non,.str _=>true | .str _,.non=>true
 | .int _,.int _=>true | .bl _,.bl _=>true | .str _,.str _=>true | .byt _,.byt _=>true
 | .int _,.str _=>true | .str _,.int _=>true | .bl _,.str _=>true | .str _,.bl _=>true
 | _,_=>false
def rEq:R2:=λ x y H Q=>scal x y=true/\Q (.bl (decide (x=y))) H
def rNe:R2:=λ x y H Q=>scal x y=true/\Q (.bl (!decide (x=y))) H
theorem qD {i j:Int}:decide (V.int i=V.int j)=(i==j):=by
 rw[uci];simp
theorem rC {i j:Bool}:decide (V.bl i=V.bl j)=(i==j):=by
 rw[uci];simp
theorem qC {i j:Str}:decide (V.str i=V.str j)=(i==j):=by
 rw[uci];simp
theorem qE {i j:Array UInt8}:decide (V.byt i=V.byt j)=(i.toList==j.toList):=by
 rw[uci];cases i;cases j;simp
section
variable {X:Cx}{a b c:uby}{ta tb tc:TE}{pos:Pos}
theorem aX {pins:List (j8 × Obj)}{σ:St}{H:Hp}{s:d8}{Q:VK}{k k':Bool}(I:Inv X pins σ H s)(q:Q (.bl k) H)(e:k=k'):EP X pins σ Q (.bool k') s:=by
 subst e;exact⟨.bl k,H,I,rfl,q⟩
theorem bA:OpR X (compareOp .Eq) rEq:=by
 intro pins s σ H x y v u Q I rx ry h;obtain⟨hs,q⟩:=h;cases x with
 | non =>
  cases rx;cases y with
  | non=>cases ry;exact PySem.EqNone.eq_none_none (aX I q (by simp))
  | bl j=>cases ry;exact PySem.EqNone.eq_none_bool (aX I q (by simp))
  | int j=>obtain⟨t',rfl⟩:=ry;exact PySem.EqNone.eq_none_int (aX I q (by simp))
  | str j=>obtain⟨t',rfl⟩:=ry;exact PySem.EqNone.eq_none_str (aX I q (by simp))
  | _=>exact absurd (show false=true from hs) j9
 | bl i =>
  cases rx;cases y with
  | non=>cases ry;exact PySem.EqNone.eq_bool_none (aX I q (by simp))
  | bl j=>cases ry;exact eq_bool (aX I q rC)
  | str j=>obtain⟨t',rfl⟩:=ry;exact PySem.EqMixed.eq_bool_str (aX I q (by simp))
  | _=>exact absurd (show false=true from hs) j9
 | int i =>
  obtain⟨t,rfl⟩:=rx;cases y with
  | non=>cases ry;exact PySem.EqNone.eq_int_none (aX I q (by simp))
  | int j=>obtain⟨t',rfl⟩:=ry;exact eq_int (aX I q qD)
  | str j=>obtain⟨t',rfl⟩:=ry;exact PySem.EqMixed.eq_int_str (aX I q (by simp))
  | _=>exact absurd (show false=true from hs) j9
 | str i =>
  obtain⟨t,rfl⟩:=rx;cases y with
  | non=>cases ry;exact PySem.EqNone.eq_str_none (aX I q (by simp))
  | bl j=>cases ry;exact PySem.EqMixed.eq_str_bool (aX I q (by simp))
  | int j=>obtain⟨t',rfl⟩:=ry;exact PySem.EqMixed.eq_str_int (aX I q (by simp))
  | str j=>obtain⟨t',rfl⟩:=ry;exact eq_str (aX I q qC)
  | _=>exact absurd (show false=true from hs) j9
 | byt i =>
  obtain⟨t,rfl⟩:=rx;cases y with
  | byt j=>obtain⟨t',rfl⟩:=ry;exact PySem.W.eq_bytes (aX I q qE)
  | _=>exact absurd (show false=true from hs) j9
 | _=>cases y <;> exact absurd (show false=true from hs) j9
theorem rL:OpR X (compareOp .NotEq) rNe:=by
 intro pins s σ H x y v u Q I rx ry h;obtain⟨hs,q⟩:=h;cases x with
 | non =>
  cases rx;cases y with
  | non=>cases ry;exact PySem.EqNone.ne_none_none (aX I q (by simp))
  | bl j=>cases ry;exact PySem.EqNone.ne_none_bool (aX I q (by simp))
  | int j=>obtain⟨t',rfl⟩:=ry;exact PySem.EqNone.ne_none_int (aX I q (by simp))
  | str j=>obtain⟨t',rfl⟩:=ry;exact PySem.EqNone.ne_none_str (aX I q (by simp))
  | _=>exact absurd (show false=true from hs) j9
 | bl i =>
  cases rx;cases y with
  | non=>cases ry;exact PySem.EqNone.ne_bool_none (aX I q (by simp))
  | bl j=>cases ry;exact ne_bool (aX I q (congrArg not rC))
  | str j=>obtain⟨t',rfl⟩:=ry;exact PySem.EqMixed.ne_bool_str (aX I q (by simp))
  | _=>exact absurd (show false=true from hs) j9
 | int i =>
  obtain⟨t,rfl⟩:=rx;cases y with
  | non=>cases ry;exact PySem.EqNone.ne_int_none (aX I q (by simp))
  | int j=>obtain⟨t',rfl⟩:=ry;exact ne_int (aX I q (congrArg not qD))
  | str j=>obtain⟨t',rfl⟩:=ry;exact PySem.EqMixed.ne_int_str (aX I q (by simp))
  | _=>exact absurd (show false=true from hs) j9
 | str i =>
  obtain⟨t,rfl⟩:=rx;cases y with
  | non=>cases ry;exact PySem.EqNone.ne_str_none (aX I q (by simp))
  | bl j=>cases ry;exact PySem.EqMixed.ne_str_bool (aX I q (by simp))
  | int j=>obtain⟨t',rfl⟩:=ry;exact PySem.EqMixed.ne_str_int (aX I q (by simp))
  | str j=>obtain⟨t',rfl⟩:=ry;exact ne_str (aX I q (congrArg not qC))
  | _=>exact absurd (show false=true from hs) j9
 | byt i =>
  obtain⟨t,rfl⟩:=rx;cases y with
  | byt j=>obtain⟨t',rfl⟩:=ry;exact PySem.W.ne_bytes (aX I q (congrArg not qE))
  | _=>exact absurd (show false=true from hs) j9
 | _=>cases y <;> exact absurd (show false=true from hs) j9
theorem cP:OpR X (compareOp .Lt) (rI0 λ i j=>.bl (decide (i<j))):=opB0 λ _ _ _ _ _ _ _ q=>lt_int q
theorem eS:OpR X (compareOp .LtE) (rI0 λ i j=>.bl (decide (i<=j))):=opB0 λ _ _ _ _ _ _ _ q=>le_int q
theorem dS:OpR X (compareOp .Gt) (rI0 λ i j=>.bl (decide (j<i))):=opB0 λ _ _ _ _ _ _ _ q=>gt_int q
theorem eM:OpR X (compareOp .Is) (λ x y H Q=>y=.non/\Q (.bl (decide (x=.non))) H):=by
 intro pins s σ H x y v u Q I rx ry h;obtain⟨rfl,q⟩:=h;cases ry;refine is_none_gen (aX I q ?_);cases x <;> first
  | (cases rx;rfl)
  | (obtain⟨t,rfl⟩:=rx;rfl)
theorem jR:OpR X (compareOp .IsNot) (λ x y H Q=>y=.non/\Q (.bl (!decide (x=.non))) H):=by
 intro pins s σ H x y v u Q I rx ry h;obtain⟨rfl,q⟩:=h;cases ry;refine isnot_none_gen (aX I q ?_);cases x <;> first
  | (cases rx;rfl)
  | (obtain⟨t,rfl⟩:=rx;rfl)
def isObj:HO->Bool
 | .lst _=>true
 | .ins _ _ _=>true
 | _=>false
theorem mP {pins:List (j8 × Obj)}{s:d8}{σ:St}{H:Hp}{a:j8}{o:HO}(I:Inv X pins σ H s)(h:H a=some o)(p:isObj o=true):∃ ob,s.heap.get? a=some ob/\ob.cls≠.type "tuple":=by
 cases o with
 | lst xs =>
  obtain⟨_,its,n,_,e⟩:xs.length<=o7/\∃ (its:List c9)(n:Nat),Vals xs its/\s.heap.get? a=some { cls:=.type "list",data:=.seq its.toArray n }:=I.hok a _ h;exact⟨_,e,(by show Value.type "list"≠.type "tuple";decide +kernel)⟩
 | ins C dx fs =>
  have x:=I.hok a _ h;obtain⟨_,_,_,e,_⟩:=x;exact⟨_,e,(by show Value.ref C≠.type "tuple";exact λ z=>by cases z)⟩
 | _=>exact absurd (show false=true from p) j9
theorem nomark (b:uby){op:CmpOp}(h:op≠.In:=by decide)(h2:op≠.NotIn:=by decide):behindInMarks op b=false:=by
 have e1:(op==CmpOp.In)=false:=by cases op <;> first | rfl | exact absurd rfl h
 have e2:(op==CmpOp.NotIn)=false:=by cases op <;> first | rfl | exact absurd rfl h2
 cases b <;> simp [behindInMarks,e1,e2]
theorem bC {op:CmpOp}{r:R2}(ho:OpR X (compareOp op) r)(ha:PE X a ta)(hb:PE X b tb)(hm:behindInMarks op b=false):PE X (.Compare a [op] [b] pos) (tOp r ta tb):=by
 intro pins s σ H Q I h;exact wpAny_Compare1 (binT ha hb I h λ v u s2 x y H2 I2 rx ry q=>ho pins s2 σ H2 x y v u Q I2 rx ry q) hm
def tTest (t:TE):TT:=λ σ H Q=>t σ H λ x H'=>EBl x λ k=>Q k H'
theorem aR {op:CmpOp}{r:R2}(ho:OpR X (compareOp op) r)(ha:PE X a ta)(hb:PE X b tb)(hm:behindInMarks op b=false):PT X (.Compare a [op] [b] pos) (tTest (tOp r ta tb)):=by
 intro pins s σ H Q I h;refine wpAny_isTrue_Compare1 (thn (ha pins s σ H _ I h) λ v s1 ⟨x,H1,I1,r1,q1⟩=>thn (hb pins s1 σ H1 _ I1 q1) λ u s2 ⟨y,H2,I2,r2,q2⟩ =>
  thn (ho pins s2 σ H2 x y v u _ I2 r1 r2 q2) λ c s3 ⟨z,H3,I3,r3,k,e,q3⟩=>?_) hm
 subst e;cases r3;exact ubl ⟨H3,I3,q3⟩
def tChain (r r':R2)(ta tb tc:TE):TE:=λ σ H Q=>ta σ H λ x H1=>tb σ H1 λ y H2=>r x y H2 λ z H3=>EBl z λ k=>(if k=true then tc σ H3 λ w' H4=>r' y w' H4 Q else Q (.bl false) H3)
theorem oE {op op':CmpOp}{r r':R2}(ho:OpR X (compareOp op) r)(ho':OpR X (compareOp op') r')(ha:PE X a ta)(hb:PE X b tb)(hc:PE X c tc)
  (hm:lastMarks [op,op'] [b,c]=false:=by with_unfolding_all rfl):PE X (.Compare a [op,op'] [b,c] pos) (tChain r r' ta tb tc):=by
 intro pins s σ H Q I h;refine Compare_chain (thn (ha pins s σ H _ I h) λ v s1 ⟨x,H1,I1,r1,q1⟩=>chain_link (thn (hb pins s1 σ H1 _ I1 q1) λ u s2 ⟨y,H2,I2,r2,q2⟩ =>
  thn (ho pins s2 σ H2 x y v u _ I2 r1 r2 q2) λ d s3 ⟨z,H3,I3,r3,k,e,q3⟩=>?_)) hm
 subst e;cases r3;refine ubl ?_;cases k with
 | false=>exact ite_ff ⟨.bl false,H3,I3,rfl,q3⟩
 | true=>exact ite_tt (chain_last (thn (hc pins s3 σ H3 _ I3 q3) λ w' s4 ⟨z',H4,I4,r4,q4⟩=>ho' pins s4 σ H4 y z' u w' Q I4 r2 r4 q4))
theorem oA {op op':CmpOp}{r r':R2}(ho:OpR X (compareOp op) r)(ho':OpR X (compareOp op') r')(ha:PE X a ta)(hb:PE X b tb)(hc:PE X c tc)
  (hm:lastMarks [op,op'] [b,c]=false:=by with_unfolding_all rfl):PT X (.Compare a [op,op'] [b,c] pos) (tTest (tChain r r' ta tb tc)):=by
 intro pins s σ H Q I h;refine isTrue_chain (thn (ha pins s σ H _ I h) λ v s1 ⟨x,H1,I1,r1,q1⟩=>test_link (thn (hb pins s1 σ H1 _ I1 q1) λ u s2 ⟨y,H2,I2,r2,q2⟩ =>
  thn (ho pins s2 σ H2 x y v u _ I2 r1 r2 q2) λ d s3 ⟨z,H3,I3,r3,k,e,q3⟩=>?_)) hm
 subst e;cases r3;refine ubl ?_;cases k with
 | false =>
  obtain⟨k',e',q'⟩:=q3;cases e';exact ite_ff ⟨H3,I3,q'⟩
 | true =>
  refine ite_tt (test_last (thn (hc pins s3 σ H3 _ I3 q3) λ w' s4 ⟨z',H4,I4,r4,q4⟩=>thn (ho' pins s4 σ H4 y z' u w' _ I4 r2 r4 q4) λ d' s5 ⟨z2,H5,I5,r5,k2,e2,q5⟩=>?_));subst e2;cases r5;exact ubl ⟨H5,I5,q5⟩
theorem line63:(o7:Nat)<2^63:=by rw[ucm];decide
theorem vals1 {x:V}{us:List c9}(r:Vals [x] us):∃ u,us=[u]/\RelV x u:=by
 cases r with
 | cons r1 r2=>cases r2;exact⟨A,r1⟩
theorem vals2 {x y:V}{us:List c9}(r:Vals [x,y] us):∃ u w',us=[u,w']/\RelV x u/\RelV y w':=by
 cases r with
 | cons r1 r2 =>
  cases r2 with
  | cons r3 r4=>cases r4;exact⟨_,A,r1,r3⟩
theorem iW (hc:X.calm=true):CallR X (.builtin "max") (λ xs H Q=>∃ i j,xs=[.int i,.int j]/\Q (.int (if j>i then j else i)) H):=by
 intro pins s σ H xs us Q I r h;obtain⟨i,j,rfl,q⟩:=h;obtain⟨u,w',rfl,⟨t,rfl⟩,⟨t',rfl⟩⟩:=vals2 r;refine max_two_ints (I.ok.hd hc) λ h' tk k=>⟨_,H,I.kept k,?_,q⟩;by_cases hj:j>i
 ·rw[ug7 hj,ug7 hj];exact⟨A⟩
 ·rw[ug8 hj,ug8 hj];exact⟨A⟩
inductive call_min2_i  (xs:List V) (H:Hp) (Q:VK):Prop
 | mk:∀ i j,(xs=[.int i,.int j])->(Q (.int (if j<i then j else i)) H)->call_min2_i xs H Q
theorem nD (hc:X.calm=true):CallR X (.builtin "min") (call_min2_i):=by
 intro pins s σ H xs us Q I r h;obtain⟨i,j,rfl,q⟩:=h;obtain⟨u,w',rfl,⟨t,rfl⟩,⟨t',rfl⟩⟩:=vals2 r;refine min_two_ints (I.ok.hd hc) λ h' tk k=>⟨_,H,I.kept k,?_,q⟩;by_cases hj:j<i
 ·rw[ug7 hj,ug7 hj];exact⟨A⟩
 ·rw[ug8 hj,ug8 hj];exact⟨A⟩
end
end L2
namespace L2
open PySem PySem.Spec PyProof.Rows
structure ObjM (h:Heap)(x dx C:j8)(mA:Str->Option c9):Prop where
 obj:h.get? x=some (ufr C dx)
 ns:h.Ns1 dx mA
 ne:dx≠x
theorem zH {h:Heap}{dx:j8}{mA:Str->Option c9}(n:h.Ns1 dx mA):∃ od,h.get? dx=some od/\∀ name,uf3 name od=some (mA name):=by
 obtain⟨o,es,ep,ho,hd,hk,_,hm⟩:=n;refine⟨o,ho,λ name=>?_⟩;have e:=hm name;unfold nsFind findBy at e;rw[← uea] at e;unfold uf3;rw[hd];dsimp only;split
 ·rename_i y q;rw[q] at e;exact congrArg some e
 ·rename_i q;rw[q] at e;have a:es.toList.any (·.refKey)=false:=by
   rw[List.any_eq_false];intro y hy;obtain⟨z,t,hkey⟩:=hk y (ue5.mp hy);simp [DictEntry.refKey,hkey]
  have a':¬ es.toList.any (·.refKey)=true:=by rw[a];exact j9
  rw[ug8 a'];exact congrArg some e
theorem ObjM.look {h:Heap}{x dx C:j8}{mA:Str->Option c9}(I:ObjM h x dx C mA):∃ od,PySem.W.InstAt h x (ufr C dx) C (some od)/\∀ name,uf3 name od=some (mA name) :=
 let ⟨od,ho,hl⟩:=zH I.ns
 ⟨od,⟨I.obj,rfl,rfl,ho⟩,hl⟩
section
variable {prog:n0}{w:uak}{A:uaj}{E:c9->d8->Prop}{s:d8}{K:b9}{x dx C f:j8}{mA:Str->Option c9}{name:Str}{v:c9}
end
theorem RelO.some_of {v:V}{o:Option c9}(r:RelO (some v) o):∃ u,o=some u/\RelV v u:=by
 cases o with
 | none=>exact (show False from r).elim
 | some u=>exact⟨u,rfl,r⟩
section
variable {P:n0}{w:uak}{H H':Hp}{h h':Heap}{a C dx:j8}{fs fs':List (Str × V)}
theorem zdp (hok:HOk P w H h)(e:H a=some (.ins C dx fs)):∃ mA,ObjM h a dx C mA/\(∀ f,RelO (fs.lookup f) (mA f))/\PySem.Within mA (fs.map (·.1))/\fs.length<=1000/\H dx=some (.own a):=by
 obtain⟨d,z,ne,ob,mA,n,r,q⟩:=(show ObjOk P w H h a (.ins C dx fs) from hok a _ e);exact⟨mA,⟨ob,n,ne⟩,r,q,z,d⟩
end
structure Cls (K:b9)(C:j8):Prop where
 pg:PySem.W.plainGet K C Str.empty=true
 hd:PySem.W.hasDictIn K C=true
 po:PySem.W.plainOver K C=true
 sa:uf5 K (.ref C) "__setattr__"=some (some (.builtin "object.__setattr__"))
theorem Cls.get {K:b9}{C:j8}(c:Cls K C)(f:Str):PySem.W.plainGet K C f=true:=c.pg
structure Con (K:b9)(C:j8)(f:Str)(v:V)(u:c9):Prop where
 at_:uf5 K (.ref C) f=some (some u)
 rel:RelV v u
 get:PySem.W.specialIn K u "__get__"=some none
 cp:PySem.W.copiedNames.contains f=false
section
variable {X:Cx}{pins:List (j8 × Obj)}{σ:St}{H:Hp}{s:d8}{a C dx:j8}{fs:List (Str × V)}{f:Str}{v:V}{A:uaj}{E:c9->d8->Prop}
end
section
variable {X:Cx}{o e value:uby}{f:Str}{pos pos' tpos:Pos}{ta tv:TE}
end
section
variable {X:Cx}{pins:List (j8 × Obj)}{σ:St}{H:Hp}{s:d8}{A:uaj}{E:c9->d8->Prop}{Q:c9->d8->Prop}{c:c9}{b:Bool}
inductive TyOf (K:b9)(H:Hp):V->c9->Prop where
 | non:TyOf K H .non (.type "NoneType")
 | bl (x:Bool):TyOf K H (.bl x) (.type "bool")
 | int (i:Int):TyOf K H (.int i) (.type "int")
 | str (x:Str):TyOf K H (.str x) (.type "str")
 | flt (x:UInt64):TyOf K H (.flt x) (.type "float")
 | lst {a:j8} {xs:List V} (e:H a=some (.lst xs)):TyOf K H (.ref a) (.type "list")
 | frz {a:j8} {o:Obj} {xs:List V} (e:H a=some (.frz o (.lst xs))):TyOf K H (.ref a) (.type "list")
 | tup {a:j8} {xs:List V} (e:H a=some (.tup xs)):TyOf K H (.ref a) (.type "tuple")
 | dK {a:j8} {kvs:List (Key × V)} (e:H a=some (.dK kvs)):TyOf K H (.ref a) (.type "dict")
 | dT {a:j8} {kvs:List (List Key × V)} (e:H a=some (.dT kvs)):TyOf K H (.ref a) (.type "dict")
 | ins {a C dx : j8} {fs : List (Str × V)} (e : H a = some (.ins C dx fs)) (cl : Cls K C) (ha : uf5 K (.ref C) "__class__" = some (some (.builtin "object.__class__")))
     (hn:PySem.W.specialIn K (.builtin "object.__class__") "__get__"=some (some (.builtin "getset_descriptor.__get__"))) (htk:PySem.W.takesIn K (.builtin "object.__class__")=some true)
     (hm:PySem.W.mroIn K C (.type "object")=some true):TyOf K H (.ref a) (.ref C)
theorem zP {x:V}{u t:c9}(I:Inv X pins σ H s)(rx:RelV x u)(ty:TyOf X.K H x t)(e:uds X.K t c=some b)(h:∀ tk,Q (.bool b) { s with toks:=tk }) :
  j7 (p9 X.prog X.w) A (call (.builtin "isinstance") [u,c]) Q E s:=by
 cases ty with
 | non=>cases (show u=Value.none from rx);exact ubo PySem.W.kitx_none I.kIn True.intro e (λ z=>nomatch z) h
 | bl y=>cases (show u=Value.bool y from rx);exact ubo PySem.W.kitx_bool I.kIn True.intro e (λ z=>nomatch z) h
 | int i=>obtain⟨t,q⟩:=(show ∃ t,u=Value.int i t from rx);cases q;exact ubo PySem.W.kitx_int I.kIn True.intro e (λ z=>nomatch z) h
 | str y=>obtain⟨t,q⟩:=(show ∃ t,u=Value.str y t from rx);cases q;exact ubo PySem.W.kitx_str I.kIn True.intro e (λ z=>nomatch z) h
 | flt y=>obtain⟨t,q⟩:=(show ∃ t,u=Value.float y t from rx);cases q;exact ubo PySem.W.kitx_float I.kIn True.intro e (λ z=>nomatch z) h
 | @lst a xs ea =>
  cases (show u=Value.ref a from rx);obtain⟨_,_,n,_,h1⟩:=(show ObjOk X.prog X.w H s.heap a (.lst xs) from I.hok a _ ea);exact ubo PySem.W.kitx_list I.kIn ⟨_,h1,rfl⟩ e (λ z=>nomatch z) h
 | @frz a ob xs ea =>
  cases (show u=Value.ref a from rx);obtain⟨_,_,_,n,_,h1⟩:=(show ObjOk X.prog X.w H s.heap a (.frz ob (.lst xs)) from I.hok a _ ea);exact ubo PySem.W.kitx_list I.kIn ⟨_,h1,rfl⟩ e (λ z=>nomatch z) h
 | @tup a xs ea =>
  cases (show u=Value.ref a from rx);obtain⟨_,_,_,p⟩:=(show ObjOk X.prog X.w H s.heap a (.tup xs) from I.hok a _ ea);obtain⟨o,h1,h2,_⟩:=p;exact ubo PySem.W.kitx_tuple I.kIn ⟨o,h1,h2⟩ e (λ z=>nomatch z) h
 | @dK a kvs ea =>
  cases (show u=Value.ref a from rx);obtain⟨_,_,vs,_,p⟩:=(show ObjOk X.prog X.w H s.heap a (.dK kvs) from I.hok a _ ea);obtain⟨o,es,ep,h1,h2,_⟩:=p;exact ubo PySem.W.kitx_dict I.kIn ⟨o,h1,h2.1⟩ e (λ z=>nomatch z) h
 | @dT a kvs ea =>
  cases (show u=Value.ref a from rx);obtain⟨_,_,xs,_,o,es,ep,h1,h2,_⟩:=(show ObjOk X.prog X.w H s.heap a (.dT kvs) from I.hok a _ ea);exact ubo PySem.W.kitx_dict I.kIn ⟨o,h1,h2.1⟩ e (λ z=>nomatch z) h
 | @ins a C dx fs ea cl ha hn htk hm =>
  cases (show u=Value.ref a from rx);obtain⟨mA,O,_⟩:=zdp I.hok ea;obtain⟨od,J,_⟩:=O.look;exact ubo (PySem.W.kitx_own (cl.get _) cl.hd ha hn htk hm) I.kIn J e (λ z=>nomatch z) h
end
end L2
namespace L2
open PySem PySem.Spec PyProof.Rows
structure Room (k:Nat)(A:uaj):Prop where
 hd:A.handled=none
 dp:A.depth+3*k+5<recursionLimit
 un:A.units+16*k+200<cLine
 gd:A.guards=some []
theorem Room.mono {j k:Nat}{A:uaj}(r:Room k A)(h:j<=k):Room j A:=⟨r.hd,by have:=r.dp;left,by have:=r.un;left,r.gd⟩
theorem Room.deeper {k:Nat}{A:uaj}(r:Room (k+1) A)(env:Env):Room k (A.deeper env) :=
 ⟨r.hd,by have:=r.dp;show A.depth+1+3*k+5<_;left,by have:=r.un;show A.units+3+16*k+200<_;left,r.gd⟩
theorem Room.depth {k:Nat}{A:uaj}(r:Room k A):A.depth<recursionLimit:=by have:=r.dp;left
theorem Room.units {k:Nat}{A:uaj}(r:Room k A):A.units+64<cLine:=by have:=r.un;left
theorem Room.units0 {k:Nat}{A:uaj}(r:Room k A):A.units<cLine:=by have:=r.un;left
def tNil:TA:=λ _ H Q=>Q [] H
def tCons (ta:TE)(tr:TA):TA:=λ σ H Q=>ta σ H λ x H1=>tr σ H1 λ xs H2=>Q (x::xs) H2
section
variable {X:Cx}{e:uby}{es:List uby}{te:TE}{t:TA}{pos:Pos}
theorem aB:PA X [] tNil:=λ _ _ _ _ H Q I h=>Calls.spliced_nil ⟨[],H,I,.nil,h⟩
theorem aA (ha:PE X e te)(hr:PA X es t)(hs:uav (e::es) X.env=(false,eval e X.env)::uav es X.env:=by rfl):PA X (e::es) (tCons te t):=by
 intro pos pins s σ H Q I h;rw[hs];show j7 _ _ (spliced ((false,eval e X.env)::backTo pos (uav es X.env))) _ _ s;refine Calls.spliced_cons (thn (ha pins s σ H _ I h) λ u s1 ⟨x,H1,I1,r1,q1⟩=>?_);exact thn (hr pos pins s1 σ H1 _ I1 q1) λ us s2 ⟨xs,H2,I2,r2,q2⟩=>⟨x::xs,H2,I2,.cons r1 r2,q2⟩
def tTup (t:TA):TE:=λ σ H Q=>t σ H λ xs H1=>xs.length<=o7/\∀ p,H1 p=none->Q (.ref p) (upd H1 p (.tup xs))
def tLst (t:TA):TE:=λ σ H Q=>t σ H λ xs H1=>xs.length<=o7/\∀ p,H1 p=none->Q (.ref p) (upd H1 p (.lst xs))
theorem qP {x1} (h:PA X es t):PE X (.Tuple es x1 pos) (tTup t):=by
 intro pins s σ H Q I hq;refine wpAny_Tuple_spliced (thn (h pos pins s σ H _ I hq) λ us s1 ⟨xs,H1,I1,r,z,q⟩=>⟨by rw[← r.length];exact z,?_⟩);have hf:H1 s1.heap.objs.size=none:=I1.hok.fresh (i6 _);refine⟨.ref s1.heap.objs.size,upd H1 s1.heap.objs.size (.tup xs),I1.laid (t':=s1.toks) (λ b u e=>a9 _ e) (i6 _) ?_,rfl,q _ hf⟩;exact⟨z,us,r,⟨_,i7 _ rfl,rfl,⟨A⟩,rfl⟩⟩
theorem dP (h:PA X es t):PE X (.List es pos) (tLst t):=by
 intro pins s σ H Q I hq;refine wpAny_List_spliced (thn (h pos pins s σ H _ I hq) λ us s1 ⟨xs,H1,I1,r,z,q⟩=>⟨by rw[← r.length];exact z,?_⟩);have hf:H1 s1.heap.objs.size=none:=I1.hok.fresh (i6 _);refine⟨.ref s1.heap.objs.size,upd H1 s1.heap.objs.size (.lst xs),I1.laid (t':=s1.toks) (λ b u e=>a9 _ e) (i6 _) ?_,rfl,q _ hf⟩;exact⟨z,us,0,r,i7 _ rfl⟩
end
abbrev Sp:=List V->Hp->VK->XK->Prop
abbrev CXT:=List Env->Hp->d8->XK->c9->d8->Prop
structure Env0 (P:n0)(w:uak)(K:b9)(mg:Str->Option c9)(base:Heap)(A:uaj)(outer:List Env)(s:d8)(H:Hp):Prop where
 frames:A.frames=some outer
 mod:Mod K mg base
 bs:∀ b o,base.get? b=some o->s.heap.get? b=some o/\H b=none
 bsz:base.objs.size<=s.heap.objs.size
 funs:s.heap.FunFrames base outer
 frf:∀ b∈frs outer,H b=none
 hok:HOk P w H s.heap
 bare:AllBare s.gens
def CE (outer:List Env)(P:n0)(w:uak)(H:Hp)(s:d8)(Q:VK)(u:c9)(s':d8):Prop :=
 ∃ v H',s'.os=s.os/\AllBare s'.gens/\Un (frs outer) [] H H' s.heap s'.heap/\HOk P w H' s'.heap/\RelV v u/\Q v H'
def CR (CX:CXT)(outer:List Env)(P:n0)(w:uak)(H:Hp)(s:d8)(Q:VK)(E:XK)(r:Result)(s':d8):Prop :=
 match r with
 | .ok (.ret u)=>CE outer P w H s Q u s'
 | .ok _=>False
 | .error e=>CX outer H s E e s'
structure FnOk (P:n0)(w:uak)(K:b9)(mg:Str->Option c9)(base:Heap)(CX:CXT)(k:Nat)(f:j8)(fd:FuncData)(ps:List Str)(sp:Sp):Prop where
 len:∀ vs H Q E,sp vs H Q E->vs.length=ps.length
 run:∀ (A:uaj)(outer:List Env)(s:d8)(H:Hp)(args:Args)(us:List c9)(vs:List V)(Q:VK)(E:XK),Room k A->Env0 P w K mg base A outer s H->BindsTo s fd args (ps.zip us)->Vals vs us->sp vs H Q E ->
  codeAny (p9 P w) A (.call (.ref f) args) (CR CX outer P w H s Q E) s
theorem FnOk.mono {P:n0}{w:uak}{K:b9}{mg:Str->Option c9}{base:Heap}{CX:CXT}{j k:Nat}{f:j8}{fd:FuncData}{ps:List Str}{sp:Sp}(F:FnOk P w K mg base CX j f fd ps sp)(h:j<=k) :
  FnOk P w K mg base CX k f fd ps sp:=⟨F.len,λ A outer s H args us vs Q E hr=>F.run A outer s H args us vs Q E (hr.mono h)⟩
theorem FnOk.imp {P:n0}{w:uak}{K:b9}{mg:Str->Option c9}{base:Heap}{CX:CXT}{k:Nat}{f:j8}{fd:FuncData}{ps:List Str}{sp sp':Sp}(F:FnOk P w K mg base CX k f fd ps sp)
  (h:∀ vs H Q E,sp' vs H Q E->sp vs H Q E):FnOk P w K mg base CX k f fd ps sp' :=
 ⟨λ vs H Q E q=>F.len vs H Q E (h _ _ _ _ q),λ A outer s H args us vs Q E hr he hb hv hs=>F.run A outer s H args us vs Q E hr he hb hv (h _ _ _ _ hs)⟩
section
variable {X:Cx}{pins:List (j8 × Obj)}{σ:St}{H:Hp}{s s':d8}
theorem Inv.env0 (I:Inv X pins σ H s):Env0 X.prog X.w X.K X.mg X.base X.A X.stack s H :=
 ⟨I.ok.frames,I.ok.mod,I.bs,o8 I.ok.bsz I.sz,I.stack,I.stkFree,I.hok,I.bare⟩
theorem Inv.after {Q:VK}{u:c9}(I:Inv X pins σ H s)(h:CE X.stack X.prog X.w H s Q u s'):EP X pins σ Q u s':=by
 obtain⟨v,H',os,bare,un,hok,r,q⟩:=h;obtain⟨hh,g,d,t,os'⟩:=s';obtain rfl:os'=s.os:=os;exact⟨v,H',I.call (h':=hh) (g':=g) (d':=d) (t':=t) (ch:=[]) un hok bare (λ b z=>absurd z (by simp)),r,q⟩
end
def tCall (sp:Sp)(dvs:List V)(E:XK)(t:TA):TE:=λ σ H Q=>t σ H λ vs H1=>sp (vs++dvs) H1 Q E
def Binds (K:b9)(fd:FuncData)(ps:List Str)(ds:List c9):Prop :=
 ∀ (s:d8)(us:List c9),K.In s.heap->(us++ds).length=ps.length->BindsTo s fd ⟨us,[]⟩ (ps.zip (us++ds))
theorem Binds.all {K:b9}{fd:FuncData}{ps:List Str}(h:∀ us:List c9,us.length=ps.length->bindArgs fd ⟨us,[]⟩=pure (ps.zip us)):Binds K fd ps []:=λ s us _ hl=>by
 rw[uct] at hl ⊢;exact .of_eq (h us hl)
def Passes (CX:CXT)(X:Cx)(E:XK):Prop:=∀ (pins:List (j8 × Obj))(σ:St)(H:Hp)(s:d8)(e:c9)(s':d8),Inv X pins σ H s->CX X.stack H s E e s'->X.xe e s'
section
variable {X:Cx}{CX:CXT}{k:Nat}{f C:j8}{fd:FuncData}{ps:List Str}{sp:Sp}{dvs:List V}{ds:List c9}{E:XK}{x m:Str}{p pos apos:Pos}{e o:uby}{es:List uby}{ta:TE}{t:TA}
theorem zd8 {pins:List (j8 × Obj)}{σ:St}{H:Hp}{s:d8}{Q:VK}{us:List c9}{vs:List V}(F:FnOk X.prog X.w X.K X.mg X.base CX k f fd ps sp)(hr:Room k X.A)(hb:Binds X.K fd ps ds)(hd:Vals dvs ds)(hx:Passes CX X E)
  (I:Inv X pins σ H s) (r:Vals vs us) (h:sp (vs++dvs) H Q E):j7 (p9 X.prog X.w) X.A (call (.ref f) us) (EP X pins σ Q) X.xe s:=by
 have r2:Vals (vs++dvs) (us++ds):=r.append hd;have hl:(us++ds).length=ps.length:=by rw[← r2.length];exact F.len _ _ _ _ h
 refine ufd (udf (F.run X.A X.stack s H ⟨us,[]⟩ (us++ds) (vs++dvs) Q E hr I.env0 (hb s us I.kIn hl) r2 h) λ r s' hq=>?_);cases r with
 | error e=>exact hx pins σ H s e s' I hq
 | ok fl =>
  cases fl with
  | ret u=>exact I.after hq
  | next=>exact False.elim hq
  | brk=>exact False.elim hq
  | cont=>exact False.elim hq
theorem jQ (F:FnOk X.prog X.w X.K X.mg X.base CX k f fd ps sp)(hr:Room k X.A)(hg:Gl X x)(hm:X.mg x=some (.ref f))(hk:udc X.K (.ref f)=true)(hb:Binds X.K fd ps ds)(hd:Vals dvs ds)(hx:Passes CX X E)
  (ha:PA X (e::es) t) (hdb:(x==("__debug__":Str))=false:=by decide) (he:uav (e::es) X.env=(false,eval e X.env)::uav es X.env:=by rfl) (hpl:(backTo pos (uav es X.env)).any (·.1)=false:=by rfl) :
  PE X (.Call (.Name x p) (e::es) [] pos) (tCall sp dvs E t):=by
 intro pins s σ H Q I h;refine ud0 (fN I hg hm ?_ hdb);refine PySem.W.callWith_K (h₀:=X.base) I.ok.mod.kin hk (thn (ha pos pins s σ H _ I h) λ us s1 ⟨vs,H1,I1,r,q⟩=>⟨I1.kIn,?_⟩) he hpl;exact zd8 F hr hb hd hx I1 r q
end
def PK (X:Cx)(kws:List Keyword)(t:TA):Prop :=
 ∀ (pos:Pos)(pins:List (j8 × Obj))(s:d8)(σ:St)(H:Hp)(Q:List V->Hp->Prop),Inv X pins σ H s->t σ H Q->j7 (p9 X.prog X.w) X.A (evalAll ((backToKw pos (keywordEach kws X.env)).map (·.2))) (AP X pins σ Q) X.xe s
section
variable {X:Cx}{CX:CXT}{k:Nat}{f C:j8}{fd:FuncData}{ps ks:List Str}{sp:Sp}{E:XK}{x m:Str}{p pos apos kpos:Pos}{e o:uby}{es:List uby}{kws:List Keyword}{te ta:TE}{t tk:TA}{nm:Option Str}
theorem zee:PK X [] tNil:=λ _ _ _ _ H Q I h=>wpAny_evalAll_nil ⟨[],H,I,.nil,h⟩
theorem zc7 (ha:PE X e te)(hr:PK X kws t):PK X (⟨nm,e,kpos⟩::kws) (tCons te t):=by
 intro pos pins s σ H Q I h;show j7 _ _ (evalAll ((do let v ← eval e X.env;standAt pos;pure v)::(backToKw pos (keywordEach kws X.env)).map (·.2))) _ _ s;refine wpAny_evalAll_cons (a8 (thn (ha pins s σ H _ I h) λ u s1 ⟨x,H1,I1,r1,q1⟩=>a8 (udx (c8 ?_))));exact thn (hr pos pins s1 σ H1 _ I1 q1) λ us s2 ⟨xs,H2,I2,r2,q2⟩=>⟨x::xs,H2,I2,.cons r1 r2,q2⟩
variable {g:List c9->List c9->List c9}{gV:List V->List V->List V}
end
structure FnScope (N P:List Str)(sc:ue1):Prop where
 kind:sc.kind=.function
 co:sc.isCoroutine=false
 gen:sc.isGenerator=false
 nd:N.Nodup
 pre:N.take P.length=P
 par:∀ x∈P,sc.names.lookup x=some .local\/sc.names.lookup x=some .cell
 nofree:∀ y∈sc.names,y.2≠.free
theorem nF {kindOf:Str->Option NameKind}{x:Str}:∀ {binds:List (Str × c9)}{m:Str->Option c9},(∀ v,(x,v)∉binds)->bindL kindOf binds m x=m x
 | [],_,_=>rfl
 | (n,v)::r,m,h=>by
  unfold bindL;rw[nF λ w hw=>h w (l9 _ hw)];split
  ·have:x≠n:=by rintro rfl;exact h v j3
   simp [this]
  ·rfl
theorem nH {kindOf:Str->Option NameKind}{x:Str}:∀ {binds:List (Str × c9)}{m:Str->Option c9},(∀ v,(x,v)∉binds)->bindC kindOf binds m x=m x
 | [],_,_=>rfl
 | (n,v)::r,m,h=>by
  unfold bindC;rw[nH λ w hw=>h w (l9 _ hw)];split
  ·rfl
  ·have:x≠n:=by rintro rfl;exact h v j3
   simp [this]
theorem nG {kindOf:Str->Option NameKind}{x:Str}{v:c9}:∀ {P:List Str}{vs:List c9}{i:Nat}{m:Str->Option c9},P.Nodup->P[i]?=some x->vs[i]?=some v->kindOf x=some .local ->
  bindL kindOf (P.zip vs) m x=some v
 | [],_,_,_,_,h,_,_=>by simp at h
 | _::_,[],_,_,_,_,h,_=>by simp at h
 | p::P,w::vs,0,m,nd,h1,h2,hk=>by
  simp at h1 h2;subst h1;subst h2;show bindL kindOf ((p,w)::P.zip vs) m p=_;unfold bindL;rw[nF λ v hv=>(ub1.mp nd).1 (uf9 hv).1,ug7 hk];simp
 | p::P,w::vs,i+1,m,nd,h1,h2,hk=>by
  show bindL kindOf ((p,w)::P.zip vs) m x=_;unfold bindL;exact nG (i:=i) (ub1.mp nd).2 (by simpa using h1) (by simpa using h2) hk
theorem nI {kindOf:Str->Option NameKind}{x:Str}{v:c9}:∀ {P:List Str}{vs:List c9}{i:Nat}{m:Str->Option c9},P.Nodup->P[i]?=some x->vs[i]?=some v->kindOf x≠some .local ->
  bindC kindOf (P.zip vs) m x=some v
 | [],_,_,_,_,h,_,_=>by simp at h
 | _::_,[],_,_,_,_,h,_=>by simp at h
 | p::P,w::vs,0,m,nd,h1,h2,hk=>by
  simp at h1 h2;subst h1;subst h2;show bindC kindOf ((p,w)::P.zip vs) m p=_;unfold bindC;rw[nH λ v hv=>(ub1.mp nd).1 (uf9 hv).1,ug8 hk];simp
 | p::P,w::vs,i+1,m,nd,h1,h2,hk=>by
  show bindC kindOf ((p,w)::P.zip vs) m x=_;unfold bindC;exact nI (i:=i) (ub1.mp nd).2 (by simpa using h1) (by simpa using h2) hk
def start (N:List Str)(vs:List V):St:=vs.map some++m5 (N.length-vs.length) none
def cxOf (CX:CXT)(P:n0)(w:uak)(K:b9)(mg:Str->Option c9)(base:Heap)(N:List Str)(qual:Str)(scope:ue1)(f:j8)(cd:c9)(A:uaj)(outer:List Env)(s:d8)(H:Hp)(E:XK):Cx where
 prog:=P
 w:=w
 K:=K
 mg:=mg
 base:=base
 A:=A.deeper (envOfC qual scope s.heap.objs.size f cd)
 N:=N
 s₀:=s
 H₀:=H
 env:=envOfC qual scope s.heap.objs.size f cd
 outer:=outer
 stack:=envOfC qual scope s.heap.objs.size f cd::outer
 ex:=[]
 calm:=true
 fn:=λ _=>true
 pn:=[]
 xe:=λ e s'=>j7 (p9 P w) (A.deeper (envOfC qual scope s.heap.objs.size f cd)) (leaving (envOfC qual scope s.heap.objs.size f cd) e) (λ _ s''=>CX outer H s E e s'') (λ e' s''=>CX outer H s E e' s'') s'
theorem oZ {sc:ue1}{n:Nat}{x:Str}(h:sc.names.lookup x=some .cell):∃ c,(cellsFrom n sc.names []).lookup x=some c:=by
 have q:=ugk sc.names n [] (.inl h);exact ugg.mp q
theorem zR {CX:CXT}{P:n0}{w:uak}{K:b9}{mg:Str->Option c9}{base:Heap}{N ps:List Str}{qual:Str}{scope:ue1}{f:j8}{cd:c9}{A:uaj}{outer:List Env}{s s1:d8}{H:Hp}{E:XK}{us:List c9}{vs:List V}
  (S:FnScope N ps scope) (hd:A.handled=none) (e0:Env0 P w K mg base A outer s H) (hl:vs.length=ps.length) (r:Vals vs us)
  (x:InCallC s s.heap.objs.size (bindL (envOfC qual scope s.heap.objs.size f cd).kindOf (ps.zip us) λ _=>none) (cellsFrom (s.heap.objs.size+1) scope.names []) (bindC (envOfC qual scope s.heap.objs.size f cd).kindOf (ps.zip us) λ _=>none) s1) :
  Inv (cxOf CX P w K mg base N qual scope f cd A outer s H E) [] (start N vs) H s1:=by
 have hpl:ps.length<=N.length:=by have:=congrArg List.length S.pre;rw[uac] at this;left
 obtain⟨h1,tk,rfl,hk⟩:=x.done;have noA:∀ b:j8,b∉(cxOf CX P w K mg base N qual scope f cd A outer s H E).ex:=λ b z=>absurd (show b∈([]:List j8) from z) (by simp);refine⟨⟨e0.mod,S.kind,P,i6 _,λ y z c h1 h2=>?_,λ y hy=>?_,λ y c _ h=>?_,λ _=>hd,Around.frames_deeper e0.frames,.inr ⟨rfl,rfl⟩,λ b z=>absurd z (noA b),e0.bs,e0.bsz,λ b _ _=>noA b,λ b z=>absurd z (noA b),e0.funs,e0.frf⟩,
  rfl,e0.bare,Un.kept hk,⟨_,x.toInCall.ns,λ i y v h1 h2 h3=>?_⟩,λ y c h=>⟨_,x.cell y c h⟩,e0.hok.fresh (i6 _),λ y c h=>?_,λ p hp=>absurd (show p∈([]:List (j8 × Obj)) from hp) (by simp),e0.hok.kept hk,?_⟩
 ·exact name_of_addr x.apart (ucf h1) (ucf h2)
 ·have hy:scope.names.lookup y=some .cell\/scope.names.lookup y=some .free:=hy;rcases hy with hy | hy
  ·exact oZ hy
  ·exact absurd rfl (S.nofree _ (ucf hy))
 ·exact ue3 (x.above y c (ucf h))
 ·have hi:i<vs.length:=by
   unfold start at h2;by_cases hi:i<vs.length
   ·exact hi
   ·rw[uat (by simpa using hi)] at h2;rw[udn] at h2;split at h2 <;> cases h2
  have ha:vs[i]?=some v:=by
   unfold start at h2;rw[ubd (by simpa using hi),l7] at h2;cases e:vs[i]? with
   | none=>rw[e] at h2;cases h2
   | some a=>rw[e] at h2;cases h2;rfl
  obtain⟨u,hu,rv⟩:=r.get ha;have hp:ps[i]?=some y:=by
   rw[← S.pre,List.getElem?_take_of_lt (by left)];exact h1
  have ndP:ps.Nodup:=by rw[← S.pre];exact S.nd.sublist (List.take_sublist _ _)
  refine⟨u,rv,?_⟩;rcases S.par y (uap hp) with k | k
  ·exact .inl ⟨k,nG ndP hp hu k⟩
  ·obtain⟨c,e⟩:=oZ (n:=s.heap.objs.size+1) k;refine .inr ⟨.inl k,c,e,?_⟩;have q:=x.cell y c e;rw[nI ndP hp hu (by show scope.names.lookup y≠_;rw[k];decide)] at q;exact q
 ·exact e0.hok.fresh (ue3 (x.above y c (ucf h)))
 ·unfold start;show _=N.length;rw[i8,i5,ua1];left
theorem rQ {CX:CXT}{P:n0}{w:uak}{K:b9}{mg:Str->Option c9}{base:Heap}{k:Nat}{f:j8}{name qual:Str}{params:Arguments}{body:List uc9}{scope:ue1}{dV kV doc pm cdv ct oc:c9}{an od:Option j8}
  {osl:Array (Option c9)} {N ps:List Str} {sp:Sp} (lk:K.lookup f=some ⟨oc,od,.func (ucl name qual params body scope dV kV doc pm an cdv ct),osl⟩) (hcd:ud7 K cdv qual=true) (S:FnScope N ps scope)
  (len:∀ vs H Q E,sp vs H Q E->vs.length=ps.length)
  (hbody:∀ (A:uaj)(outer:List Env)(s:d8)(H:Hp)(vs:List V)(Q:VK)(E:XK),Room k (A.deeper (envOfC qual scope s.heap.objs.size f cdv))->sp vs H Q E ->
   ∃ t,PSs (cxOf CX P w K mg base N qual scope f cdv A outer s H E) body t/\t { nx:=λ _ H'=>Q .non H',rt:=Q } (start N vs) H) :
  FnOk P w K mg base CX (k+1) f (ucl name qual params body scope dV kV doc pm an cdv ct) ps sp:=by
 refine⟨len,λ A outer s H args us vs Q E hr e0 hb r hsp=>?_⟩;have hl:=len _ _ _ _ hsp;have KX:K.In s.heap:=e0.mod.kin.keeps λ b o e=>(e0.bs b o e).1;have lim:s.heap.NoLimit:=e0.mod.nolimit.keeps λ b o e=>(e0.bs b o e).1;have hkind:∀ y∈ps.zip us,scope.names.lookup y.1=some .local\/(scope.names.lookup y.1=some .cell/\((cellsFrom (s.heap.objs.size+1) scope.names []).lookup y.1).isSome=true):=λ ⟨n,v⟩ hy=>by
  rcases S.par n (uf9 hy).1 with q | q
  ·exact .inl q
  ·exact .inr ⟨q,ugk _ _ _ (.inl q)⟩
 refine codeAny_call_function hr.depth (KX _ _ lk) rfl S.co S.gen rfl (PySem.W.codeRec_of KX hcd) (hb _ _ _ _ ?_);refine wpAny_newFunctionEnv_cells S.kind hkind λ env he s1 x=>?_;subst he;refine⟨lim.keeps x.toInCall.keep,codeAny_func ?_⟩;obtain⟨t,ht,hq⟩:=hbody A outer s H vs Q E (hr.deeper _) hsp;have I:Inv (cxOf CX P w K mg base N qual scope f cdv A outer s H E) [] (start N vs) H s1:=zR S hr.hd e0 hl r x;refine ua9 (ht [] s1 (start N vs) H _ I hq) (λ fl s' hs=>?_) λ e s' hs=>hs;have fin:∀ {σ':St}{H':Hp}{v:V}{u:c9},Inv (cxOf CX P w K mg base N qual scope f cdv A outer s H E) [] σ' H' s'->RelV v u->Q v H'->CE outer P w H s Q u s' :=
  λ {σ' H' v u} J rv q=>⟨v,H',J.os,J.bare,J.base,J.hok,rv,q⟩
 cases fl with
 | ret u =>
  obtain⟨v,σ',H',J,rv,q⟩:=hs;exact fin J rv q
 | next =>
  obtain⟨σ',H',J,q⟩:=hs;exact fin (v:=V.non) (u:=Value.none) J rfl q
 | brk =>
  obtain⟨_,_,_,q⟩:=hs;exact False.elim q
 | cont =>
  obtain⟨_,_,_,q⟩:=hs;exact False.elim q
end L2
namespace L2
open PySem PySem.Spec PyProof.Rows
section
variable {X:Cx}{x:Str}{p pos:Pos}{e:uby}{es:List uby}{t:TA}{id T:String}{r:List V->Hp->VK->Prop}
def tCB (r:List V->Hp->VK->Prop)(t:TA):TE:=λ σ H Q=>t σ H λ vs H1=>r vs H1 Q
theorem aO (hc:CallR X (.builtin id) r)(hg:Gl X x)(hm:X.mg x=none)(hv:bootBuiltins x=some (.builtin id))(ha:PA X (e::es) t)(hn:x≠"__name__":=by decide)(hdb:(x==("__debug__":Str))=false:=by decide)
  (he:uav (e::es) X.env=(false,eval e X.env)::uav es X.env:=by rfl) (hpl:(backTo pos (uav es X.env)).any (·.1)=false:=by rfl):PE X (.Call (.Name x p) (e::es) [] pos) (tCB r t):=by
 intro pins s σ H Q I h;refine ud0 (dQ I hg hm hv ?_ hn hdb);exact PyProof.Rows.callWith_builtin1 (thn (ha pos pins s σ H _ I h) λ us s1 ⟨vs,H1,I1,r1,q1⟩=>hc pins s1 σ H1 vs us Q I1 r1 q1) he hpl
theorem bB (hc:CallR X (.type T) r)(hg:Gl X x)(hm:X.mg x=none)(hv:bootBuiltins x=some (.type T))(ha:PA X (e::es) t)(hn:x≠"__name__":=by decide)(hdb:(x==("__debug__":Str))=false:=by decide)
  (he:uav (e::es) X.env=(false,eval e X.env)::uav es X.env:=by rfl) (hpl:(backTo pos (uav es X.env)).any (·.1)=false:=by rfl):PE X (.Call (.Name x p) (e::es) [] pos) (tCB r t):=by
 intro pins s σ H Q I h;refine ud0 (dQ I hg hm hv ?_ hn hdb);exact ucv (thn (ha pos pins s σ H _ I h) λ us s1 ⟨vs,H1,I1,r1,q1⟩=>hc pins s1 σ H1 vs us Q I1 r1 q1) he hpl
end
end L2
namespace HT
open PySem PyProof.Rows
def lexLt:List Int->List Int->Bool
 | [],[]=>false
 | [],_::_=>true
 | _::_,[]=>false
 | x::xs,y::ys=>if x=y then lexLt xs ys else decide (x<y)
theorem dX (x y:Int)(xs ys:List Int):lexLt (x::xs) (y::ys)=if x=y then lexLt xs ys else decide (x<y):=rfl
theorem uJ:lexLt [] []=false:=rfl
theorem tM (y:Int)(ys:List Int):lexLt [] (y::ys)=true:=rfl
theorem tN (x:Int)(xs:List Int):lexLt (x::xs) []=false:=rfl
theorem zb2 (A:uaj)(s:d8)(a:Int)(t:Tok)(c:Int)(u:Tok):∃ e,SeqAt.EqAt A s (.int a t) (.int c u) e/\(e=true↔a=c) :=
 ⟨(a==c),SeqAt.EqAt.int_int a t c u,by simp⟩
theorem za9 (A:uaj)(s:d8)(a:Int)(t:Tok)(c:Int)(u:Tok)(prog:n0)(w:uak)(E:c9->d8->Prop)(Q:c9->d8->Prop)(h:Q (.bool (decide (a<c))) s) :
  j7 (p9 prog w) A (richCompare .Lt (.int a t) (.int c u)) Q E s :=
 (PyProof.Rows.lt_int h:j7 (p9 prog w) A (compareOp .Lt (.int a t) (.int c u)) Q E s)
section
open PySem.SeqAt
open PySem.AutoSeq1 (wpAny_loadPart')
open PySem.MeetsSeq PySem.MeetsSeq2 PySem.MeetsSeq3
theorem tZ (l b:j8)(items items2:Array c9)(n n2:Nat)(dd dd2:Option j8)(sl sl2:Array (Option c9))(ns ms:List Int)(hi:IntsAre items.toList ns)(hj:IntsAre items2.toList ms) :
  Meets (Builtin.«tuple.__lt__» ⟨[.ref l,.ref b],[]⟩)
   (λ _ R s=>s.heap.get? l=some { cls:=.type "tuple",dict:=dd,data:=.seq items n,slots:=sl }/\s.heap.get? b=some { cls:=.type "tuple",dict:=dd2,data:=.seq items2 n2,slots:=sl2 } /\
    R (.ok (.ret (.bool (lexLt ns ms)))) s) :=
 .of_wp λ prog w A R s h=>by
  obtain⟨hp,g,d,tk,os⟩:=s;obtain⟨hl,hb,h⟩:=h;have f2:=AutoSeq1.sub_tuple_tuple;have z1:items.size=ns.length:=by rw[← hi.length];simp
  have z2:items2.size=ms.length:=by rw[← hj.length];simp
  wp_walk using uc3 hl,uc3 hb,wpAny_forIn_list _ (λ rest b s'=>b.1=none/\s'=⟨hp,g,d,tk,os⟩/\∃ (vs ws:List c9)(ns' ms':List Int),rest=vs.zip ws /\
   IntsAre vs ns'/\IntsAre ws ms'/\ns'.length+items2.size=ms'.length+items.size/\R (.ok (.ret (.bool (lexLt ns' ms')))) ⟨hp,g,d,tk,os⟩) _
  case turn =>
   rintro ⟨y,x⟩ rest b s' ⟨hb',rfl,vs,ws,ns',ms',hz,hvi,hwi,hlen,hR⟩;cases hvi with
   | nil=>rw[List.zip_nil_left] at hz;cases hz
   | cons a t hvi' =>
    cases hwi with
    | nil=>rw[List.zip_nil_right] at hz;cases hz
    | cons c u hwi' =>
     rw[uec] at hz;injection hz with hyx hrest;injection hyx with hy hx;subst hy hx;rw[dX] at hR;simp only [ubs] at hlen;obtain⟨e,he,hiff⟩:=zb2 A.in1 ⟨hp,g,d,tk,os⟩ a t c u;refine a8 (he prog w _ _ ?_);cases e with
     | true =>
      rw[ug7 (hiff.mp rfl)] at hR
      wp_walk
      exact⟨P,V,V,hrest,hvi',hwi',by left,hR⟩
     | false =>
      rw[ug8 (λ q=>absurd (hiff.mpr q) j9)] at hR;have hri:=za9 A.in1 ⟨hp,g,d,tk,os⟩ a t c u prog w
      wp_walk using hri
      exact⟨A,by simpa using hR⟩
  case fin =>
   rintro ⟨b1,b2⟩ s' ⟨hb',rfl,vs,ws,ns',ms',hz,hvi,hwi,hlen,hR⟩;simp only at hb';subst hb';have hv:lexLt ns' ms'=decide (items.size<items2.size):=by
    cases hvi with
    | nil =>
     cases hwi with
     | nil =>
      simp only [udm] at hlen;rw[uJ];exact (ug5 (by left)).symm
     | cons c u hw =>
      simp only [udm,ubs] at hlen;rw[tM];exact (ug3 (by left)).symm
    | cons a t hv =>
     cases hwi with
     | nil =>
      simp only [udm,ubs] at hlen;rw[tN];exact (ug5 (by left)).symm
     | cons c u hw =>
      rw[uec] at hz;cases hz
   rw[hv] at hR
   wp_walk
   exact⟨A,by simpa [Builtin.Tuple.tupleCompareSizes] using hR⟩
  case h =>
   exact⟨P,items.toList,items2.toList,ns,ms,rfl,hi,hj,by left,h⟩
end
section
variable {prog:n0}{w:uak}{A:uaj}{E:c9->d8->Prop}{s:d8}
theorem lX {l b:j8}{items items2:Array c9}{ns ms:List Int}{Q:c9->d8->Prop}(hl:IsTup s.heap l items)(hb:IsTup s.heap b items2)(hi:IntsAre items.toList ns)(hj:IntsAre items2.toList ms)
  (hu:A.units<cLine) (h:Q (.bool (lexLt ns ms)) s):j7 (p9 prog w) A (compareOp .Lt (.ref l) (.ref b)) Q E s:=by
 obtain⟨⟨cls,dd,data,sl⟩,ho,hc,n,hd⟩:=id hl;obtain⟨⟨cls2,dd2,data2,sl2⟩,ho2,hc2,n2,hd2⟩:=id hb;simp only at hc hd hc2 hd2;subst hc hd hc2 hd2;exact richCompare_meets_room (op:=.Lt) ⟨_,ho,rfl⟩ ⟨_,ho2,rfl⟩ PySem.F.slot_tuple_lt PySem.F.entry_tuple_lt (PySem.F.args_tuple_lt_2 _ _) (tZ l b items items2 n n2 dd dd2 sl sl2 ns ms hi hj)
  ⟨ho,ho2,show Value.bool (lexLt ns ms)≠Value.notImplemented/\Q (.bool (lexLt ns ms)) s from ⟨(λ x=>nomatch x),h⟩⟩ hu
theorem zdw {t b:j8}{vs ws:List c9}{Q:c9->d8->Prop}(ht:IsTup s.heap t vs.toArray)(hb:IsTup s.heap b ws.toArray)(hv:vs≠[])
  (h1:ws=[]->Q (.ref t) s) (h2:ws≠[]->Q (.ref s.heap.objs.size) { s with heap:=s.heap.push { cls:=.type "tuple",data:=.seq (vs++ws).toArray } })
  (hsz:vs.length+ws.length<=o7):j7 (p9 prog w) A (binaryOp .Add (.ref t) (.ref b)) Q E s:=by
 obtain⟨⟨cls,dd,data,sl⟩,ho,hc,n,hd⟩:=id ht;obtain⟨⟨cls2,dd2,data2,sl2⟩,ho2,hc2,n2,hd2⟩:=id hb;simp only at hc hd hc2 hd2;subst hc hd hc2 hd2;have e:vs.toArray++ws.toArray=(vs++ws).toArray:=by simp
 by_cases hw:ws=[]
 ·exact concat_meets ⟨_,ho,rfl⟩ ⟨_,ho2,rfl⟩ ugr seq_tuple_add uek ueg (ueb _ _)
   (tuple_addW1 t b vs.toArray ws.toArray n n2 dd dd2 sl sl2 (by simpa using hv) (by simp [hw])) ⟨ho,ho2,h1 hw⟩
 ·refine concat_meets ⟨_,ho,rfl⟩ ⟨_,ho2,rfl⟩ ugr seq_tuple_add uek ueg (ueb _ _)
   (tuple_addW2 t b vs.toArray ws.toArray n n2 dd dd2 sl sl2 (by simpa using hv) (by simpa using hw) (by rw[j5,j5];exact hsz)) ⟨ho,ho2,?_⟩
  rw[e];exact h2 hw
def sIx (n d:Nat):Option Int->Nat
 | none=>d
 | some v=>if v<0 then (v+(n:Int)).toNat else min v.toNat n
theorem nY (n d:Nat):sIx n d none=d:=rfl
theorem pK (n d k:Nat):sIx n d (some (k:Int))=min k n:=by
 show (if (k:Int)<0 then ((k:Int)+(n:Int)).toNat else min (k:Int).toNat n)=min k n;rw[ug8 (by left),v5]
theorem zd7 (n d:Nat)(hd:d<=n)(o:Option Int):sIx n d o<=n:=by
 cases o with
 | none=>exact hd
 | some v =>
  show (if v<0 then (v+(n:Int)).toNat else min v.toNat n)<=n;by_cases hv:v<0
  ·rw[ug7 hv];left
  ·rw[ug8 hv];exact Nat.min_le_right _ _
theorem qG (v:Int)(n d:Nat):(if v<0 then max (v+(n:Int)) 0 else min v (n:Int))=((sIx n d (some v):Nat):Int):=by
 show (if v<0 then max (v+(n:Int)) 0 else min v (n:Int))=(((if v<0 then (v+(n:Int)).toNat else min v.toNat n):Nat):Int);by_cases hv:v<0
 ·simp only [ug7 hv];left
 ·simp only [ug8 hv];left
theorem yE (lo hi:Option Int)(n:Nat):Builtin.Slice.sliceAdjust lo hi 1 (n:Int)=(((sIx n 0 lo:Nat):Int),((sIx n n hi:Nat):Int)):=by
 have h1:¬ ((1:Int)<0):=by left
 unfold Builtin.Slice.sliceAdjust;simp only [h1,if_false];refine Prod.ext ?_ ?_
 ·cases lo with
  | none=>rfl
  | some v=>exact qG v n 0
 ·cases hi with
  | none=>rfl
  | some v=>exact qG v n n
theorem xJ (i j:Nat):Builtin.Slice.slicePlaces (i:Int) (j:Int) 1=j-i:=by
 unfold Builtin.Slice.slicePlaces;have h1:(1:Int)>0:=by left
 simp only [h1,if_true,Int.ediv_one];split <;> left
theorem eU {v:c9}{o:Option Int}{Q:Option Int->d8->Prop}(p:IsPart v o)(h:Q o s):j7 (p9 prog w) A (Builtin.Slice.slicePartIndex v) Q E s:=by
 cases p with
 | none=>exact slicePart_none h
 | int i t=>exact slicePart_int h
theorem kY {sl:j8}{vl vu:c9}{lo hi:Option Int}{n:Nat}{Q:Int × Int × Nat->d8->Prop}(hs:s.heap.IsSliceOf sl vl vu .none)(pl:IsPart vl lo)(pu:IsPart vu hi)
  (h:Q (((sIx n 0 lo:Nat):Int),1,sIx n n hi-sIx n 0 lo) s):j7 (p9 prog w) A (Builtin.Slice.sliceApplied (.ref sl) (pure (n:Int))) Q E s:=by
 obtain⟨os,hos,hcs,hds⟩:=id hs;unfold Builtin.Slice.sliceApplied Builtin.Slice.sliceFields;refine a8 (a8 (uab hos hds (x:=vl) rfl (a8 (uab hos hds (x:=vu) rfl (a8 (uab hos hds (x:=.none) rfl (c8 ?_)))))));refine a8 (slicePart_none ?_);show j7 _ _ (if ((1:Int)==0)=true then _ else _) _ _ s;rw[ug8 (by decide)];refine a8 (eU pl (a8 (eU pu (a8 (c8 ?_)))));show j7 _ _ (match Builtin.Slice.sliceAdjust lo hi 1 (n:Int) with | (lo,hi)=>pure (lo,(1:Int),Builtin.Slice.slicePlaces lo hi 1)) _ _ s;rw[yE lo hi n];show j7 _ _ (pure (((sIx n 0 lo:Nat):Int),(1:Int),Builtin.Slice.slicePlaces ((sIx n 0 lo:Nat):Int) ((sIx n n hi:Nat):Int) 1)) _ _ s;rw[xJ];exact c8 h
theorem zbd (xs:Array c9)(i k:Nat):((d7 k).filterMap λ (m:Nat)=>xs[((i:Int)+(m:Int)*1).toNat]?).toArray=((xs.toList.drop i).take k).toArray:=by
 have e:(λ (m:Nat)=>xs[((i:Int)+(m:Int)*1).toNat]?)=λ m=>xs[i+m]?:=by
  funext m;have:((i:Int)+(m:Int)*1).toNat=i+m:=by left
  rw[this]
 rw[e];have:=pick_run xs i k;rw[ued] at this;have e2:((λ x=>xs[x]?) ∘ λ x=>i+x)=λ m=>xs[i+m]?:=rfl;rw[e2] at this;rw[this]
theorem sC {t sl:j8}{items:Array c9}{vl vu:c9}{lo hi:Option Int}{Q:c9->d8->Prop}(ht:IsTup s.heap t items)(hs:s.heap.IsSliceOf sl vl vu .none)(pl:IsPart vl lo)(pu:IsPart vu hi)
  (hw:¬ (sIx items.size 0 lo=0/\sIx items.size items.size hi=items.size))
  (h:Q (.ref s.heap.objs.size) { s with heap:=s.heap.push { cls:=.type "tuple",data:=.seq ((items.toList.drop (sIx items.size 0 lo)).take (sIx items.size items.size hi-sIx items.size 0 lo)).toArray } })
  (hsz:items.size<=o7):j7 (p9 prog w) A (getItem (.ref t) (.ref sl)) Q E s:=by
 have htake:sizeOk (.seq ((items.toList.drop (sIx items.size 0 lo)).take (sIx items.size items.size hi-sIx items.size 0 lo)).toArray):=by
  show ((items.toList.drop (sIx items.size 0 lo)).take (sIx items.size items.size hi-sIx items.size 0 lo)).toArray.size<=o7;rw[j5,uac,o6,ua7];left
 have hj:sIx items.size items.size hi<=items.size:=zd7 _ _ (i6 _) hi;obtain⟨os,hos,hcs,hds⟩:=id hs;have hTs:s.TypeIs (.ref sl) "slice":=⟨os,hos,hcs⟩;unfold getItem
 try with_reducible refine uae ?_
 first | refine a8 (c8 ?_) | skip
 refine a8 (ues ht.typeIs (by decide) ?_);refine a8 (uaf (name:=v4 "__getitem__") ht.typeIs z9
  (uar z9 ht.typeIs entry_tuple_getitem ?_ (args_tuple_getitem _ _)))
 show j7 _ _ (Builtin.Tuple.tupleItemsOf (.ref t) >>= _) _ _ s;refine a8 (tupleItemsOf_ ht ?_);refine a8 (uc5 hTs ?_);rw[ug7 (by decide)];refine a8 (kY hs pl pu ?_);have hno:¬ ((((sIx items.size 0 lo:Nat):Int)==0&&(1:Int)==1&&(sIx items.size items.size hi-sIx items.size 0 lo)==items.size)=true):=by
  intro q;rw[uaa,uaa] at q;have q1:((sIx items.size 0 lo:Nat):Int)=0:=eq_of_beq q.1.1;have q2:sIx items.size items.size hi-sIx items.size 0 lo=items.size:=eq_of_beq q.2;exact hw ⟨by left,by left⟩
 show j7 _ _ (if (((sIx items.size 0 lo:Nat):Int)==0&&(1:Int)==1&&(sIx items.size items.size hi-sIx items.size 0 lo)==items.size)=true then _ else _) _ _ s;rw[ug8 hno,zbd]
 first
  | exact a8 (m:=Builtin.Tuple.tupleExact _) (v8 (c8 ⟨A,c8 h⟩) htake)
  | exact a8 (m:=Builtin.Tuple.tupleExact _) (v8 (a8 (c8 (c8 ⟨A,c8 h⟩))) htake)
  | exact a8 (a8 (m:=Builtin.Tuple.tupleExact _) (v8 (c8 (c8 ⟨A,c8 h⟩)) htake))
  | exact a8 (a8 (m:=Builtin.Tuple.tupleExact _) (v8 (c8 ⟨A,c8 h⟩) htake))
end
end HT
namespace L2
open PySem PySem.Spec PyProof.Rows
abbrev TO:=St->Hp->(Option Int->Hp->Prop)->Prop
def PO (X:Cx)(e:Option uby)(t:TO):Prop :=
 ∀ (pins:List (j8 × Obj))(s:d8)(σ:St)(H:Hp)(Q:Option Int->Hp->Prop),Inv X pins σ H s->t σ H Q ->
  j7 (p9 X.prog X.w) X.A (evalPart e X.env) (λ u s'=>∃ o H',Inv X pins σ H' s'/\IsPart u o/\Q o H') X.xe s
def tNoPart:TO:=λ _ H Q=>Q none H
def tPart (t:TE):TO:=λ σ H Q=>t σ H λ x H1=>EInt x λ i=>Q (some i) H1
theorem cW {ns:List Int}:∀ {us:List c9},Vals (ns.map V.int) us->IntsAre us ns:=by
 induction ns with
 | nil=>intro us r;rw[List.map_nil] at r;cases r;exact .nil
 | cons n ns ih =>
  intro us r;rw[ua8] at r;cases r with
  | cons r1 r2 =>
   obtain⟨t,e⟩:=r1;subst e;exact .cons n t (ih r2)
section
variable {X:Cx}{e:uby}{te:TE}{lo hi:Option uby}{tl th:TO}{pos p2:Pos}
theorem bG:PO X none tNoPart:=by
 intro pins s σ H Q I h;rw[evalPart_none];exact c8 ⟨none,H,I,.none,h⟩
theorem bL (h:PE X e te):PO X (some e) (tPart te):=by
 intro pins s σ H Q I hw;rw[evalPart_some];refine thn (h pins s σ H _ I hw) λ u s1 ⟨x,H1,I1,r1,q1⟩=>?_;obtain⟨i,rfl,q⟩:=q1;obtain⟨t,rfl⟩:=r1;exact⟨some i,H1,I1,.int i t,q⟩
def SlR (X:Cx)(r:V->Option Int->Option Int->Hp->VK->Prop):Prop :=
 ∀ (pins:List (j8 × Obj))(s:d8)(σ:St)(H:Hp)(x:V)(v vl vu:c9)(lo hi:Option Int)(sl:j8)(Q:VK),Inv X pins σ H s->RelV x v->s.heap.IsSliceOf sl vl vu .none->IsPart vl lo->IsPart vu hi->r x lo hi H Q ->
  ∃ T id,typeLookup (.type T) "__getitem__"=pure (some (.builtin id))/\s.TypeIs v T/\j7 (p9 X.prog X.w) X.A (getItem v (.ref sl)) (EP X pins σ Q) X.xe s
def tSl (r:V->Option Int->Option Int->Hp->VK->Prop)(te:TE)(tl th:TO):TE:=λ σ H Q=>te σ H λ x H1=>tl σ H1 λ l H2=>th σ H2 λ u H3=>r x l u H3 Q
theorem bH {r:V->Option Int->Option Int->Hp->VK->Prop}(hr:SlR X r)(he:PE X e te)(hl:PO X lo tl)(hu:PO X hi th):PE X (.Subscript e (.Slice lo hi none p2) pos) (tSl r te tl th):=by
 intro pins s σ H Q I h;refine Subscript_ (thn (he pins s σ H _ I h) λ v s1 ⟨x,H1,I1,r1,q1⟩=>?_);refine wpAny_Slice (thn (hl pins s1 σ H1 _ I1 q1) λ vl s2 ⟨l,H2,I2,pl,q2⟩=>thn (hu pins s2 σ H2 _ I2 q2) λ vu s3 ⟨u,H3,I3,pu,q3⟩=>?_);rw[evalPart_none];refine c8 ?_;have I4:Inv X pins σ H3 { s3 with heap:=s3.heap.push { cls:=.type "slice",data:=.fields #[vl,vu,.none] } }:=I3.kept (t':=s3.toks) λ b ob q=>a9 _ q;obtain⟨T,id,hT,ht,hg⟩:=hr pins { s3 with heap:=s3.heap.push { cls:=.type "slice",data:=.fields #[vl,vu,.none] } } σ H3 x v vl vu l u s3.heap.objs.size Q I4 r1 (uf6 ..) pl pu q3;show j7 (p9 X.prog X.w) X.A (subscriptTail e (.Slice lo hi none p2) v (.ref s3.heap.objs.size)) (EP X pins σ Q) X.xe { s3 with heap:=s3.heap.push { cls:=.type "slice",data:=.fields #[vl,vu,.none] } };exact tail_any (ops:=[.ref s3.heap.objs.size,v]) ht hT hg (by with_unfolding_all rfl)
def cutV (xs:List V)(lo hi:Option Int):List V:=(xs.drop (HT.sIx xs.length 0 lo)).take (HT.sIx xs.length xs.length hi-HT.sIx xs.length 0 lo)
theorem wM (xs:List V)(lo hi:Option Int):(cutV xs lo hi).length<=xs.length:=by
 unfold cutV;rw[uac,o6];left
inductive rSlT_i (K:b9)(x:V)(lo:Option Int)(hi:Option Int)(H:Hp)(Q:VK):Prop
 | mk:∀ a xs,(x=.ref a)->(SqT K H a xs)->(¬ (HT.sIx xs.length 0 lo=0/\HT.sIx xs.length xs.length hi=xs.length))->(∀ p,H p=none->Q (.ref p) (upd H p (.tup (cutV xs lo hi))))->rSlT_i K x lo hi H Q
def rSlT (K:b9):V->Option Int->Option Int->Hp->VK->Prop:=λ x lo hi H Q=>rSlT_i K x lo hi H Q
theorem zd3:SlR X (rSlT X.K):=by
 intro pins s σ H x v vl vu lo hi sl Q I rx hs pl pu h;obtain⟨a,xs,rfl,hx,hw,q⟩:=h;cases rx;obtain⟨its,r,ht,hz⟩:=I.tuple hx;have hlen:its.toArray.size=xs.length:=by rw[j5];exact r.length.symm
 refine⟨"tuple",_,z9.lookup,ht.typeIs,?_⟩;refine HT.sC ht hs pl pu (by rw[hlen];exact hw) ?_ (by rw[hlen];exact hz);rw[hlen];refine⟨.ref s.heap.objs.size,_,I.laid (t':=s.toks) (o:=.tup (cutV xs lo hi)) (λ b ob q=>a9 _ q) (i6 _) ?_,rfl,q _ (I.hok.fresh (i6 _))⟩;exact⟨o8 (wM xs lo hi) hz,_,(r.drop (HT.sIx xs.length 0 lo)).take (HT.sIx xs.length xs.length hi-HT.sIx xs.length 0 lo),TupN.new _ _⟩
inductive rLtT_i (K:b9)(x:V)(y:V)(H:Hp)(Q:VK):Prop
 | mk:∀ a b ns ms,(x=.ref a)->(y=.ref b)->(SqT K H a (ns.map V.int))->(SqT K H b (ms.map V.int))->(Q (.bl (HT.lexLt ns ms)) H)->rLtT_i K x y H Q
def rLtT (K:b9):R2:=λ x y H Q=>rLtT_i K x y H Q
theorem zek (hu:X.A.units<cLine):OpR X (compareOp .Lt) (rLtT X.K):=by
 intro pins s σ H x y v u Q I rx ry h;obtain⟨a,b,ns,ms,rfl,rfl,ha,hb,q⟩:=h;cases rx;cases ry;obtain⟨its,r1,p1,_⟩:=I.tuple ha;obtain⟨its2,r2,p2,_⟩:=I.tuple hb;have i1:IntsAre its.toArray.toList ns:=cW r1;have i2:IntsAre its2.toArray.toList ms:=cW r2;exact HT.lX p1 p2 i1 i2 hu ⟨.bl (HT.lexLt ns ms),H,I,rfl,q⟩
inductive rCatT_i (K:b9)(x:V)(y:V)(H:Hp)(Q:VK):Prop
 | mk:∀ a b xs ys,(x=.ref a)->(y=.ref b)->(SqT K H a xs)->(SqT K H b ys)->(xs≠[])->(xs.length+ys.length<=o7)->((ys=[]->Q (.ref a) H))->((ys≠[]->∀ p,H p=none->Q (.ref p) (upd H p (.tup (xs++ys)))))->rCatT_i K x y H Q
def rCatT (K:b9):R2:=λ x y H Q=>rCatT_i K x y H Q
theorem Vals.nil_iff {xs:List V}{us:List c9}(r:Vals xs us):us=[]↔xs=[]:=by
 cases r with
 | nil=>simp
 | cons _ _=>simp
theorem zde:OpR X (binaryOp .Add) (rCatT X.K):=by
 intro pins s σ H x y v u Q I rx ry h;obtain⟨a,b,xs,ys,rfl,rfl,ha,hb,hx,hz,q1,q2⟩:=h;cases rx;cases ry;obtain⟨its,r1,p1,_⟩:=I.tuple ha;obtain⟨its2,r2,p2,_⟩:=I.tuple hb;refine HT.zdw p1 p2 (λ z=>hx (r1.nil_iff.mp z)) (λ z=>⟨.ref a,H,I,rfl,q1 (r2.nil_iff.mp z)⟩) (λ z=>?_) (by rw[← r1.length,← r2.length];exact hz);refine⟨.ref s.heap.objs.size,_,I.laid (t':=s.toks) (o:=.tup (xs++ys)) (λ b ob q=>a9 _ q) (i6 _) ?_,rfl,q2 (λ w=>z (r2.nil_iff.mpr w)) _ (I.hok.fresh (i6 _))⟩;exact⟨by rw[i8];exact hz,_,r1.append r2,TupN.new _ _⟩
end
end L2
namespace L2
open PySem PySem.Spec PyProof.Rows
def ixN (n:Nat)(i:Int):Option Nat:=if 0<=i then (if i<n then some i.toNat else none) else if -(n:Int)<=i then some (i+n).toNat else none
def atI {α:Type}(xs:List α)(i:Int):Option α:=(ixN xs.length i).bind λ j=>xs[j]?
theorem jT {n:Nat}{i:Int}{j:Nat}(h:ixN n i=some j):seqIndex? i n=some j/\j<n/\-(n:Int)<=i/\i<n:=by
 unfold ixN at h;by_cases h0:0<=i
 ·rw[ug7 h0] at h;by_cases h1:i<n
  ·rw[ug7 h1] at h;have e:i.toNat=j:=ubk h;exact⟨by rw[seqIndex_of h0 h1,e],by left,by left,h1⟩
  ·rw[ug8 h1] at h;cases h
 ·rw[ug8 h0] at h;by_cases h1:-(n:Int)<=i
  ·rw[ug7 h1] at h;have e:(i+n).toNat=j:=ubk h;exact⟨by rw[seqIndex_neg (by left) h1,e],by left,h1,by left⟩
  ·rw[ug8 h1] at h;cases h
theorem qL {α:Type}{xs:List α}{i:Int}{v:α}(h:atI xs i=some v):∃ j,seqIndex? i xs.length=some j/\xs[j]?=some v/\j<xs.length/\-(xs.length:Int)<=i/\i<xs.length:=by
 unfold atI at h;cases e:ixN xs.length i with
 | none=>rw[e] at h;cases h
 | some j =>
  rw[e] at h;obtain⟨h1,h2,h3,h4⟩:=jT e;exact⟨j,h1,h,h2,h3,h4⟩
theorem qK {α:Type}{xs:List α}{j:Nat}{v:α}(h:xs[j]?=some v):atI xs (j:Int)=some v:=by
 have hj:j<xs.length:=(j6.mp h).1;have e:ixN xs.length (j:Int)=some j:=by
  unfold ixN;rw[ug7 (by left),ug7 (by left)];simp
 unfold atI;rw[e];exact h
def PlainIx (b:uby):Prop:=∀ o i,subscripted b false o i=operate [o,i] (getItem o i)
def IxR (X:Cx)(r:R2):Prop :=
 ∀ (value slice:uby)(pins:List (j8 × Obj))(s:d8)(σ:St)(H:Hp)(x y:V)(v u:c9)(Q:VK),Inv X pins σ H s->RelV x v->RelV y u->r x y H Q ->
  subscripted slice false v u=operate [v,u] (getItem v u)->j7 (p9 X.prog X.w) X.A (subscriptTail value slice v u) (EP X pins σ Q) X.xe s
def MtR (X:Cx)(id:String)(r:V->List V->Hp->VK->Prop):Prop :=
 ∀ (pins:List (j8 × Obj))(s:d8)(σ:St)(H:Hp)(x:V)(xs:List V)(v:c9)(us:List c9)(Q:VK),Inv X pins σ H s->RelV x v->Vals xs us->r x xs H Q ->
  j7 (p9 X.prog X.w) X.A (call (.builtin id) (v::us)) (EP X pins σ Q) X.xe s
section
variable {X:Cx}{a b:uby}{ta tb:TE}{pos:Pos}
theorem aK {r:R2}(hr:IxR X r)(ha:PE X a ta)(hb:PE X b tb)(hs:PlainIx b):PE X (.Subscript a b pos) (tOp r ta tb):=by
 intro pins s σ H Q I h;exact Subscript_ (binT ha hb I h λ v u s2 x y H2 I2 rx ry q=>hr a b pins s2 σ H2 x y v u Q I2 rx ry q (hs _ _))
inductive rIxL_i (K:b9)(x:V)(y:V)(H:Hp)(Q:VK):Prop
 | mk:∀ p xs i v,(x=.ref p)->(y=.int i)->(SqL K H p xs)->(atI xs i=some v)->(Q v H)->rIxL_i K x y H Q
def rIxL (K:b9):R2:=λ x y H Q=>rIxL_i K x y H Q
inductive rIxT_i (K:b9)(x:V)(y:V)(H:Hp)(Q:VK):Prop
 | mk:∀ p xs i v,(x=.ref p)->(y=.int i)->(SqT K H p xs)->(atI xs i=some v)->(Q v H)->rIxT_i K x y H Q
def rIxT (K:b9):R2:=λ x y H Q=>rIxT_i K x y H Q
theorem aW:IxR X (rIxL X.K):=by
 intro value slice pins s σ H x y v u Q I rx ry h hs;obtain⟨p,xs,i,z,rfl,rfl,hq,he,q⟩:=h;cases rx;obtain⟨t,rfl⟩:=ry;obtain⟨its,r,pl,hz⟩:=I.list hq;obtain⟨j,h1,h2,h3,h4,h5⟩:=qL he;obtain⟨w,ew,rw'⟩:=r.get h2;have hl:=r.length;have hn:=line63;have fin:EP X pins σ Q w s:=⟨z,H,I,rw',q⟩;by_cases h0:0<=i
 ·have hj:i.toNat=j:=by
   rw[seqIndex_of h0 h5] at h1;exact ubk h1
  exact item_listR pl.isList h0 (by left) (by rw[hj];simpa using ew) fin hs
 ·have hj:(i+(its.toArray.size:Int)).toNat=j:=by
   rw[seqIndex_neg (by left) h4] at h1;rw[j5,← hl];exact ubk h1
  exact subscriptTail_builtinR (x:=w) pl.isList.typeIs slot_list_getitem.lookup
   (wpAny_getItem_list_neg (Q:=λ r s'=>r=w/\EP X pins σ Q r s') pl.isList (by left) (by rw[j5] <;> left) (by left) (by rw[hj];simpa using ew) ⟨rfl,fin⟩) hs
theorem aV:IxR X (rIxT X.K):=by
 intro value slice pins s σ H x y v u Q I rx ry h hs;obtain⟨p,xs,i,z,rfl,rfl,hq,he,q⟩:=h;cases rx;obtain⟨t,rfl⟩:=ry;obtain⟨its,r,pl,hz⟩:=I.tuple hq;obtain⟨j,h1,h2,h3,h4,h5⟩:=qL he;obtain⟨w,ew,rw'⟩:=r.get h2;have hl:=r.length;have hn:=line63;have fin:EP X pins σ Q w s:=⟨z,H,I,rw',q⟩;exact subscriptTail_builtinR (x:=w) pl.typeIs slot_tuple_getitem.lookup
  (getItem_tuple (j:=j) (Q:=λ r s'=>r=w/\EP X pins σ Q r s') pl (by left) (by left) (by rw[j5,← hl];exact h1) (by simpa using ew) ⟨rfl,fin⟩) hs
theorem xP (its:List c9)(n j:Nat)(u:c9):Obj.mapSeq (·.setIfInBounds j u) { cls:=.type "list",data:=.seq its.toArray n }={ cls:=.type "list",data:=.seq (its.set j u).toArray n }:=by
 simp [Obj.mapSeq]
theorem Inv.lst {pins:List (j8 × Obj)}{σ:St}{H:Hp}{s:d8}{p:j8}{xs:List V}(I:Inv X pins σ H s)(h:H p=some (.lst xs)) :
  ∃ (its:List c9)(n:Nat),Vals xs its/\s.heap.get? p=some { cls:=.type "list",data:=.seq its.toArray n }/\xs.length<=o7:=by
 obtain⟨z,its,n,r,e⟩:=I.hok p _ h;exact⟨its,n,r,e,z⟩
theorem Inv.lstUpd {pins:List (j8 × Obj)}{σ:St}{H:Hp}{s:d8}{p:j8}{xs ys:List V}{its its':List c9}{n n':Nat}{f:Obj->Obj}(I:Inv X pins σ H s)(h:H p=some (.lst xs))
  (ho:s.heap.get? p=some { cls:=.type "list",data:=.seq its.toArray n }) (hf:f { cls:=.type "list",data:=.seq its.toArray n }={ cls:=.type "list",data:=.seq its'.toArray n' }) (r:Vals ys its') (hz:ys.length<=o7) (t:Nat) :
  Inv X pins σ (upd H p (.lst ys)) { s with heap:=s.heap.update p f,toks:=t }:=by
 have e:(s.heap.update p f).get? p=some { cls:=.type "list",data:=.seq its'.toArray n' }:=by
  rw[uag f ho (by rw[hf] <;> rfl),hf]
 refine I.write (x:=p) (e:=p) (by rw[h];trivial) (.inl rfl) (λ b u hb q=>(j0 _ _ (Ne.symm hb)).trans q) ⟨_,e⟩ ?_;exact⟨hz,its',n',r,e⟩
inductive rSetL_i  (o:V) (i:V) (v:V) (H:Hp) (Q:Hp->Prop):Prop
 | mk:∀ p xs k j,(o=.ref p)->(i=.int k)->(H p=some (.lst xs))->(ixN xs.length k=some j)->(Q (upd H p (.lst (xs.set j v))))->rSetL_i o i v H Q
def rSetL :V->V->V->Hp->(Hp->Prop)->Prop:=λ o i v H Q=>rSetL_i o i v H Q
theorem fB:PSet X rSetL:=by
 intro pins s σ H o i v ov iv u Q I ro ri rv h;obtain⟨p,xs,k,j,rfl,rfl,hp,hj,q⟩:=h;cases ro;obtain⟨t,rfl⟩:=ri;obtain⟨its,n,r,ho,hz⟩:=I.lst hp;obtain⟨h1,h2,h3,h4⟩:=jT hj;have hl:=r.length;have hn:=line63;have I':Inv X pins σ (upd H p (.lst (xs.set j v))) { s with heap:=s.heap.update p (Obj.mapSeq (·.setIfInBounds j u)) } :=
  I.lstUpd hp ho (xP its n j u) (r.set rv j) (by rw[ub3];exact hz) s.toks
 by_cases h0:0<=k
 ·have hk:k.toNat=j:=by
   rw[seqIndex_of h0 h4] at h1;exact ubk h1
  exact PySem.W.ki_setAt ho h0 (by left) (by rw[j5,← hl];exact h4) (by rw[hk];exact⟨_,I',q⟩)
 ·have hk:(k+(its.toArray.size:Int)).toNat=j:=by
   rw[seqIndex_neg (by left) h3] at h1;rw[j5,← hl];exact ubk h1
  exact PySem.W.ki_setBack ho (by left) (by rw[j5,← hl];exact h3) (by left) (by rw[hk];exact⟨_,I',q⟩)
def flatV:V->Bool
 | .non=>true
 | .bl _=>true
 | .int _=>true
 | .str _=>true
 | _=>false
def eqV:V->V->Bool
 | .non,.non=>true
 | .bl a,.bl b=>a==b
 | .bl a,.int b=>(if a then 1 else 0)==b
 | .int a,.bl b=>a==(if b then 1 else 0)
 | .int a,.int b=>a==b
 | .str a,.str b=>a==b
 | _,_=>false
theorem zey {A:uaj}{s:d8}{y x:V}{u v:c9}(ry:RelV y u)(rx:RelV x v)(fy:flatV y=true)(fx:flatV x=true):SeqAt.EqAt A s u v (eqV y x):=by
 cases y with
 | non =>
  cases ry;cases x with
  | non=>cases rx;exact SeqAt.EqAt.same _
  | bl b=>cases rx;exact SeqAt.EqAt.none_bool b
  | int b=>obtain⟨t,rfl⟩:=rx;exact SeqAt.EqAt.none_int b t
  | str b=>obtain⟨t,rfl⟩:=rx;exact SeqAt.EqAt.none_str b t
  | _=>exact absurd (show false=true from fx) j9
 | bl a =>
  cases ry;cases x with
  | non=>cases rx;exact SeqAt.EqAt.bool_none a
  | bl b=>cases rx;exact SeqAt.EqAt.bool_bool a b
  | int b=>obtain⟨t,rfl⟩:=rx;exact SeqAt.EqAt.bool_int a b t
  | str b=>obtain⟨t,rfl⟩:=rx;exact SeqAt.EqAt.bool_str a b t
  | _=>exact absurd (show false=true from fx) j9
 | int a =>
  obtain⟨t',rfl⟩:=ry;cases x with
  | non=>cases rx;exact SeqAt.EqAt.int_none a t'
  | bl b=>cases rx;exact SeqAt.EqAt.int_bool a t' b
  | int b=>obtain⟨t,rfl⟩:=rx;exact SeqAt.EqAt.int_int a t' b t
  | str b=>obtain⟨t,rfl⟩:=rx;exact SeqAt.EqAt.int_str a t' b t
  | _=>exact absurd (show false=true from fx) j9
 | str a =>
  obtain⟨t',rfl⟩:=ry;cases x with
  | non=>cases rx;exact SeqAt.EqAt.str_none a t'
  | bl b=>cases rx;exact SeqAt.EqAt.str_bool a t' b
  | int b=>obtain⟨t,rfl⟩:=rx;exact SeqAt.EqAt.str_int a t' b t
  | str b=>obtain⟨t,rfl⟩:=rx;exact SeqAt.EqAt.str_str a t' b t
  | _=>exact absurd (show false=true from fx) j9
 | _=>exact absurd (show false=true from fy) j9
def eqU (x:V)(u:c9):Bool:=match u with
 | .none=>eqV .non x
 | .bool b=>eqV (.bl b) x
 | .int i _=>eqV (.int i) x
 | .str z _=>eqV (.str z) x
 | _=>false
theorem qZ {x y:V}{u:c9}(r:RelV y u)(f:flatV y=true):eqU x u=eqV y x:=by
 cases y with
 | non=>cases r;rfl
 | bl b=>cases r;rfl
 | int i=>obtain⟨t,rfl⟩:=r;rfl
 | str z=>obtain⟨t,rfl⟩:=r;rfl
 | _=>exact absurd (show false=true from f) j9
theorem fR {x:V}:∀ {xs:List V}{us:List c9},Vals xs us->xs.all flatV=true->us.any (eqU x)=xs.any λ y=>eqV y x
 | _,_,.nil,_=>rfl
 | y::xs,u::us,.cons r t,f=>by
  rw[ug2,uaa] at f;rw[ug1,ug1,qZ r f.1,fR t f.2]
theorem fD {A:uaj}{s:d8}{x:V}{v:c9}(rx:RelV x v)(fx:flatV x=true):∀ {xs:List V}{us:List c9},Vals xs us->xs.all flatV=true->∀ u∈us,SeqAt.EqAt A s u v (eqU x u)
 | _,_,.nil,_=>λ u hu=>by cases hu
 | y::xs,u::us,.cons r t,f=>λ u' hu=>by
  rw[ug2,uaa] at f;rcases j4.mp hu with rfl | hu
  ·rw[qZ r f.1];exact zey r rx f.1 fx
  ·exact fD rx fx t f.2 u' hu
def inV (x:V)(xs:List V):Bool:=xs.any λ y=>eqV y x
inductive rIn_i (K:b9)(neg:Bool)(x:V)(y:V)(H:Hp)(Q:VK):Prop
 | mk:∀ p xs,(y=.ref p)->((SqL K H p xs\/SqT K H p xs))->(flatV x=true)->(xs.all flatV=true)->(Q (.bl (if neg then !inV x xs else inV x xs)) H)->rIn_i K neg x y H Q
def rIn (K:b9)(neg:Bool):R2:=λ x y H Q=>rIn_i K neg x y H Q
theorem yV:OpR X (compareOp .In) (rIn X.K false):=by
 intro pins s σ H x y v u Q I rx ry h;obtain⟨p,xs,rfl,hq,fx,fs,q⟩:=h;cases ry;rcases hq with hq | hq
 ·obtain⟨its,r,pl,hz⟩:=I.list hq;refine SeqAt.in_listAt (eqU x) pl.isList (λ w hw=>fD rx fx r fs w (by simpa using hw)) ⟨.bl _,H,I,rfl,?_⟩;rw[show its.toArray.any (eqU x)=its.any (eqU x) by simp,fR r fs];exact q
 ·obtain⟨its,r,pl,hz⟩:=I.tuple hq;refine SeqAt.in_tupleAt (eqU x) pl (λ w hw=>fD rx fx r fs w (by simpa using hw)) ⟨.bl _,H,I,rfl,?_⟩;rw[show its.toArray.any (eqU x)=its.any (eqU x) by simp,fR r fs];exact q
theorem uV:OpR X (compareOp .NotIn) (rIn X.K true):=by
 intro pins s σ H x y v u Q I rx ry h;obtain⟨p,xs,rfl,hq,fx,fs,q⟩:=h;cases ry;rcases hq with hq | hq
 ·obtain⟨its,r,pl,hz⟩:=I.list hq;refine SeqAt.notIn_listAt (eqU x) pl.isList (λ w hw=>fD rx fx r fs w (by simpa using hw)) ⟨.bl _,H,I,rfl,?_⟩;rw[show its.toArray.any (eqU x)=its.any (eqU x) by simp,fR r fs];exact q
 ·obtain⟨its,r,pl,hz⟩:=I.tuple hq;refine SeqAt.notIn_tupleAt (eqU x) pl (λ w hw=>fD rx fx r fs w (by simpa using hw)) ⟨.bl _,H,I,rfl,?_⟩;rw[show its.toArray.any (eqU x)=its.any (eqU x) by simp,fR r fs];exact q
inductive call_len_seq_i (K:b9)(xs:List V)(H:Hp)(Q:VK):Prop
 | mk:∀ p ys,(xs=[.ref p])->((SqL K H p ys\/SqT K H p ys))->(Q (.int ys.length) H)->call_len_seq_i K xs H Q
theorem bO:CallR X (.builtin "len") (call_len_seq_i X.K):=by
 intro pins s σ H xs us Q I r h;obtain⟨p,ys,rfl,hq,q⟩:=h;obtain⟨u,rfl,rx⟩:=vals1 r;cases rx;have hn:=line63;rcases hq with hq | hq
 ·obtain⟨its,r',pl,hz⟩:=I.list hq;have hlen:=r'.length;exact Calls.call_len_list pl.isList (by simp only [j5] <;> left) ⟨.int ys.length,H,I.tok _,⟨s.toks+1,by rw[j5,hlen]⟩,q⟩
 ·obtain⟨its,r',pl,hz⟩:=I.tuple hq;have hlen:=r'.length;exact len_tuple pl (by simp only [j5] <;> left) ⟨.int ys.length,H,I.tok _,⟨s.toks+1,by rw[j5,hlen]⟩,q⟩
inductive call_list_of_i (K:b9)(xs:List V)(H:Hp)(Q:VK):Prop
 | mk:∀ p ys,(xs=[.ref p])->((SqL K H p ys\/SqT K H p ys))->(∀ l,H l=none->Q (.ref l) (upd H l (.lst ys)))->call_list_of_i K xs H Q
theorem vH:CallR X (.type "list") (call_list_of_i X.K):=by
 intro pins s σ H xs us Q I r h;obtain⟨p,ys,rfl,hq,q⟩:=h;obtain⟨u,rfl,rx⟩:=vals1 r;cases rx;have fin : ∀ (its : List c9), Vals ys its → ys.length <= o7 → ∀ (h' : Heap)(c' : Nat), (∀ b o', s.heap.get? b = some o' → h'.get? b = some o') →
     h'.get? s.heap.objs.size=some { cls:=.type "list",dict:=none,data:=.seq its.toArray c',slots:=#[] }->EP X pins σ Q (.ref s.heap.objs.size) { s with heap:=h' }:=λ its r' hz h' c' kp e =>
  ⟨.ref s.heap.objs.size,_,I.laid (t':=s.toks) kp (i6 _) (show ObjOk X.prog X.w _ h' _ (.lst ys) from ⟨hz,its,c',r',e⟩),rfl,q _ (I.hok.fresh (i6 _))⟩
 rcases hq with hq | hq
 ·obtain⟨its,r',pl,hz⟩:=I.list hq;have hlen:=r'.length;obtain⟨o,ho,hc,n,hd⟩:=pl.isList;exact call_list_seq p (.inl rfl) ho hc hd (λ h' c' kp e=>fin its r' hz h' c' kp e) (by simp only [j5] <;> left)
 ·obtain⟨its,r',pl,hz⟩:=I.tuple hq;have hlen:=r'.length;obtain⟨o,ho,hc,n,hd⟩:=pl;exact call_list_seq p (.inr rfl) ho hc hd (λ h' c' kp e=>fin its r' hz h' c' kp e) (by simp only [j5] <;> left)
inductive call_tuple_of_i (K:b9)(xs:List V)(H:Hp)(Q:VK):Prop
 | mk:∀ p ys,(xs=[.ref p])->(((SqL K H p ys/\∀ l,H l=none->Q (.ref l) (upd H l (.tup ys)))\/(SqT K H p ys/\Q (.ref p) H)))->call_tuple_of_i K xs H Q
theorem lE:CallR X (.type "tuple") (call_tuple_of_i X.K):=by
 intro pins s σ H xs us Q I r h;obtain⟨p,ys,rfl,h⟩:=h;obtain⟨u,rfl,rx⟩:=vals1 r;cases rx;rcases h with ⟨hq,q⟩ | ⟨hq,q⟩
 ·obtain⟨its,r',pl,hz⟩:=I.list hq;have hlen:=r'.length;refine call_tuple_list pl.isList (λ h' kp=>?_) (by simp only [j5] <;> left);have I1:Inv X pins σ H { s with heap:=h' }:=I.kept (t':=s.toks) kp;have I2:Inv X pins σ (upd H h'.objs.size (.tup ys)) { s with heap:=h'.push { cls:=.type "tuple",data:=.seq its.toArray } } :=
   I1.laid (t':=s.toks) (λ b o e=>a9 _ e) (i6 _) (show ObjOk X.prog X.w _ _ _ (.tup ys) from ⟨hz,its,r',TupN.new _ _⟩)
  exact⟨.ref h'.objs.size,_,I2,rfl,q _ (I1.hok.fresh (i6 _))⟩
 ·obtain⟨its,r',pl,hz⟩:=I.tuple hq;exact call_tuple_same pl ⟨.ref p,H,I,rfl,q⟩
def tyV (K:b9)(T:String)(x:V)(H:Hp):Prop:=match x with
 | .str _=>T="str"
 | .int _=>T="int"
 | .ref p => (T = "list" /\ ∃ xs, SqL K H p xs) \/ (T = "tuple" /\ ∃ o, K.lookup p = some o /\ o.cls = .type "tuple" /\ o.dict = none) \/
     (T="dict"/\((∃ kvs,H p=some (.dK kvs))\/∃ kvs,H p=some (.dT kvs)))\/(T="set"/\∃ S n,H p=some (.set S n))
 | _=>False
theorem zd0 {pins:List (j8 × Obj)}{σ:St}{H:Hp}{s:d8}{T:String}{x:V}{v:c9}(I:Inv X pins σ H s)(r:RelV x v)(ty:tyV X.K T x H) :
  s.TypeIs v T/\∀ a,v=.ref a->∃ ob,s.heap.get? a=some ob/\ob.dict=none:=by
 cases x with
 | str z =>
  obtain⟨t,rfl⟩:=r;cases (show T="str" from ty);exact⟨typeIs_str s z t,λ _ e=>nomatch e⟩
 | int i =>
  obtain⟨t,rfl⟩:=r;cases (show T="int" from ty);exact⟨uet s i t,λ _ e=>nomatch e⟩
 | ref p =>
  cases r;rcases ty with ⟨rfl,xs,hq⟩ | ⟨rfl,o,hk,hc,hd⟩ | ⟨rfl,hk⟩ | ⟨rfl,S,n,hk⟩
  ·obtain⟨its,_,pl,_⟩:=I.list hq;refine⟨pl.isList.typeIs,λ a e=>?_⟩;cases e;obtain⟨o,n,e,c,hd,_⟩:=pl;exact⟨o,e,hd⟩
  ·refine⟨⟨o,I.kIn p o hk,hc⟩,λ a e=>?_⟩;cases e;exact⟨o,I.kIn _ o hk,hd⟩
  ·have z:∃ o,s.heap.get? p=some o/\o.ExactDict:=by
    rcases hk with ⟨kvs,hk⟩ | ⟨kvs,hk⟩
    ·obtain⟨_,_,_,_,o,_,_,e,ex,_⟩:=I.hok p _ hk;exact⟨o,e,ex⟩
    ·obtain⟨_,_,_,_,o,_,_,e,ex,_⟩:=I.hok p _ hk;exact⟨o,e,ex⟩
   obtain⟨o,e,ex⟩:=z;refine⟨⟨o,e,ex.1⟩,λ a e2=>?_⟩;cases e2;exact⟨o,e,ex.2.1⟩
  ·obtain⟨o,_,_,_,e,ex,_⟩:=I.hok p _ hk;refine⟨⟨o,e,ex.1⟩,λ a e2=>?_⟩;cases e2;exact⟨o,e,ex.2.1⟩
 | _=>exact False.elim ty
def tBM (K:b9)(T:String)(r:V->List V->Hp->VK->Prop)(to:TE)(t:TA):TE:=λ σ H Q=>to σ H λ x H1=>tyV K T x H1/\t σ H1 λ xs H2=>r x xs H2 Q
variable {o e:uby}{es:List uby}{to:TE}{t:TA}{name:Str}{apos cpos:Pos}{T id:String}{r:V->List V->Hp->VK->Prop}
theorem cF (pa:PlainAttrs T)(slot:Slot T name id)(hty:typeOf (.builtin id)=pure (.type "method_descriptor"))(hm:MtR X id r)(ho:PE X o to)(ha:PA X (e::es) t)
  (hbase:attributeBase o name X.env (eval o X.env)=eval o X.env:=by rfl)
  (hfew:((backTo cpos (uav (e::es) X.env)).all (λ x=>!x.1)&&(backToKw cpos (keywordEach [] X.env)).all (λ x=>x.1.isSome)
  &&decide ((e::es).length+([]:List Keyword).length+(if ([]:List Keyword).isEmpty then 0 else 1)<30))=true:=by rfl)
  (hline:(apos.endLine==cpos.line)=true:=by rfl) (hs:uav (e::es) X.env=(false,eval e X.env)::uav es X.env:=by rfl) (hplain:(backTo cpos (uav es X.env)).any (·.1)=false:=by rfl) :
  PE X (.Call (.Attribute o name apos) (e::es) [] cpos) (tBM X.K T r to t):=by
 intro pins s σ H Q I h;refine wpAny_Call_method_late hbase hfew hline rfl (thn (ho pins s σ H _ I h) λ v s1 ⟨x,H1,I1,r1,ty,q1⟩=>?_);obtain⟨h1,h2⟩:=zd0 I1 r1 ty;refine⟨T,id,pa,slot,hty,h1,h2,?_⟩;have hA:=ha cpos pins s1 σ H1 _ I1 q1;rw[hs] at hA ⊢;refine Calls.callWith_builtin (by show (false||(backTo cpos (uav es X.env)).any (·.1))=false;rw[hplain] <;> rfl) (Calls.evalArgs_plain ?_);exact thn hA λ us s2 ⟨vs,H2,I2,r2,q2⟩=>hm pins s2 σ H2 x vs v us Q I2 r1 r2 q2
end
end L2
namespace L2
open PySem PySem.Spec PyProof.Rows
def MtM (X:Cx)(id:String)(r:V->List V->Hp->VK->Prop):Prop :=
 ∀ (pins:List (j8 × Obj))(s:d8)(σ:St)(H:Hp)(x:V)(xs:List V)(v:c9)(us:List c9)(Q:VK),Inv X pins σ H s->RelV x v->Vals xs us->r x xs H Q ->
  j7 (p9 X.prog X.w) X.A (call (.builtin id) (v::us)) (EP X pins σ Q) X.xe s
theorem Vals.one:∀ {x:V}{us:List c9},Vals [x] us->∃ u,us=[u]/\RelV x u
 | _,_,.cons r .nil=>⟨_,rfl,r⟩
theorem Vals.two:∀ {x y:V}{us:List c9},Vals [x,y] us->∃ u v,us=[u,v]/\RelV x u/\RelV y v
 | _,_,_,.cons r (.cons q .nil)=>⟨_,A,r,q⟩
theorem Vals.eraseIdx:∀ {xs:List V}{us:List c9}(i:Nat),Vals xs us->Vals (xs.eraseIdx i) (us.eraseIdx i)
 | _,_,_,.nil=>.nil
 | _,_,0,.cons _ t=>t
 | _,_,i+1,.cons r t=>.cons r (Vals.eraseIdx i t)
theorem Vals.reverse {xs:List V}{us:List c9}(h:Vals xs us):Vals xs.reverse us.reverse:=by
 induction h with
 | nil=>exact .nil
 | cons r t ih=>rw[udv,udv];exact Vals.append ih (.cons r .nil)
theorem Vals.rep {xs:List V}{us:List c9}(h:Vals xs us):∀ k:Nat,Vals (m5 k xs).flatten (m5 k us).flatten
 | 0=>.nil
 | k+1=>by
  rw[ucx,ucx,udw,udw];exact Vals.append h (Vals.rep h k)
theorem mT {α:Type}:∀ (l:List α)(i:Nat),(l.eraseIdx i).length<=l.length
 | [],_=>i6 _
 | _::_,0=>ubv _
 | _::r,i+1=>uf8 (mT r i)
theorem iV (its:List c9):∀ (k:Nat)(acc:List c9),
  ufp (λ x1 x2=>x1++x2) acc.toArray (m5 k its.toArray)=(acc++(m5 k its).flatten).toArray
 | 0,acc=>by simp
 | k+1,acc=>by
  have e:acc.toArray++its.toArray=(acc++its).toArray:=by simp
  have e2:(acc++its)++(m5 k its).flatten=acc++(m5 (k+1) its).flatten:=by
   rw[ucx,udw,uei]
  rw[← e2,← iV its k (acc++its),← e,ucx,List.foldl_cons]
section
variable {X:Cx}{pins:List (j8 × Obj)}{σ:St}{H:Hp}{s:d8}{l b:j8}{xs ys zs:List V}
theorem Inv.lset {its its':List c9}{n:Nat}{f:Array c9->Array c9}{t':Nat}(I:Inv X pins σ H s)(hH:H l=some (.lst xs))
  (e:s.heap.get? l=some { cls:=.type "list",data:=.seq its.toArray n }) (hf:f its.toArray=its'.toArray) (hv:Vals ys its') (hz:ys.length<=o7) :
  Inv X pins σ (upd H l (.lst ys)) { s with heap:=s.heap.update l (Obj.mapSeq f),toks:=t' }:=by
 have q:=PySem.IsL.update e f;rw[hf] at q;refine I.write (x:=l) (e:=l) (by rw[hH];exact trivial) (.inl rfl) (λ b' u hb hu=>(j0 s.heap (Obj.mapSeq f) (Ne.symm hb)).trans hu) ⟨_,q⟩ ?_;exact⟨hz,its',_,hv,q⟩
theorem Inv.lnew {its:List c9}{t':Nat}(I:Inv X pins σ H s)(hv:Vals ys its)(hz:ys.length<=o7) :
  Inv X pins σ (upd H s.heap.objs.size (.lst ys)) { s with heap:=s.heap.push { cls:=.type "list",data:=.seq its.toArray },toks:=t' } :=
 I.laid (λ _ _ q=>a9 _ q) (i6 _) ⟨hz,its,0,hv,i7 _ rfl⟩
theorem Inv.fresh (I:Inv X pins σ H s):H s.heap.objs.size=none:=I.hok.fresh (i6 _)
theorem Inv.lstM (I:Inv X pins σ H s)(hH:H l=some (.lst xs)):xs.length<=o7/\∃ (its:List c9)(n:Nat),Vals xs its/\xs.length=its.length/\s.heap.get? l=some { cls:=.type "list",data:=.seq its.toArray n }:=by
 obtain⟨z,its,n,r,e⟩:=I.hok l _ hH;exact⟨z,its,n,r,r.length,e⟩
theorem notLongL {n:Nat}(h:n<=o7):Builtin.List.listTooLong n=false:=by
 unfold Builtin.List.listTooLong;exact ug5 (by left)
end
section
variable {X:Cx}
inductive rAppend_i  (x:V) (vs:List V) (H:Hp) (Q:VK):Prop
 | mk:∀ l xs y,(x=.ref l)->(vs=[y])->(H l=some (.lst xs))->(xs.length<o7)->(Q .non (upd H l (.lst (xs++[y]))))->rAppend_i x vs H Q
def rAppend :V->List V->Hp->VK->Prop:=λ x vs H Q=>rAppend_i x vs H Q
theorem eX:MtM X "list.append" rAppend:=by
 intro pins s σ H x vs v us Q I rx rv h;obtain⟨l,xs,y,rfl,rfl,hH,hz,q⟩:=h;cases rx;obtain⟨u,rfl,ru⟩:=rv.one;obtain⟨z,its,n,r,hl,e⟩:=I.lstM hH;refine udr F.slot_list_append ⟨_,e,rfl⟩ F.entry_list_append (F.args_list_append_2 _ _) (PySem.list_append l its.toArray n u (by rw[j5];left)) ⟨e,?_⟩;refine⟨.non,_,I.lset (its':=its++[u]) hH e (by simp) (r.append (.cons ru .nil)) ?_,rfl,q⟩;rw[i8,k9];left
inductive rExtend_i  (x:V) (vs:List V) (H:Hp) (Q:VK):Prop
 | mk:∀ l b xs zs,(x=.ref l)->(vs=[.ref b])->(H l=some (.lst xs))->(H b=some (.lst zs))->(xs.length+zs.length<=o7)->(Q .non (upd H l (.lst (xs++zs))))->rExtend_i x vs H Q
def rExtend :V->List V->Hp->VK->Prop:=λ x vs H Q=>rExtend_i x vs H Q
theorem mR:MtM X "list.extend" rExtend:=by
 intro pins s σ H x vs v us Q I rx rv h;obtain⟨l,b,xs,zs,rfl,rfl,hH,hB,hz,q⟩:=h;cases rx;obtain⟨u,rfl,ru⟩:=rv.one;cases ru;obtain⟨z,its,n,r,hl,e⟩:=I.lstM hH;obtain⟨z2,its2,n2,r2,hl2,e2⟩:=I.lstM hB;have hsz:its.toArray.size+its2.toArray.size<=o7:=by rw[j5,j5];left
 have hlong:¬ (!its.toArray.isEmpty&&Builtin.List.listTooLong (its.toArray.size+its2.toArray.size))=true:=by
  rw[notLongL hsz,ue9];exact j9
 refine udr F.slot_list_extend ⟨_,e,rfl⟩ F.entry_list_extend (F.args_list_extend_2 _ _)
  (AutoSeq1.list_extend_list_list_0 l its.toArray n b its2.toArray n2 hlong (by rw[j5];left) (by left)) ⟨e,e2,?_⟩
 refine⟨.non,_,I.lset (its':=its++its2) hH e (by simp) (r.append r2) ?_,rfl,q⟩;rw[i8];left
inductive rPopAt_i  (x:V) (vs:List V) (H:Hp) (Q:VK):Prop
 | mk:∀ l xs i k y,(x=.ref l)->(vs=[.int i])->(H l=some (.lst xs))->(-(2^63)<=i)->(i<2^63)->(seqIndex? i xs.length=some k)->(xs[k]?=some y)->(Q y (upd H l (.lst (xs.eraseIdx k))))->rPopAt_i x vs H Q
def rPopAt :V->List V->Hp->VK->Prop:=λ x vs H Q=>rPopAt_i x vs H Q
theorem zbo:MtM X "list.pop" rPopAt:=by
 intro pins s σ H x vs v us Q I rx rv h;obtain⟨l,xs,i,k,y,rfl,rfl,hH,h1,h2,hk,hy,q⟩:=h;cases rx;obtain⟨u,rfl,ru⟩:=rv.one;obtain⟨t,rfl⟩:=ru;obtain⟨z,its,n,r,hl,e⟩:=I.lstM hH;obtain⟨w,hw,rw'⟩:=r.get hy;refine udr F.slot_list_pop ⟨_,e,rfl⟩ F.entry_list_pop (F.args_list_pop_2 _ _)
  (MeetsSeq.list_pop_at l its.toArray n i t k w (fitsIndex_both h1 h2) (by rw[j5,← hl];exact hk) (by rw[← ubw];exact hw) (by rw[j5];left)) ⟨e,?_⟩
 refine⟨y,_,I.lset (its':=its.eraseIdx k) hH e ?_ (r.eraseIdx k) ?_,rw',q⟩
 ·show its.toArray.eraseIdxIfInBounds k=(its.eraseIdx k).toArray;rw[List.eraseIdxIfInBounds_toArray]
 ·have:=mT xs k;left
inductive rRep_i  (x:V) (y:V) (H:Hp) (Q:VK):Prop
 | mk:∀ l k xs,(x=.ref l)->(y=.int k)->(H l=some (.lst xs))->(-(2^63)<=k)->(k<2^63)->(xs.length*k.toNat<=o7)->(∀ p,H p=none->Q (.ref p) (upd H p (.lst (m5 k.toNat xs).flatten)))->rRep_i x y H Q
def rRep :R2:=λ x y H Q=>rRep_i x y H Q
theorem pV {α:Type}(xs:List α)(k:Nat):(m5 k xs).flatten.length=k*xs.length:=by
 induction k with
 | zero=>simp
 | succ k ih=>rw[ucx,udw,i8,ih,Nat.succ_mul,ue4]
theorem zej:OpR X (binaryOp .Mult) rRep:=by
 intro pins s σ H x y v u Q I rx ry h;obtain⟨l,k,xs,rfl,rfl,hH,h1,h2,hz,q⟩:=h;cases rx;obtain⟨t,rfl⟩:=ry;obtain⟨z,its,n,r,hl,e⟩:=I.lstM hH;have hlen:its.toArray.size*k.toNat<=o7:=by rw[j5,← hl];exact hz
 have hcap:¬ its.toArray.size*k.toNat>(2^63-1) / 8:=by
  have:(o7:Nat)<=(2^63-1) / 8:=by decide
  left
 have hfit:¬ (!Builtin.List.listFitsIndex k)=true:=by
  rw[fitsIndex_both h1 h2];exact j9
 have hlong:¬ Builtin.List.listTooLong (its.toArray.size*k.toNat)=true:=by
  rw[notLongL hlen];exact j9
 have hnew:ufp (λ x1 x2=>x1++x2) #[] (m5 (if its.toArray.isEmpty=true then 0 else k.toNat) its.toArray)=(m5 k.toNat its).flatten.toArray:=by
  have f0:∀ m:Nat,ufp (λ x1 x2=>x1++x2) #[] (m5 m its.toArray)=(m5 m its).flatten.toArray:=λ m=>by
   have:=iV its m [];rw[List.nil_append] at this;exact this
  rw[f0];cases its with
  | nil=>simp
  | cons a r'=>rw[ug8 (by simp)]
 refine ueo (T:="list") (U:="int") (by decide) ⟨_,e,rfl⟩ (λ s'=>uet s' k t) noFill_list_mul ugu udu repeat_list ugc.lookup
  (udr udu (uet s k t) ugf (uf7 _ _) (int___rmul___int_list k t l its.toArray n)
   ⟨e,rfl,⟨_,e,rfl⟩,udr F.slot_list_mul ⟨_,e,rfl⟩ F.entry_list_mul (F.args_list_mul_2 _ _) (AutoListH.list___mul___list_int_3 l its.toArray n k t hfit hcap hlong) ⟨e,?_⟩⟩)
 rw[hnew];exact⟨.ref _,_,I.lnew (t':=s.toks) (r.rep k.toNat) (by rw[pV,Nat.mul_comm];exact hz),rfl,q _ I.fresh⟩
end
section
variable {prog:n0}{w:uak}{A:uaj}{E:c9->d8->Prop}{s:d8}
end
section
variable {X:Cx}
end
end L2
namespace Att
open PySem PySem.W PySem.Calls PyProof.Rows
theorem sQ {P:Params}{h:Heap}:∀ (ns:List Int)(vs:List c9),WellAll P h vs (ns.map WData.int)->IntsAre vs ns:=by
 intro ns;induction ns with
 | nil =>
  intro vs w;rw[List.map_nil] at w;cases w;exact .nil
 | cons n ns ih =>
  intro vs w;rw[ua8] at w;cases w with
  | cons a b =>
   cases a;exact .cons _ _ (ih _ b)
theorem yL {l:OpenLaw}{n:Nat}(hn:l.most=some n){P:Params}{h:Heap}{args:List WData}{vals:List c9}
  (hpre:l.row.toRowW.claim.pre args=true) (hwl:WellAll P h vals args) :
  ∃ a vs ns,vals=[Value.ref a]/\args=[WData.list (ns.map WData.int)]/\h.get? a=some { cls:=.type "list",data:=.seq vs.toArray }/\IntsAre vs ns/\ns.length<=n:=by
 have hsh:WShape.hasAll [] args [.list .int]=true:=(pre_splitW hpre).1;have hc:l.pre.holds [] { args:=args }=true:=(pre_splitW hpre).2;obtain⟨d,r,rfl,h1,h2⟩:=hasAllW_cons hsh;obtain rfl:=hasAllW_nil h2;obtain⟨xs,rfl,h3⟩:=hasW_list h1;obtain⟨ns,rfl⟩:=items_int h3;have hlen:ns.length<=n:=by
  unfold OpenLaw.pre at hc;have h4:(WTm.not (.lt (.lit (.int (n:Int))) (.len (.arg 0)))).holds [] { args:=[.list (ns.map .int)] }=true:=by
   have h4:=(holds_andW hc).1;rw[hn] at h4;exact h4
  have h5:=condW_of h4 (w_not (w_lt w_lit (w_len_list (w_arg rfl))));rw[i5] at h5;refine Nat.le_of_not_lt λ q=>?_;have q':(n:Int)<((ns.length:Nat):Int):=by left
  first
   | (rw[ug3 q'] at h5;exact absurd h5 (by decide))
   | (simp at h5;left)
 cases hwl with
 | cons w1 w2 =>
  cases w2;cases w1 with
  | list ho hall=>exact⟨V,ns,P,ho,sQ ns _ hall,hlen⟩
theorem yQ (l:OpenLaw)(args:List WData):l.row.toRowW.claim.post args (.bool true) args=true :=
 postW_of (r:=l.row.toRowW) (X:=(true==true))
  (show WShape.has [] (.bool true) .bool=true by first | rfl | decide | simp [WShape.has,WShape.arms,WShape.armsAll])
  (show (WTm.eq .res (.lit (.bool true))).value [] { args:=args,res:=some (.bool true),after:=args }=some (.bool (true==true)) from w_eq_bool (w_res rfl) w_lit) rfl
theorem attach_call {l:OpenLaw}{n:Nat}{q:n0}{loose:List Str}{XP:(Str->Option c9)->Heap->Prop}{YP:uak->Heap->Prop}{d:DefRec}
  (hn:l.most=some n) (hdf:d.params.defaults=[])
  (call:∀ (w:uak)(s₀ s₁:d8)(mg mb:Str->Option c9)(fa:j8)(o:Obj)(pm cd doc:c9)(a:j8)(vs:List c9)(ns:List Int),
   Ground q loose [] XP w s₀ mg mb s₁.heap->YP w s₁.heap ->
   s₁.heap.get? fa=some o->o.data=.func (docDef d.name d.params d.body d.scope pm cd doc)->s₁.heap.CodeRec cd d.name->mg d.name=some (.ref fa) ->
   s₁.heap.get? a=some { cls:=.type "list",data:=.seq vs.toArray }->IntsAre vs ns->ns.length<=n->s₁.gens=#[] ->
   codeAny (p9 l.prog w) callerA (.call (.ref fa) ⟨[.ref a],[]⟩) (λ r s'=>r=.ok (.ret (.bool true))/\OldK s₁.heap s'.heap/\s'.os=s₁.os/\AllBare s'.gens) s₁) :
  WalkO q loose XP YP l.row.toRowW d [] (λ f vs=>PySem.call f vs):=by
 intro w s₀ s₁ mg mb G Y fa o pm cd doc dV kV ho hd hcd hD hmg hg args vals as hpre hlay hrd hwl hlo;obtain rfl:dV=.none:=Dflts.none hD hdf;obtain rfl:kV=.none:=Dflts.noKw hD;obtain⟨a,vs,ns,rfl,rfl,hobj,hints,hlen⟩:=yL hn hpre hwl;refine enter_call (udf (call w s₀ s₁ mg mb fa o pm cd doc a vs ns G Y ho (fd_plain hd) hcd hmg hobj hints hlen hg) λ r s' hq=>?_);obtain⟨rfl,h2,h3,h4⟩:=hq;exact⟨.inl ⟨.bool true,.bool true,[],rfl,λ _=>rfl,.bool true,yQ l _,λ _=>⟨ueu,λ _ hm=>(nomatch hm)⟩⟩,h2,h3,h4⟩
section
variable {prog:n0}{w:uak}{A:uaj}{E:c9->d8->Prop}{s:d8}{K:Frag}
end
end Att
namespace L2
open PySem PySem.Spec PyProof.Rows
theorem mJ:∀ {vs:List c9}{ns:List Int},IntsAre vs ns->Vals (ns.map V.int) vs
 | _,_,.nil=>.nil
 | _,_,.cons n t h=>.cons ⟨t,rfl⟩ (mJ h)
def Only (H:Hp):Prop:=∀ b,H b=none\/∃ o xs,H b=some (.frz o (.lst xs))
theorem zbq {P:n0}{w:uak}{K:b9}{mg mb:Str->Option c9}{CX:CXT}{k:Nat}{fa a:j8}{fd:FuncData}{x:Str}{sp:Sp}{s₁:d8}{vs:List c9}{ns:List Int}
  (KX:K.In s₁.heap) (hns:s₁.heap.Ns m9 mg) (hb:s₁.heap.Ns builtinsNs mb) (hbb:∀ x:Str,x≠"__name__"->mb x=bootBuiltins x) (hlim:s₁.heap.NoLimit) (hg:s₁.gens=#[])
  (ha:s₁.heap.get? a=some { cls:=.type "list",data:=.seq vs.toArray }) (hi:IntsAre vs ns) (hl:ns.length<=o7) (hr:Room k callerA)
  (F:∀ base:Heap,K.In base->base.Ns m9 mg->FnOk P w K mg base CX k fa fd [x] sp) (hbind:∀ (s:d8)(u:c9),BindsTo s fd ⟨[u],[]⟩ [(x,u)])
  (hsp:∀ H:Hp,Only H->SqL K H a (ns.map V.int)->sp [.ref a] H (λ v _=>v=.bl true) λ _ _ _=>False)
  (hCX:∀ H e s',CX [] H s₁ (λ _ _ _=>False) e s'->False) :
  codeAny (p9 P w) callerA (.call (.ref fa) ⟨[.ref a],[]⟩) (λ r s'=>r=.ok (.ret (.bool true))/\OldK s₁.heap s'.heap/\s'.os=s₁.os/\AllBare s'.gens) s₁:=by
 have rv:=mJ hi;have lenV:=hi.length
 have core : ∀ H : Hp, Only H → SqL K H a (ns.map V.int) → HOk P w H s₁.heap → (∀ b, H b ≠ none → b = a) → (H a ≠ none → K.lookup a = none) →
     codeAny (p9 P w) callerA (.call (.ref fa) ⟨[.ref a],[]⟩) (λ r s'=>r=.ok (.ret (.bool true))/\OldK s₁.heap s'.heap/\s'.os=s₁.os/\AllBare s'.gens) s₁:=by
  intro H hO hS hok hA hK;have base_of:∀ {b:j8}{o:Obj},s₁.heap.get? b=some o->H b=none->(hidT s₁.heap H).get? b=some o:=λ e n=>zbw e n;have noA:∀ {b:j8}{o:Obj}{es:Array DictEntry}{ep:Nat},s₁.heap.get? b=some o->o.data=.dict es ep->H b=none:=λ {b o es ep} e d=>by
   cases q:H b with
   | none=>rfl
   | some u =>
    have e':b=a:=hA b (by rw[q];simp);subst e';rw[ha] at e;cases e;have d':Data.seq vs.toArray _=Data.dict es ep:=d;cases d'
  have nsK:∀ {b:j8}{m:Str->Option c9},s₁.heap.Ns b m->(hidT s₁.heap H).Ns b m:=λ {b m} ⟨o,es,ep,e,d,r⟩=>⟨o,es,ep,base_of e (noA e d),d,r⟩;have hKb:K.In (hidT s₁.heap H):=λ b o e=>base_of (KX b o e) (by
   cases q:H b with
   | none=>rfl
   | some u =>
    have e':b=a:=hA b (by rw[q];simp);subst e';rw[hK (by rw[q];simp)] at e;cases e)
  have hM:Mod K mg (hidT s₁.heap H):=⟨hKb,nsK hns,⟨mb,nsK hb,hbb⟩,let ⟨mc,h1,h2⟩:=hlim;⟨mc,nsK h1,h2⟩⟩;have e0:Env0 P w K mg (hidT s₁.heap H) callerA [] s₁ H:=⟨rfl,hM,λ b o e=>zdf e,ubi (zS _ _),trivial,λ b hb=>absurd (show b∈([]:List j8) from hb) (by simp),hok,.of_eq hg⟩;refine udf ((F _ hKb (nsK hns)).run callerA [] s₁ H ⟨[.ref a],[]⟩ [.ref a] [.ref a] _ _ hr e0 (hbind s₁ (.ref a)) (.cons rfl .nil) (hsp H hO hS)) λ r s' h=>?_;cases r with
  | error e=>exact (hCX H e s' h).elim
  | ok fl =>
   cases fl with
   | next=>exact False.elim h
   | brk=>exact False.elim h
   | cont=>exact False.elim h
   | ret u =>
    obtain⟨v,H',os,bare,un,hok',r',q⟩:=h;have q':v=.bl true:=q;subst q';obtain rfl:u=Value.bool true:=r';refine⟨rfl,OldK.of_keep λ b o e=>?_,os,bare⟩;cases q:H b with
    | none=>exact un.keep b o e q (by intro z;exact absurd (show b∈([]:List j8) from z) (by simp)) (by simp)
    | some u =>
     rcases hO b with z | ⟨ob,xs,z⟩
     ·rw[q] at z;cases z
     ·have z2:=un.frzs b ob _ z;obtain⟨e1,_⟩:=hok b _ z;obtain⟨e2,_⟩:=hok' b _ z2;rw[e] at e1;cases e1;exact e2
 cases hk:K.lookup a with
 | some o =>
  have e:=KX a o hk;rw[ha] at e;cases e;refine core (λ _=>none) (λ _=>.inl rfl) (.inr ⟨_,vs.toArray,_,hk,rfl,rfl,rfl,by rw[j5,lenV];exact hl,by simpa using rv⟩) (λ b u z=>by have z':(none:Option HO)=some u:=z;cases z') (λ b z=>absurd rfl z) λ z=>absurd rfl z
 | none =>
  refine core (λ b=>if b=a then some (.frz { cls:=.type "list",data:=.seq vs.toArray } (.lst (ns.map V.int))) else none) (λ b=>?_) (.inl (.inr ⟨{ cls:=.type "list",data:=.seq vs.toArray },ug7 rfl⟩)) (λ b u z=>?_) (λ b z=>?_) λ _=>hk
  ·by_cases hb:b=a
   ·exact .inr ⟨V,ug7 hb⟩
   ·exact .inl (ug8 hb)
  ·by_cases hb:b=a
   ·have z':=(ug7 hb).symm.trans z;cases z';subst hb;exact⟨ha,by rw[i5];exact hl,vs,_,rv,ha⟩
   ·have z':=(ug8 hb).symm.trans z;cases z'
  ·by_cases hb:b=a
   ·exact hb
   ·exact absurd (ug8 hb) z
end L2
namespace L2
open PySem PySem.Spec PyProof.Rows
theorem zcp {l:PySem.W.OpenLaw}{n k:Nat}{q:n0}{loose:List Str}{XP:(Str->Option c9)->Heap->Prop}{YP:uak->Heap->Prop}{d:DefRec}{K:Params->b9}{CX:uak->CXT}{sp:uak->Sp}{x:Str}
  (hn:l.most=some n) (hn2:n<=o7) (hdf:d.params.defaults=[]) (hr:Room k callerA)
  (hY:∀ (w:uak)(h:Heap),YP w h->(K w.params).In h)
  (F:∀ (w:uak)(mg:Str->Option c9)(fa:j8)(h:Heap),(K w.params).In h->h.Ns m9 mg->mg d.name=some (.ref fa) ->
   ∃ fd:FuncData,(∀ (s:d8)(u:c9),BindsTo s fd ⟨[u],[]⟩ [(x,u)]) /\
    ∀ base:Heap,(K w.params).In base->base.Ns m9 mg->FnOk l.prog w (K w.params) mg base (CX w) k fa fd [x] (sp w))
  (hsp:∀ (w:uak)(H:Hp)(a:j8)(ns:List Int),ns.length<=n->Only H->SqL (K w.params) H a (ns.map V.int)->sp w [.ref a] H (λ v _=>v=.bl true) λ _ _ _=>False)
  (hCX:∀ (w:uak)(H:Hp)(s:d8)(e:c9)(s':d8),CX w [] H s (λ _ _ _=>False) e s'->False) :
  PySem.W.WalkO q loose XP YP l.row.toRowW d [] (λ f vs=>PySem.call f vs):=by
 refine Att.attach_call hn hdf λ w s₀ s₁ mg mb fa o pm cd doc a vs ns G Y ho hd hcd hmg hobj hints hlen hg=>?_;have KX:=hY w _ Y;obtain⟨fd,hb,hF⟩:=F w mg fa _ KX G.T.g hmg;exact zbq KX G.T.g G.T.b G.T.builtins G.T.nolimit hg hobj hints (o8 hlen hn2) hr hF hb (λ H hO hS=>hsp w H a ns hlen hO hS) λ H e s'=>hCX w H s₁ e s'
end L2
namespace L2
open PySem PySem.Spec PyProof.Rows
def defArgs (s:uc9):Arguments:=match s with
 | .FunctionDef _ a _ _ _ _ _ _ _ _=>a
 | _=>{ posonlyargs:=[],args:=[],vararg:=none,kwonlyargs:=[],kw_defaults:=[],kwarg:=none,defaults:=[] }
def defBody (s:uc9):List uc9:=match s with
 | .FunctionDef _ _ b _ _ _ _ _ _ _=>b
 | _=>[]
def defScope (s:uc9):ue1:=match s with
 | .FunctionDef _ _ _ _ _ _ sc _ _ _=>sc
 | _=>{ kind:=.function,names:=[],isGenerator:=false,isCoroutine:=false }
abbrev CX0:CXT:=λ _ _ _ _ _ _=>False
abbrev E0:XK:=λ _ _ _=>False
theorem pass0 {X:Cx}:Passes CX0 X E0:=λ _ _ _ _ _ _ _ h=>h.elim
structure Fun (K:b9)(x qual:Str)(st:uc9)(f:j8)(fd:FuncData):Prop where
 ex:∃ (oc:c9)(od:Option j8)(kV doc pm:c9)(an:Option j8)(cdv ct:c9)(osl:Array (Option c9)),
  fd=ucl x qual (defArgs st) (defBody st) (defScope st) .none kV doc pm an cdv ct/\K.lookup f=some ⟨oc,od,.func fd,osl⟩/\ud7 K cdv qual=true
 kp:udc K (.ref f)=true
section
variable {P:n0}{w:uak}{K:b9}{mg:Str->Option c9}{base:Heap}
theorem Fun.ok {x qual:Str}{st:uc9}{f:j8}{fd:FuncData}{N ps:List Str}{k:Nat}{sp:Sp}(F:Fun K x qual st f fd)(S:FnScope N ps (defScope st))(len:∀ vs H Q E,sp vs H Q E->vs.length=ps.length)
  (hbody:∀ (cdv:c9)(A:uaj)(outer:List Env)(s:d8)(H:Hp)(vs:List V)(Q:VK)(E:XK),Room k (A.deeper (envOfC qual (defScope st) s.heap.objs.size f cdv))->sp vs H Q E ->
   ∃ t,PSs (cxOf CX0 P w K mg base N qual (defScope st) f cdv A outer s H E).nox (defBody st) t/\t { nx:=λ _ H'=>Q .non H',rt:=Q } (start N vs) H):FnOk P w K mg base CX0 (k+1) f fd ps sp:=by
 obtain⟨oc,od,kV,doc,pm,an,cdv,ct,osl,rfl,lk,hcd⟩:=F.ex;refine rQ lk hcd S len λ A outer s H vs Q E hr hsp=>?_;obtain⟨t,h,q⟩:=hbody cdv A outer s H vs Q E hr hsp;exact⟨t,h.nox,q⟩
theorem Fun.binds {x qual:Str}{st:uc9}{f:j8}{fd:FuncData}{ps:List Str}(F:Fun K x qual st f fd)
  (h:∀ (kV doc pm:c9)(an:Option j8)(cdv ct:c9)(us:List c9),us.length=ps.length->bindArgs (ucl x qual (defArgs st) (defBody st) (defScope st) .none kV doc pm an cdv ct) ⟨us,[]⟩=pure (ps.zip us)):Binds K fd ps []:=by
 obtain⟨oc,od,kV,doc,pm,an,cdv,ct,osl,rfl,lk,hcd⟩:=F.ex;exact .all (h kV doc pm an cdv ct)
theorem qY {x qual:Str}{st:uc9}{f:j8}{oc:c9}{od an:Option j8}{osl:Array (Option c9)}{kV doc pm cdv ct:c9}(l:K.lookup f=some ⟨oc,od,.func (ucl x qual (defArgs st) (defBody st) (defScope st) .none kV doc pm an cdv ct),osl⟩)
  (c:ud7 K cdv qual=true) (k:udc K (.ref f)=true):Fun K x qual st f (ucl x qual (defArgs st) (defBody st) (defScope st) .none kV doc pm an cdv ct):=⟨⟨oc,od,kV,doc,pm,an,cdv,ct,osl,rfl,l,c⟩,k⟩
end
section
variable {X:Cx}
theorem pv (i:Nat){x:Str}{pos:Pos}(hN:X.N[i]?=some x:=by rfl)(hv:Vis X.env.scope x:=by first | exact v6 rfl | exact ufn (v6 rfl) | exact ufn (ufn rfl))(hd:(x==("__debug__":Str))=false:=by decide)
  (hcd:(x==("__classdict__":Str))=false:=by decide):PE X (.Name x pos) (tVar i):=qO hN hv hd hcd
end
theorem iteF {A B:Prop}(h:B):if false=true then A else B:=by
 rw[ug8 j9];exact h
theorem iteT {A B:Prop}(h:A):if true=true then A else B:=by
 rw[ug7 rfl];exact h
theorem ite2 {c A B:Prop}[Decidable c](h1:c->A)(h2:¬ c->B):if c then A else B:=by
 by_cases h:c
 ·rw[ug7 h];exact h1 h
 ·rw[ug8 h];exact h2 h
theorem iteNS {c A B:Prop}[Decidable c](hc:c)(h:B):if (!decide c)=true then A else B:=by
 rw[ug3 hc];exact iteF h
def Same (H H':Hp):Prop:=∀ b o,H b=some o->H' b=some o
theorem Same.refl (H:Hp):Same H H:=λ _ _ h=>h
theorem Same.trans {H H1 H2:Hp}(a:Same H H1)(b:Same H1 H2):Same H H2:=λ c o h=>b c o (a c o h)
theorem Same.free {H H':Hp}(e:Same H H'){l:j8}(h:H' l=Option.none):H l=Option.none:=by
 cases q:H l with
 | none=>rfl
 | some o =>
  rw[e l o q] at h;cases h
theorem Same.seq {K:b9}{H H':Hp}{a:j8}{xs:List V}(e:Same H H')(h:SqL K H a xs):SqL K H' a xs:=by
 rcases h with (h | ⟨o,h⟩) | h
 ·exact .inl (.inl (e _ _ h))
 ·exact .inl (.inr ⟨o,e _ _ h⟩)
 ·exact .inr h
end L2
namespace L2
open PySem PySem.Spec PyProof.Rows
section
variable {κ:Type}[DecidableEq κ]
def valV (kvs:List (κ × V))(k:κ):Option V:=(kvs.find? λ kv=>decide (kv.1=k)).map (·.2)
def putK (kvs:List (κ × V))(k:κ)(v:V):List (κ × V) :=
 if (kvs.any λ kv=>decide (kv.1=k))=true then kvs.map (λ kv=>if kv.1=k then (kv.1,v) else kv) else kvs++[(k,v)]
def dropK (kvs:List (κ × V))(k:κ):List (κ × V):=kvs.filter λ kv=>decide (kv.1≠k)
theorem gK {p:κ × V}{r:List (κ × V)}{k:κ}(e:p.1=k):valV (p::r) k=some p.2:=by simp [valV,uch,e]
theorem gL {p:κ × V}{r:List (κ × V)}{k:κ}(e:¬ p.1=k):valV (p::r) k=valV r k:=by simp [valV,uch,e]
theorem nN (k:κ):∀ kvs:List (κ × V),(kvs.any λ kv=>decide (kv.1=k))=(valV kvs k).isSome
 | []=>rfl
 | p::r=>by
  rw[ug1];by_cases e:p.1=k
  ·simp only [gK e,ug3 e,Bool.true_or,Option.isSome_some]
  ·rw[gL e,ug5 e,Bool.false_or];exact nN k r
theorem RelO.isSome_eq {o:Option V}{u:Option c9}(r:RelO o u):o.isSome=u.isSome:=by
 cases o with
 | none=>cases u with
  | none=>rfl
  | some _=>exact (show False from r).elim
 | some _=>cases u with
  | none=>exact (show False from r).elim
  | some _=>rfl
theorem RelO.getD {o:Option V}{u:Option c9}{d:V}{d':c9}(r:RelO o u)(rd:RelV d d'):RelV (o.getD d) (u.getD d'):=by
 cases o with
 | none=>cases u with
  | none=>exact rd
  | some _=>exact (show False from r).elim
 | some _=>cases u with
  | none=>exact (show False from r).elim
  | some _=>exact r
theorem KV.val {kvs:List (κ × V)}{vs:List (κ × c9)}(r:KV kvs vs)(k:κ):RelO (valV kvs k) (valueAt vs k):=by
 unfold KV at r;induction r with
 | nil=>exact True.intro
 | @cons p q ps qs h t ih =>
  obtain⟨h1,h2⟩:=h;by_cases e:p.1=k
  ·have e':q.1=k:=h1.symm.trans e;have b:valueAt (q::qs) k=some q.2:=by simp [valueAt,uch,e']
   rw[gK e,b];exact h2
  ·have e':¬ q.1=k:=λ z=>e (h1.trans z);have b:valueAt (q::qs) k=valueAt qs k:=by simp [valueAt,uch,e']
   rw[gL e,b];exact ih
theorem KV.keys {kvs:List (κ × V)}{vs:List (κ × c9)}(r:KV kvs vs):kvs.map (·.1)=vs.map (·.1):=by
 unfold KV at r;induction r with
 | nil=>rfl
 | cons h t ih=>rw[ua8,ua8,ih,h.1]
theorem KV.length {kvs:List (κ × V)}{vs:List (κ × c9)}(r:KV kvs vs):kvs.length=vs.length:=Paired.length r
end
theorem kN {P:n0}{w:uak}{k:Key}{u:c9}(r:RelV (kV k) u):(mixKind P w).is k u=true:=by
 cases k with
 | inl i=>obtain⟨t,e⟩:=(show ∃ t,u=Value.int i t from r);subst e;exact wK P w i t
 | inr x=>obtain⟨t,e⟩:=(show ∃ t,u=Value.str x t from r);subst e;exact wJ P w x t
theorem mX {P:n0}{w:uak}:∀ {ks:List Key}{us:List c9},Vals (ks.map kV) us->ItemsAre (mixKind P w) ks us
 | [],_,r=>by rw[List.map_nil] at r;cases r;exact .nil
 | k::ks,_,r=>by
  rw[ua8] at r;cases r with
  | cons h t=>exact .cons (kN h) (mX t)
abbrev KT (H:Hp):List (List Key × V)->List (List Key × j8 × c9)->Prop:=Paired λ p q=>p.1=q.1/\H q.2.1=some (.tup (p.1.map kV))/\RelV p.2 q.2.2
theorem KT.val {H:Hp}{kvs:List (List Key × V)}{xs:List (List Key × j8 × c9)}(r:KT H kvs xs)(k:List Key):RelO (valV kvs k) ((atKey xs k).map (·.2)):=by
 induction r with
 | nil=>exact True.intro
 | @cons p q ps qs h t ih =>
  obtain⟨h1,_,h2⟩:=h;by_cases e:p.1=k
  ·have e':q.1=k:=h1.symm.trans e;have b:atKey (q::qs) k=some q.2:=by simp [atKey,uch,e']
   rw[gK e,b];exact h2
  ·have e':¬ q.1=k:=λ z=>e (h1.trans z);have b:atKey (q::qs) k=atKey qs k:=by simp [atKey,uch,e']
   rw[gL e,b];exact ih
section
variable {P:n0}{w:uak}{H:Hp}{h:Heap}{a:j8}
theorem rK {u:HO}(ok:HOk P w H h)(e:Rd H a u):ObjOk P w H h a u:=e.ok ok
theorem kP {kvs:List (Key × V)}(ok:HOk P w H h)(e:Rd H a (.dK kvs)):kvs.length<=o7/\(a==sysModules)=false/\∃ vs,KV kvs vs/\h.DictOf (mixKind P w) a vs :=
 show ObjOk P w H h a (.dK kvs) from rK ok e
theorem kE {ks:List Key}(ok:HOk P w H h)(e:H a=some (.tup (ks.map kV))):(tupleKind (mixKind P w)).is h ks a:=by
 obtain⟨_,its,r,o,h1,h2,⟨n,h3⟩,_⟩:=(show ObjOk P w H h a (.tup (ks.map kV)) from ok a _ e);exact⟨o,its.toArray,n,h1,h2,h3,by simpa using mX r⟩
theorem kO {kvs:List (List Key × V)}(ok:HOk P w H h)(e:Rd H a (.dT kvs)):kvs.length<=o7/\(a==sysModules)=false /\
  ∃ xs,KT H kvs xs/\h.DictOfH (tupleKind (mixKind P w)) a xs:=by
 obtain⟨z,y,xs,r,o,es,ep,h1,h2,h3,h4,h5⟩:=(show ObjOk P w H h a (.dT kvs) from rK ok e);refine⟨z,y,xs,r,o,es,ep,h1,h2,h3,h4,λ x hx=>?_,h5⟩;have all:∀ {l:List (List Key × V)}{m:List (List Key × j8 × c9)},KT H l m->∀ x∈m,(tupleKind (mixKind P w)).is h x.1 x.2.1:=by
  intro l m q;induction q with
  | nil=>intro x hx;exact nomatch hx
  | @cons p q ps qs hq t ih =>
   intro x hx;rcases j4.mp hx with e | hx
   ·subst e;exact kE ok (by rw[← hq.1];exact hq.2.1)
   ·exact ih x hx
 exact all r x hx
end
def DGet (H:Hp)(a:j8)(y:V)(r:Option V):Prop :=
 (∃ kvs k,Rd H a (.dK kvs)/\y=kV k/\r=valV kvs k)\/∃ kvs k b,Rd H a (.dT kvs)/\y=.ref b/\H b=some (.tup (k.map kV))/\r=valV kvs k
def DPut (H:Hp)(a:j8)(y v:V)(H':Hp):Prop :=
 (∃ kvs k,H a=some (.dK kvs)/\y=kV k/\kvs.length<o7/\H'=upd H a (.dK (putK kvs k v))) \/
 ∃ kvs k b,H a=some (.dT kvs)/\y=.ref b/\H b=some (.tup (k.map kV))/\kvs.length<o7/\H'=upd H a (.dT (putK kvs k v))
section
variable {X:Cx}{pins:List (j8 × Obj)}{σ:St}{H:Hp}{s:d8}{a:j8}{y v:V}{u r:c9}{o:Option V}{A:uaj}{E:c9->d8->Prop}
theorem Inv.big (I:Inv X pins σ H s):sysModules<s.heap.objs.size:=by
 have h:m9<s.heap.objs.size:=(I.mod.glob.keeps I.bk).lt;exact ue2 (by decide) h
theorem zV {Q:c9->d8->Prop}(hu:A.units+1<cLine)(I:Inv X pins σ H s)(g:DGet H a y (some v))(ry:RelV y u)(h:∀ w' s',Inv X pins σ H s'->RelV v w'->Q w' s') :
  j7 (p9 X.prog X.w) A (getItem (.ref a) u) Q E s:=by
 rcases g with ⟨kvs,k,e,ey,l⟩ | ⟨kvs,k,b,e,ey,eb,l⟩
 ·subst ey;obtain⟨z,hd,vs,rel,dd⟩:=kP I.hok e;obtain⟨w',hw,rw'⟩:=RelO.some_of (v:=v) (o:=valueAt vs k) (by rw[l];exact rel.val k);exact wpAny_getItem_of (kN ry) dd.mapOf hw (h w' _ (I.tok _) rw')
 ·subst ey;cases (show u=Value.ref b from ry);obtain⟨z,hd,xs,rel,dd⟩:=kO I.hok e;obtain⟨w',hw,rw'⟩:=RelO.some_of (v:=v) (o:=(atKey xs k).map (·.2)) (by rw[l];exact rel.val k);obtain⟨p,hp,hp2⟩:=ubc.mp hw;refine wpAny_getItem_heap (tupleKind_room_in1 hu) (kE I.hok eb) dd hp ?_;rw[hp2];exact h w' _ (I.tok _) rw'
theorem zff {Q:c9->d8->Prop}(hu:A.units+1<cLine)(I:Inv X pins σ H s)(g:DGet H a y o)(ry:RelV y u)(h:∀ s',Inv X pins σ H s'->Q (.bool o.isSome) s') :
  j7 (p9 X.prog X.w) A (compareOp .In u (.ref a)) Q E s:=by
 rcases g with ⟨kvs,k,e,ey,l⟩ | ⟨kvs,k,b,e,ey,eb,l⟩
 ·subst ey;obtain⟨z,hd,vs,rel,dd⟩:=kP I.hok e;refine wpAny_in_of (kN ry) hd dd.mapOf ?_;rw[← (rel.val k).isSome_eq,← l];exact h _ (I.tok _)
 ·subst ey;cases (show u=Value.ref b from ry);obtain⟨z,hd,xs,rel,dd⟩:=kO I.hok e;refine wpAny_in_heap (tupleKind_room_in1 hu) (kE I.hok eb) hd dd ?_;have q:=(rel.val k).isSome_eq;rw[Option.isSome_map] at q;rw[← q,← l];exact h _ (I.tok _)
end
section
variable {X:Cx}{pins:List (j8 × Obj)}{σ:St}{H:Hp}{s:d8}{a:j8}{kvs:List (Key × V)}{k:Key}{u:c9}{A:uaj}{E:c9->d8->Prop}
end
def NoSl (i:uby):Prop:=∀ ov iv,subscripted i false ov iv=operate [ov,iv] (getItem ov iv)
theorem zcx {prog:n0}{w:uak}{A:uaj}{E:c9->d8->Prop}{s:d8}{env:Env}{value slice:uby}{pos:Pos}{T id:String}{Q:c9->d8->Prop}
  (hl:typeLookup (.type T) "__getitem__"=pure (some (.builtin id))) (hs:NoSl slice)
  (h:j7 (p9 prog w) A (eval value env) (λ o s₁=>j7 (p9 prog w) A (eval slice env) (λ i s₂=>s₂.TypeIs o T/\j7 (p9 prog w) A (getItem o i) Q E s₂) E s₁) E s) :
  j7 (p9 prog w) A (eval (.Subscript value slice pos) env) Q E s:=by
 refine Subscript_ (ua9 h (λ o s₁ h₁=>ua9 h₁ (λ i s₂ h₂=>?_) λ _ _ x=>x) λ _ _ x=>x);obtain⟨hT,h₂⟩:=h₂;unfold subscriptTail;refine a8 ?_;rw[getitemInPython_of_ne hT.not_modules];refine a8 (wpAny_specialOf hT hl ?_);have fin:j7 (p9 prog w) A (subscripted slice false o i) (λ r s₃=>j7 (p9 prog w) A (letTemporaryGo value o r >>= λ _=>pure r) Q E s₃) E s₂:=by
  rw[hs o i];exact wpAny_operating (ua9 h₂ (λ r s₃ h₃=>a8 (wpAny_letTemporaryGo (c8 h₃))) λ _ _ x=>x)
 first
  | exact c8 (a8 fin)
  | exact a8 (c8 (a8 fin))
  | exact a8 fin
theorem wL {X:Cx}{pins:List (j8 × Obj)}{σ:St}{H:Hp}{s:d8}{a:j8}{y:V}{o:Option V}(I:Inv X pins σ H s)(g:DGet H a y o):s.TypeIs (.ref a) "dict":=by
 rcases g with ⟨kvs,k,e,_,_⟩ | ⟨kvs,k,b,e,_,_,_⟩
 ·obtain⟨_,_,vs,_,dd⟩:=kP I.hok e;exact dd.typeIs
 ·obtain⟨_,_,xs,_,dd⟩:=kO I.hok e;exact dd.typeIs
def tDGet (td ty:TE):TE:=λ σ H Q=>td σ H λ x H1=>ty σ H1 λ y H2=>∃ a v,x=.ref a/\DGet H2 a y (some v)/\Q v H2
def tDIn (ty td:TE):TE:=λ σ H Q=>ty σ H λ y H1=>td σ H1 λ x H2=>∃ a o,x=.ref a/\DGet H2 a y o/\Q (.bl o.isSome) H2
section
variable {X:Cx}{o i e value:uby}{pos pos' tpos:Pos}{td ty tv:TE}
theorem pP (hu:X.A.units+1<cLine)(ho:PE X o td)(hi:PE X i ty)(hs:NoSl i):PE X (.Subscript o i pos) (tDGet td ty):=by
 intro pins s σ H Q I h;refine zcx PySem.F.slot_dict_getitem.lookup hs (thn (ho pins s σ H _ I h) λ u s1 ⟨x,H1,I1,rx,q1⟩=>thn (hi pins s1 σ H1 _ I1 q1) λ iv s2 ⟨y,H2,I2,ry,a,v,ex,g,q2⟩=>?_);subst ex;obtain rfl:u=Value.ref a:=rx;exact⟨wL I2 g,zV hu I2 g ry λ w' s3 I3 rw'=>⟨v,H2,I3,rw',q2⟩⟩
theorem qR (hu:X.A.units+1<cLine)(hi:PE X i ty)(ho:PE X o td):PC X .In i o (tDIn ty td):=by
 intro pins s σ H Q I h;refine thn (hi pins s σ H _ I h) λ iv s1 ⟨y,H1,I1,ry,q1⟩=>thn (ho pins s1 σ H1 _ I1 q1) λ u s2 ⟨x,H2,I2,rx,a,ov,ex,g,q2⟩=>?_;subst ex;obtain rfl:u=Value.ref a:=rx;exact zff hu I2 g ry λ s3 I3=>⟨.bl ov.isSome,H2,I3,rfl,q2⟩
end
section
variable {X:Cx}{pos:Pos}
end
end L2
set_option maxHeartbeats 4000000
namespace Srt
open PySem PySem.W PyProof.Rows
section
variable {N:Nat}{r:Nat->Int}{cmp:Nat->Nat->(Bool->d8->Prop)->d8->Prop}{s:d8}
def ky (r:Nat->Int)(p:Array Nat)(m:Nat):Int:=r (p.getD m 0)
def Up (r:Nat->Int)(p:Array Nat)(n:Nat):Prop:=∀ i j,i<=j->j<n->ky r p i<=ky r p j
def Dn (r:Nat->Int)(p:Array Nat)(n:Nat):Prop:=∀ i j,i<=j->j<n->ky r p j<=ky r p i
def Ask (N:Nat)(r:Nat->Int)(cmp:Nat->Nat->(Bool->d8->Prop)->d8->Prop)(s:d8):Prop :=
 ∀ i j C,i<N->j<N->C (decide (r i<r j)) s->cmp i j C s
def Gd (N:Nat)(p:Array Nat):Prop:=p.Perm (ufv (d7 N))
theorem Gd.sz {p:Array Nat}(g:Gd N p):p.size=N:=by
 have:=g.size_eq;simpa using this
theorem Gd.lt {p:Array Nat}(g:Gd N p)(h:0<N)(m:Nat):p.getD m 0<N:=by
 by_cases hm:m<p.size
 ·have e:p.getD m 0=p[m]:=by simp [ugp,hm]
  rw[e];have h1:p[m]∈p:=Array.getElem_mem hm;have h2:p[m]∈ufv (d7 N):=g.mem_iff.mp h1;simpa using h2
 ·have e:p.getD m 0=0:=by simp [ugp,hm]
  left
theorem fW {p q:Array Nat}{i j:Nat}(h:p[i]?=q[j]?):ky r p i=ky r q j:=by
 have e:∀ (a:Array Nat)(k:Nat),a.getD k 0=(a[k]?).getD 0:=λ a k=>by
  by_cases hk:k<a.size <;> simp [ugp,hk]
 unfold ky;rw[e,e,h]
theorem kD {p:Array Nat}{i j:Nat}(hj:j<=p.size)(k:Nat):ky r (kas_rev p i j) k=if i<=k/\k<j then ky r p (i+j-1-k) else ky r p k:=by
 have e:=getElem?_mirror_all (i:=i) hj k;by_cases h:i<=k/\k<j
 ·rw[ug7 h] at e ⊢;exact fW e
 ·rw[ug8 h] at e ⊢;exact fW e
theorem zer {p:Array Nat}{k d:Nat}(hs:k<p.size)(hd:d<=k)(m:Nat) :
  ky r (bubble p k d) m=if m=k-d then ky r p k else if k-d<m/\m<=k then ky r p (m-1) else ky r p m:=by
 have e:=getElem?_bubble hs d hd m;by_cases h1:m=k-d
 ·rw[ug7 h1] at e ⊢;exact fW e
 ·rw[ug8 h1] at e ⊢;by_cases h2:k-d<m/\m<=k
  ·rw[ug7 h2] at e ⊢;exact fW e
  ·rw[ug8 h2] at e ⊢;exact fW e
theorem Gd.rev {p:Array Nat}(g:Gd N p)(i j:Nat):Gd N (kas_rev p i j):=(mirror_perm p i j _).trans g
theorem Gd.bub {p:Array Nat}(g:Gd N p)(i j:Nat):Gd N (bubble p i j):=(bubble_perm p i j).trans g
theorem kL (h:Ask N r cmp s)(hN:0<N){p:Array Nat}(g:Gd N p){Q:Nat->d8->Prop}:∀ f n,1<=n->Up r p n ->
  (∀ m,n<=m->m<=n+f->Up r p m->(m<n+f->ky r p m<ky r p (m-1))->Q m s)->(kas_asc p f n).kasWp cmp Q s
 | 0,n,_,hu,q=>q n (i6 _) (i6 _) hu (λ z=>absurd z (uay _))
 | f+1,n,h1,hu,q=>by
  refine h _ _ _ (g.lt hN _) (g.lt hN _) ?_;by_cases c:r (p.getD n 0)<r (p.getD (n-1) 0)
  ·rw[ug3 c];exact q n (i6 _) (by left) hu (λ _=>c)
  ·rw[ug5 c];refine kL h hN g f (n+1) (by left) (λ i j hij hj=>?_) (λ m a b u d=>q m (by left) (by left) u (λ z=>d (by left)));have c':ky r p (n-1)<=ky r p n:=by unfold ky;left
   by_cases e:j=n
   ·subst e;by_cases e2:i=j
    ·subst e2;exact uau _
    ·exact uf1 (hu i (j-1) (by left) (by left)) c'
   ·exact hu i j hij (by left)
theorem iT {p:Array Nat}{i j:Nat}(hj:j<=p.size)(v:Int)(he:∀ k,i<=k->k<j->ky r p k=v)(k:Nat):ky r (kas_rev p i j) k=ky r p k:=by
 rw[kD hj];split
 ·rename_i c;rw[he _ (by left) (by left),he k c.1 c.2]
 ·rfl
theorem hW (h:Ask N r cmp s)(hN:0<N){Q:Array Nat × Nat × Nat->d8->Prop}:∀ f p n q,Gd N p->1<=n->n+f<=N->Dn r p n->q+1<=n->(∀ i,n-(q+1)<=i->i<n->ky r p i=ky r p (n-1)) ->
  (∀ p' n' q',Gd N p'->n<=n'->n'<=n+f->Dn r p' n'->q'+1<=n'->(∀ i,n'-(q'+1)<=i->i<n'->ky r p' i=ky r p' (n'-1))->Q (p',n',q') s)->(kas_desc f p n q).kasWp cmp Q s
 | 0,p,n,q,g,_,_,hd,hq,he,z=>z p n q g (i6 _) (i6 _) hd hq he
 | f+1,p,n,q,g,h1,hf,hd,hq,he,z=>by
  refine h _ _ _ (g.lt hN _) (g.lt hN _) ?_;by_cases c:r (p.getD n 0)<r (p.getD (n-1) 0)
  ·rw[ug3 c];have c':ky r p n<ky r p (n-1):=c;have dn:∀ {p':Array Nat},(∀ k,ky r p' k=ky r p k)->Dn r p' (n+1):=λ e i j hij hj=>by
    rw[e,e];by_cases ej:j=n
    ·subst ej;by_cases ei:i=j
     ·subst ei;exact uau _
     ·exact uf1 (Int.le_of_lt c') (hd i (j-1) (by left) (by left))
    ·exact hd i j hij (by left)
   show KasT.kasWp cmp (if q>0 then kas_desc f (kas_rev p (n-(q+1)) n) (n+1) 0 else kas_desc f p (n+1) 0) Q s;by_cases hq0:q>0
   ·rw[ug7 hq0];have e:=iT (r:=r) (p:=p) (i:=n-(q+1)) (j:=n) (by rw[g.sz];left) (ky r p (n-1)) he;exact hW h hN f _ (n+1) 0 (g.rev _ _) (by left) (by left) (dn e) (by left) (λ i a b=>by congr 1;left)
     (λ p' n' q' g' a b d e1 e2=>z p' n' q' g' (by left) (by left) d e1 e2)
   ·rw[ug8 hq0];exact hW h hN f _ (n+1) 0 g (by left) (by left) (dn λ _=>rfl) (by left) (λ i a b=>by congr 1;left)
     (λ p' n' q' g' a b d e1 e2=>z p' n' q' g' (by left) (by left) d e1 e2)
  ·rw[ug5 c];refine h _ _ _ (g.lt hN _) (g.lt hN _) ?_;by_cases d:r (p.getD (n-1) 0)<r (p.getD n 0)
   ·rw[ug3 d];exact z p n q g (i6 _) (by left) hd hq he
   ·rw[ug5 d];have e:ky r p n=ky r p (n-1):=by unfold ky;left
    refine hW h hN f p (n+1) (q+1) g (by left) (by left) (λ i j hij hj=>?_) (by left) (λ i a b=>?_)
     (λ p' n' q' g' a b d e1 e2=>z p' n' q' g' (by left) (by left) d e1 e2)
    ·by_cases ej:j=n
     ·subst ej;by_cases ei:i=j
      ·subst ei;exact uau _
      ·rw[e];exact hd i (j-1) (by left) (by left)
     ·exact hd i j hij (by left)
    ·rw[show n+1-1=n by left];by_cases ei:i=n
     ·rw[ei]
     ·rw[e];exact he i (by left) (by left)
theorem nR (h:Ask N r cmp s)(hN:0<N){Q:Nat × Array Nat->d8->Prop}{p:Array Nat}{n:Nat}(g:Gd N p)(h1:1<=n)(hn:n<=N)(hd:Dn r p n)
  (z:∀ m p',Gd N p'->1<=m->m<=N->Up r p' m->Q (m,p') s):(kas_tail3 n N p).kasWp cmp Q s:=by
 unfold kas_tail3;rw[KasT.kasWp_bind];refine kL h hN (g.rev 0 n) _ n h1 (λ i j hij hj=>?_) (λ m a b u _=>z m _ (g.rev 0 n) (by left) (by left) u);rw[kD (by rw[g.sz];left),kD (by rw[g.sz];left),ug7 (by left),ug7 (by left)];exact hd _ _ (by left) (by left)
theorem lP (h:Ask N r cmp s)(hN:0<N){Q:Nat × Array Nat->d8->Prop}{p:Array Nat}{n:Nat}(g:Gd N p)(h1:1<=n)(hn:n+1<=N)(hd:Dn r p (n+1))
  (z:∀ m p',Gd N p'->1<=m->m<=N->Up r p' m->Q (m,p') s):(kas_descPart n N p).kasWp cmp Q s:=by
 unfold kas_descPart;rw[KasT.kasWp_bind];refine hW h hN _ p (n+1) 0 g (by left) (by left) hd (by left) (λ i a b=>by congr 1;left) (λ p' n' q' g' a b d e1 e2=>?_);show KasT.kasWp cmp (if q'>0 then kas_tail3 n' N (kas_rev p' (n'-(q'+1)) n') else kas_tail3 n' N p') Q s;by_cases hq:q'>0
 ·rw[ug7 hq];have e:=iT (r:=r) (p:=p') (i:=n'-(q'+1)) (j:=n') (by rw[g'.sz];left) (ky r p' (n'-1)) e2;exact nR h hN (g'.rev _ _) (by left) (by left) (λ i j hij hj=>by rw[e,e];exact d i j hij hj) z
 ·rw[ug8 hq];exact nR h hN g' (by left) (by left) d z
theorem zb9 (h:Ask N r cmp s)(hN:0<N){Q:Nat × Array Nat->d8->Prop}{p:Array Nat}(g:Gd N p)
  (z:∀ m p',Gd N p'->1<=m->m<=N->Up r p' m->Q (m,p') s):(kas_count N p).kasWp cmp Q s:=by
 unfold kas_count;rw[KasT.kasWp_bind];refine kL h hN g _ 1 (i6 _) (λ i j hij hj=>?_) (λ m a b u d=>?_)
 ·have:i=j:=by left
  subst this;exact uau _
 show KasT.kasWp cmp (if (m==N)=true then .ret (m,p) else if m>1 then .ask (p.getD 0 0) (p.getD (m-1) 0) λ c=>if c=true then .ret (m,p) else kas_descPart m N (kas_rev p 0 m) else kas_descPart m N p) Q s;by_cases hm:m=N
 ·rw[ug7 (by simpa using hm)];exact z m p g a (by left) u
 ·rw[ug8 (by simpa using hm)];have d':=d (by left);by_cases h1:m>1
  ·rw[ug7 h1];refine h _ _ _ (g.lt hN _) (g.lt hN _) ?_;by_cases c:r (p.getD 0 0)<r (p.getD (m-1) 0)
   ·rw[ug3 c];exact z m p g a (by left) u
   ·rw[ug5 c];have c':ky r p (m-1)<=ky r p 0:=by unfold ky;left
    have eq:∀ k,0<=k->k<m->ky r p k=ky r p 0:=λ k _ hk=>by
     have a1:=u 0 k (by left) hk;have a2:=u k (m-1) (by left) (by left);left
    have e:=iT (r:=r) (p:=p) (i:=0) (j:=m) (by rw[g.sz];left) (ky r p 0) eq;refine lP h hN (g.rev 0 m) (by left) (by left) (λ i j hij hj=>?_) z;rw[e,e];by_cases ej:j=m
    ·subst ej;by_cases ei:i=j
     ·subst ei;exact uau _
     ·rw[eq i (by left) (by left)];have:=eq (j-1) (by left) (by left);left
    ·rw[eq i (by left) (by left),eq j (by left) (by left)];exact uau _
  ·rw[ug8 h1];have e1:m=1:=by left
   subst e1;refine lP h hN g (by left) (by left) (λ i j hij hj=>?_) z;by_cases ej:j=1
   ·subst ej;by_cases ei:i=1
    ·subst ei;exact uau _
    ·have:i=0:=by left
     subst this;exact Int.le_of_lt d'
   ·have:i=j:=by left
    subst this;exact uau _
theorem jC (h:Ask N r cmp s)(hN:0<N){Q:Nat->d8->Prop}{p:Array Nat}{k:Nat}(g:Gd N p)(hu:Up r p k):∀ f l rr,l<=rr->rr<=k->rr-l<=f->(∀ i,i<l->ky r p i<=ky r p k)->(∀ i,rr<=i->i<k->ky r p k<ky r p i) ->
  (∀ l',l'<=k->(∀ i,i<l'->ky r p i<=ky r p k)->(∀ i,l'<=i->i<k->ky r p k<ky r p i)->Q l' s)->(kas_place p k f l rr).kasWp cmp Q s
 | 0,l,rr,h1,h2,h3,a,b,z=>z l (by left) a (λ i x y=>b i (by left) y)
 | f+1,l,rr,h1,h2,h3,a,b,z=>by
  unfold kas_place;by_cases hl:l ≥ rr
  ·rw[ug7 hl];exact z l (by left) a (λ i x y=>b i (by left) y)
  ·rw[ug8 hl];refine h _ _ _ (g.lt hN _) (g.lt hN _) ?_;by_cases c:r (p.getD k 0)<r (p.getD ((l+rr) / 2) 0)
   ·rw[ug3 c];have c':ky r p k<ky r p ((l+rr) / 2):=c;exact jC h hN g hu f l ((l+rr) / 2) (by left) (by left) (by left) a (λ i x y=>Int.lt_of_lt_of_le c' (hu _ _ x y)) z
   ·rw[ug5 c];have c':ky r p ((l+rr) / 2)<=ky r p k:=by unfold ky;left
    exact jC h hN g hu f ((l+rr) / 2+1) rr (by left) (by left) (by left) (λ i x=>uf1 (hu i ((l+rr) / 2) (by left) (by left)) c') b z
theorem rJ (h:Ask N r cmp s)(hN:0<N){Q:Array Nat->d8->Prop}:∀ f p k,Gd N p->k+f<=N->Up r p k->(∀ p',Gd N p'->Up r p' (k+f)->Q p' s)->(kas_bin f p k).kasWp cmp Q s
 | 0,p,k,g,_,hu,z=>z p g hu
 | f+1,p,k,g,hk,hu,z=>by
  unfold kas_bin;rw[KasT.kasWp_bind];refine jC h hN g hu k 0 k (by left) (i6 _) (by left) (λ i x=>absurd x (ud8 _)) (λ i x y=>absurd (ubn x y) (uay _)) (λ l hl a b=>?_);have e:=λ m=>zer (r:=r) (p:=p) (k:=k) (d:=k-l) (by rw[g.sz];left) (by left) m;refine rJ h hN f _ (k+1) (g.bub _ _) (by left) (λ i j hij hj=>?_) (λ p' g' u'=>z p' g' (by rw[show k+(f+1)=k+1+f by left];exact u'));rw[e,e];have ekl:k-(k-l)=l:=by left
  rw[ekl];by_cases i1:i=l
  ·rw[ug7 i1];by_cases j1:j=l
   ·rw[ug7 j1];exact uau _
   ·rw[ug8 j1,ug7 (by left)];exact Int.le_of_lt (b _ (by left) (by left))
  ·rw[ug8 i1];by_cases i2:l<i/\i<=k
   ·rw[ug7 i2,ug8 (by left),ug7 (by left)];exact hu _ _ (by left) (by left)
   ·rw[ug8 i2];by_cases j1:j=l
    ·rw[ug7 j1];exact a _ (by left)
    ·rw[ug8 j1];by_cases j2:l<j/\j<=k
     ·rw[ug7 j2];exact hu _ _ (by left) (by left)
     ·rw[ug8 j2];exact hu _ _ hij (by left)
theorem zc0 (h:Ask N r cmp s)(hN:0<N){Q:Array Nat->d8->Prop}(z:∀ p,Gd N p->Up r p N->Q p s):(kas_sort N).kasWp cmp Q s:=by
 unfold kas_sort;rw[KasT.kasWp_bind];refine zb9 h hN (Array.Perm.refl _) (λ m p g h1 hm u=>?_);show KasT.kasWp cmp (if m<N then kas_bin (N-max m 1) p (max m 1) else .ret p) Q s;by_cases c:m<N
 ·rw[ug7 c,Nat.max_eq_left h1];exact rJ h hN _ p m g (by left) u (λ p' g' u'=>z p' g' (by rw[show m+(N-m)=N by left] at u';exact u'))
 ·rw[ug8 c];have:m=N:=by left
  subst this;exact z p g u
end
end Srt
namespace Srt
open PySem PySem.W PyProof.Rows
section
variable {n:Nat}{lt:Nat->Nat->Bool}
def rank (n:Nat)(lt:Nat->Nat->Bool)(i:Nat):Int:=(((d7 n).countP λ k=>lt k i:Nat):Int)
theorem gH {α:Type}{p q:α->Bool}:∀ {l:List α}{x:α},(∀ y∈l,p y=true->q y=true)->x∈l->p x=false->q x=true->l.countP p<l.countP q
 | [],_,_,hx,_,_=>by cases hx
 | a::r,x,h,hx,hp,hq=>by
  have hr:∀ y∈r,p y=true->q y=true:=λ y hy=>h y (l9 _ hy);have mono:r.countP p<=r.countP q:=uez hr;rw[ueq,ueq];rcases j4.mp hx with e | hx
  ·subst e;simp only [hp,hq,ua4,if_false,if_true];left
  ·have ih:=gH hr hx hp hq;cases hpa:p a with
   | false=>simp only [ua4,if_false];split <;> left
   | true =>
    have:=h a j3 hpa;simp only [this,if_true];left
theorem pN (hi:∀ i,lt i i=false)(ht:∀ i j k,i<n->j<n->k<n->lt i j=true->lt j k=true->lt i k=true)(hn:∀ i j k,i<n->j<n->k<n->lt i k=true->lt i j=true\/lt j k=true)
  {i j:Nat} (h1:i<n) (h2:j<n):decide (rank n lt i<rank n lt j)=lt i j:=by
 unfold rank;cases e:lt i j with
 | true =>
  refine ug3 ?_;have:=gH (p:=λ k=>lt k i) (q:=λ k=>lt k j) (l:=d7 n) (x:=i) (λ k hk q=>ht k i j (o9.mp hk) h1 h2 q e) (o9.mpr h1) (hi i) e;left
 | false =>
  refine ug5 ?_;have:(d7 n).countP (λ k=>lt k j)<=(d7 n).countP (λ k=>lt k i):=uez λ k hk q=>by
   rcases hn k i j (o9.mp hk) h1 h2 q with z | z
   ·exact z
   ·rw[e] at z;cases z
  left
end
section
variable {prog:n0}{w:uak}{A:uaj}{E:c9->d8->Prop}{s:d8}
abbrev Stay (a:j8)(h h':Heap):Prop:=∀ b o,b≠a->h.get? b=some o->h'.get? b=some o
def outOf (vs:List c9)(p:Array Nat):List c9:=p.toList.map λ i=>vs.getD i Value.none
theorem yU (vs:List c9):outOf vs (ufv (d7 vs.length))=vs:=by
 unfold outOf;refine uep (by simp) λ i h1 h2=>?_;simp;rw[c7 h2];rfl
theorem zew {vs:List c9}{p:Array Nat}(g:Gd vs.length p):(outOf vs p).length=vs.length:=by
 unfold outOf;rw[i5,ua7,g.sz]
theorem lsort {a:j8}{vs:List c9}{n:Nat}{P:PySem.Fin->d8->Prop}{r:Nat->Int}{κ:SortKind}(ho:s.heap.get? a=some (seqObj "list" vs.toArray n))(h64:vs.length<64)
  (hk:2<=vs.length->∀ (s':d8)(Q:SortKind->d8->Prop),Stay a s.heap s'.heap->Q κ s'->j7 (p9 prog w) A (keyKind' vs.toArray) Q (λ _ _=>False) s')
  (hc:∀ (s':d8)(i j:Nat)(C:Bool->d8->Prop),Stay a s.heap s'.heap->i<vs.length->j<vs.length->C (decide (r i<r j)) s'->kas_ask prog w A κ vs i j C s')
  (h:∀ (p:Array Nat)(h':Heap)(c:Nat),Gd vs.length p->Up r p vs.length->Stay a s.heap h'->h'.get? a=some (seqObj "list" (outOf vs p).toArray c)->P (.done (.ret .none)) { s with heap:=h' }) :
  j7 (p9 prog w) A (Builtin.«list.sort» ⟨[.ref a],[]⟩) P E s:=by
 rw[list_sort_plain];have ha:a<s.heap.objs.size:=i9 ho;have line:(64:Nat)<=o7:=by rw[ucm];decide
 refine a8 (listItems_at ho rfl (a8 (listUpdate_at ho rfl ?_ (by rw[j5];left) (x8 _))));have e1:=get?_update_seq ho λ _=>(#[]:Array c9);generalize (if ((λ _=>(#[]:Array c9)) vs.toArray).size==vs.toArray.size then n else n+1)=n1 at e1;have k1:Stay a s.heap (s.heap.update a (Obj.mapSeq λ _=>(#[]:Array c9))):=λ b o hb q=>(j0 s.heap _ (Ne.symm hb)).trans q;refine a8 (seqEpoch_at e1 rfl (a8 (wpAny_newTuple ?_ (by show vs.length<=_;left))));refine a8 (udy ?_ (x8 _));refine uae ?_;show j7 (p9 prog w) A _ P E { s with heap:=(((s.heap.update a (Obj.mapSeq λ _=>(#[]:Array c9))).push (seqObj "tuple" vs.toArray 0)).push (seqObj "list" #[] 0):Heap) };generalize hg:((s.heap.update a (Obj.mapSeq λ _=>(#[]:Array c9))).push (seqObj "tuple" vs.toArray 0)).push (seqObj "list" #[] 0)=g;have e2:g.get? a=some (seqObj "list" #[] n1):=by rw[← hg];exact a9 _ (a9 _ e1)
 have k2:Stay a s.heap g:=λ b o hb q=>by rw[← hg];exact a9 _ (a9 _ (k1 b o hb q))
 have fin:∀ (p:Array Nat),Gd vs.length p->Up r p vs.length->P (.done (.ret .none)) { s with heap:=g.update a (Obj.mapSeq λ _=>(outOf vs p).toArray) }:=λ p g1 u1 =>
  h p _ _ g1 u1 (λ b o hb q=>(j0 g _ (Ne.symm hb)).trans (k2 b o hb q)) (get?_update_seq e2 λ _=>(outOf vs p).toArray)
 by_cases h2:vs.length<2
 ·have h2':vs.toArray.size<2:=by rw[j5];exact h2
  simp only [ug7 h2'];refine a8 (c8 ?_);rw[StateT.run_pure];refine a8 (c8 ?_);have eo:((arrOf (SortSt.mk' general' (vs.toArray.zip vs.toArray) #[] 7 none)).map (·.2))=vs.toArray:=by
   apply Array.toList_inj.mp;show ((vs.toArray.zip vs.toArray).map (·.2)).toList=_;rw[Array.toList_map];simp only [Array.toList_zip,List.toList_toArray];exact List.map_snd_zip (i6 _)
  dsimp only;refine a8 (seqEpoch_at e2 rfl ?_);rw[eo];refine a8 (listUpdate_at e2 rfl ?_ (x8 _) (by rw[j5];left));simp only [bne_self_eq_false,ua4,if_false];have f:=fin (ufv (d7 vs.length)) (Array.Perm.refl _) (λ i j hij hj=>by
   have:i=j:=by left
   subst this;exact uau _)
  rw[yU] at f;exact c8 f
 ·have h2':¬ vs.toArray.size<2:=by rw[j5];exact h2
  simp only [ug8 h2'];refine a8 (ua9 (hk (by left) { s with heap:=g } (λ κ' s'=>κ'=κ/\s'={ s with heap:=g }) k2 ⟨rfl,rfl⟩) (λ κ' s' hq=>?_) λ _ _ x=>x.elim);obtain⟨rfl,rfl⟩:=hq;refine a8 (ua9 (kat_run (ks:=vs) (Q:=λ st' s'=>∃ p:Array Nat,arrOf st'=p.map (kas_item (vs.toArray.zip vs.toArray))/\failedOf st'=none/\s'={ s with heap:=g }/\Gd vs.length p/\Up r p vs.length)
   (G:=λ p s'=>s'={ s with heap:=g }/\Gd vs.length p/\Up r p vs.length) rfl (by left) h64 (λ p st' s' _ b2 b3 b4=>⟨p,b2,b3,b4.1,b4.2.1,b4.2.2⟩)
   (zc0 (r:=r) (λ i j C hi hj q=>hc _ i j C k2 hi hj q) (by left) λ p g1 u1=>⟨rfl,g1,u1⟩)) ?_ λ _ _ e=>e)
  rintro ⟨⟨⟩,st'⟩ s' ⟨p,har,hf,rfl,g1,u1⟩;have hout:=kat_snds (ks:=vs) (vs:=vs) rfl har;have ol:(outOf vs p).length=vs.length:=zew g1;dsimp only;rw[hout];refine a8 (seqEpoch_at e2 rfl ?_);refine a8 (listUpdate_at e2 rfl ?_ (x8 _) (by show (outOf vs p).toArray.size<=_;rw[j5];left));rw[hf];simp only [bne_self_eq_false,ua4,if_false];exact c8 (fin p g1 u1)
theorem mL {l:j8}{vs:List c9}{Q:c9->d8->Prop}{r:Nat->Int}{κ:SortKind}(hl:s.heap.IsList l vs.toArray)(h64:vs.length<64)
  (hk:2<=vs.length->∀ (A':uaj)(s':d8)(Q:SortKind->d8->Prop),(∀ b o,s.heap.get? b=some o->s'.heap.get? b=some o)->Q κ s'->j7 (p9 prog w) A' (keyKind' vs.toArray) Q (λ _ _=>False) s')
  (hc:∀ (A':uaj)(s':d8)(i j:Nat)(C:Bool->d8->Prop),(∀ b o,s.heap.get? b=some o->s'.heap.get? b=some o)->i<vs.length->j<vs.length->C (decide (r i<r j)) s'->kas_ask prog w A' κ vs i j C s')
  (h:∀ (p:Array Nat)(h':Heap)(c:Nat),Gd vs.length p->Up r p vs.length->(∀ b o,s.heap.get? b=some o->h'.get? b=some o)->h'.get? (s.heap.objs.size+1)=some (seqObj "list" (outOf vs p).toArray c)->Q (.ref (s.heap.objs.size+1)) { s with heap:=h' }) :
  j7 (p9 prog w) A (call (.builtin "sorted") [.ref l]) Q E s:=by
 have line:(64:Nat)<=o7:=by rw[ucm];decide
 refine Calls.call_function_entry kind_sorted plain_sorted entry_sorted (args_sorted1 _) ?_;unfold Builtin.«sorted»;refine a8 (m:=checkCount "sorted" 1 1 _) (c8 (a8 (collect_list hl (a8 (udy ?_ (by left))) (by left))));generalize hg:(s.heap.push (seqObj "list" #[] 0)).update s.heap.objs.size (Obj.mapSeq (·++vs.toArray))=g;have sz:g.objs.size=s.heap.objs.size+1:=by rw[← hg,Heap.size_update,size_push']
 have k1:∀ b o,s.heap.get? b=some o->g.get? b=some o:=λ b o q=>by
  rw[← hg];exact (j0 _ _ (Ne.symm (l6 (i9 q)))).trans (a9 _ q)
 have hoL:(g.push { cls:=.type "list",data:=.seq vs.toArray }).get? (s.heap.objs.size+1)=some (seqObj "list" vs.toArray 0):=by rw[← sz];exact i7 _ rfl
 have k2:∀ b o,s.heap.get? b=some o->(g.push { cls:=.type "list",data:=.seq vs.toArray }).get? b=some o:=λ b o q=>a9 _ (k1 b o q);have ne:∀ b o,s.heap.get? b=some o->b≠s.heap.objs.size+1:=λ b o q=>l6 (ubf (i9 q));show j7 _ _ _ _ _ { s with heap:=g.push { cls:=.type "list",data:=.seq vs.toArray } };rw[sz];refine a8 (uae (uar slot_list_sort ⟨_,hoL,rfl⟩ entry_list_sort ?_ (args_list_sort _)));refine lsort (s:={ s with heap:=g.push { cls:=.type "list",data:=.seq vs.toArray } }) (r:=r) (κ:=κ) hoL h64 (λ h2 s' Q' st q=>hk h2 _ s' Q' (λ b o e=>st b o (ne b o e) (k2 b o e)) q)
  (λ s' i j C st hi hj q=>hc _ s' i j C (λ b o e=>st b o (ne b o e) (k2 b o e)) hi hj q) λ p h' c g1 u1 st e=>⟨_,rfl,?_⟩
 exact c8 ⟨A,h p h' c g1 u1 (λ b o e=>st b o (ne b o e) (k2 b o e)) e⟩
def lexI:List Int->List Int->Bool
 | [],[]=>false
 | [],_::_=>true
 | _::_,[]=>false
 | x::xs,y::ys=>if x=y then lexI xs ys else decide (x<y)
theorem jF:∀ xs,lexI xs xs=false
 | []=>rfl
 | x::xs=>by show (if x=x then lexI xs xs else _)=false;rw[ug7 rfl];exact jF xs
theorem iM:∀ xs ys zs,lexI xs ys=true->lexI ys zs=true->lexI xs zs=true
 | [],[],_,h,_=>by cases h
 | [],_::_,[],_,h=>by cases h
 | [],_::_,_::_,_,_=>rfl
 | _::_,[],_,h,_=>by cases h
 | _::_,_::_,[],_,h=>by cases h
 | x::xs,y::ys,z::zs,h1,h2=>by
  simp only [lexI] at h1 h2 ⊢;by_cases e1:x=y
  ·subst e1;rw[ug7 rfl] at h1;by_cases e2:x=z
   ·rw[ug7 e2] at h2 ⊢;exact iM xs ys zs h1 h2
   ·rw[ug8 e2] at h2 ⊢;exact h2
  ·rw[ug8 e1] at h1;have l1:x<y:=ug4 h1;by_cases e2:y=z
   ·subst e2;rw[ug8 e1];exact h1
   ·rw[ug8 e2] at h2;have l2:y<z:=ug4 h2;rw[ug8 (by left)];exact ug3 (by left)
theorem jE:∀ xs ys zs,lexI xs zs=true->lexI xs ys=true\/lexI ys zs=true
 | [],[],_,h=>.inr h
 | [],_::_,_,_=>.inl rfl
 | _::_,_,[],h=>by cases h
 | _::_,[],_::_,_=>.inr rfl
 | x::xs,y::ys,z::zs,h=>by
  simp only [lexI] at h ⊢;by_cases e:x=z
  ·subst e;rw[ug7 rfl] at h;by_cases e1:x=y
   ·subst e1;rw[ug7 rfl,ug7 rfl];exact jE xs ys zs h
   ·rw[ug8 e1,ug8 (Ne.symm e1)];by_cases l:x<y
    ·exact .inl (ug3 l)
    ·exact .inr (ug3 (by left))
  ·rw[ug8 e] at h;have l:x<z:=ug4 h;by_cases e1:x=y
   ·subst e1;rw[ug8 e];exact .inr h
   ·by_cases e2:y=z
    ·subst e2;rw[ug8 e1];exact .inl h
    ·rw[ug8 e1,ug8 e2];by_cases l1:x<y
     ·exact .inl (ug3 l1)
     ·exact .inr (ug3 (by left))
def TupI (h:Heap)(v:c9)(k:List Int):Prop:=∃ a o its n,v=.ref a/\h.get? a=some o/\o.cls=.type "tuple"/\o.data=.seq its n/\IntsAre its.toList k
theorem TupI.to {h h':Heap}{v:c9}{k:List Int}(t:TupI h v k)(e:∀ b o,h.get? b=some o->h'.get? b=some o):TupI h' v k :=
 let ⟨a,o,its,n,q1,q2,q3⟩:=t
 ⟨a,o,its,n,q1,e _ _ q2,q3⟩
theorem katI {C:Bool->d8->Prop}:∀ {xs ys:List c9}{k k':List Int}(i:Nat),IntsAre xs k->IntsAre ys k'->C (lexI k k') s->KatLex prog w A true (decide (k.length<k'.length)) C (xs.zip ys) i s
 | _,_,_,_,i,.nil,.nil,h=>h
 | _,_,_,_,i,.nil,.cons c u h',h=>by
  rw[List.zip_nil_left];refine kat_nil ?_;rw[ug3 (by simp)];exact h
 | _,_,_,_,i,.cons a t h',.nil,h=>by
  rw[List.zip_nil_right];refine kat_nil ?_;rw[ug5 (by simp)];exact h
 | _,_,_,_,i,.cons a t (vs:=xs) (ns:=k) h1,.cons c u (vs:=ys) (ns:=k') h2,h=>by
  rw[uec];refine kat_cons (wpAny_eqBool_int ?_);have ef:decide ((a::k).length<(c::k').length)=decide (k.length<k'.length):=by simp
  have hh:C (if a=c then lexI k k' else decide (a<c)) s:=h;rw[ef];by_cases e:a=c
  ·rw[ug7 e] at hh;rw[show (a==c)=true by simpa using e];exact kat_yes (katI (i+1) h1 h2 hh)
  ·rw[ug8 e] at hh;rw[show (a==c)=false by simpa using e];refine kat_no ?_;cases hi:(true&&i==0) with
   | true=>exact oneLt_int hh
   | false=>exact kat_one _ _ (lt_int hh)
theorem zcr {vs:List c9}{ks:List (List Int)}(hk:Paired (TupI s.heap) vs ks){i j:Nat}{C:Bool->d8->Prop}(hi:i<vs.length)(hj:j<vs.length)(h:C (lexI (ks.getD i []) (ks.getD j [])) s):kas_ask prog w A (tuples' true) vs i j C s:=by
 have at_:∀ {vs:List c9}{ks:List (List Int)}(i:Nat),Paired (TupI s.heap) vs ks->i<vs.length->TupI s.heap (vs.getD i Value.none) (ks.getD i []):=by
  intro vs ks i p;induction p generalizing i with
  | nil=>intro h;exact absurd h (by simp)
  | cons r t ih =>
   intro h;cases i with
   | zero=>exact r
   | succ i=>exact ih i (by simpa using h)
 obtain⟨a,o,its,n,e1,q1,q2,q3,q4⟩:=at_ i hk hi;obtain⟨a',o',its',n',e1',q1',q2',q3',q4'⟩:=at_ j hk hj;unfold kas_ask;rw[e1,e1'];refine kat_lt q1 q3 q1' q3' ?_;have l1:its.size=(ks.getD i []).length:=by have:=q4.length;simpa using this
 have l2:its'.size=(ks.getD j []).length:=by have:=q4'.length;simpa using this
 rw[l1,l2];exact katI 0 q4 q4' h
theorem zaq {vs:List c9}{ks:List (List Int)}(hk:Paired (TupI s.heap) vs ks)(hne:∀ k∈ks,k≠[])(h2:2<=vs.length){Q:SortKind->d8->Prop}(h:Q (tuples' true) s):j7 (p9 prog w) A (keyKind' vs.toArray) Q E s:=by
 have mk:∀ {vs:List c9}{ks:List (List Int)},Paired (TupI s.heap) vs ks->(∀ k∈ks,k≠[])->∃ fs:List c9,KatTups s.heap vs fs/\fs.length=vs.length/\∀ f∈fs,∃ n t,f=.int n t:=by
  intro vs ks p;induction p with
  | nil=>exact λ _=>⟨[],.nil,rfl,λ f hf=>nomatch hf⟩
  | cons r t ih =>
   intro hn;obtain⟨fs,g1,g2,g3⟩:=ih λ k hk=>hn k (l9 _ hk);obtain⟨a,o,its,n,e1,q1,q2,q3,q4⟩:=r;have hne:=hn _ j3;subst e1;cases hz:its.toList with
   | nil=>rw[hz] at q4;cases q4;exact absurd rfl hne
   | cons v r =>
    rw[hz] at q4;obtain⟨m,tk,ev⟩:=q4.all v j3;refine⟨v::fs,.cons q1 q2 q3 ?_ g1,by simp [g2],λ f hf=>?_⟩
    ·rw[← ubw,hz];rfl
    ·rcases j4.mp hf with e | hf
     ·exact⟨m,tk,e.trans ev⟩
     ·exact g3 f hf
 obtain⟨fs,g1,g2,g3⟩:=mk hk hne;refine kat_kind (T:=.type "int") g1 (by left) (λ v hv=>?_) (by symm) h;obtain⟨m,tk,rfl⟩:=g3 v hv;exact Looks.of_pure rfl
theorem pY {vs:List c9}{ns:List Int}(hk:IntsAre vs ns){i j:Nat}{C:Bool->d8->Prop}(hi:i<vs.length)(hj:j<vs.length)(h:C (decide (ns.getD i 0<ns.getD j 0)) s):kas_ask prog w A oneType' vs i j C s:=by
 have at_:∀ {vs:List c9}{ns:List Int}(i:Nat),IntsAre vs ns->i<vs.length->∃ t,vs.getD i Value.none=.int (ns.getD i 0) t:=by
  intro vs ns i p;induction p generalizing i with
  | nil=>intro h;exact absurd h (by simp)
  | cons n t r ih =>
   intro h;cases i with
   | zero=>exact⟨t,rfl⟩
   | succ i=>exact ih i (by simpa using h)
 obtain⟨t,e1⟩:=at_ i hk hi;obtain⟨u,e2⟩:=at_ j hk hj;unfold kas_ask;rw[e1,e2];exact kat_lt_int h
theorem oO {vs:List c9}{ns:List Int}(hk:IntsAre vs ns)(h2:2<=vs.length){Q:SortKind->d8->Prop}(h:Q oneType' s):j7 (p9 prog w) A (keyKind' vs.toArray) Q E s:=by
 refine kas_kind (T:=.type "int") h2 (λ v hv=>?_) (by symm) (by symm) h;obtain⟨m,tk,rfl⟩:=hk.all v hv;exact Looks.of_pure rfl
end
end Srt
namespace Z3
open PySem
section
variable {prog:n0}{w:uak}{A:uaj}{E:c9->d8->Prop}{s:d8}
def SqAt (t:Bool)(h:Heap)(l:j8)(xs:Array c9):Prop:=if t=true then h.IsTuple l xs else h.IsList l xs
def ItAt (t:Bool)(h:Heap)(it l:j8)(i:Nat):Prop:=if t=true then h.IsTupleIter it l i else h.IsListIter it l i
def itObj (t:Bool)(l:j8):Obj:=if t=true then { cls:=.type "tuple_iterator",data:=.fields #[.ref l,.int 0 0] } else { cls:=.type "list_iterator",data:=.fields #[.ref l,.int 0 0] }
theorem SqAt.to {t:Bool}{h h':Heap}{l:j8}{xs:Array c9}(x:SqAt t h l xs)(e:∀ o,h.get? l=some o->h'.get? l=some o):SqAt t h' l xs:=by
 cases t with
 | true=>exact Heap.IsTuple.at (show h.IsTuple l xs from x) e
 | false=>exact Heap.IsList.at (show h.IsList l xs from x) e
theorem ItAt.to {t:Bool}{h h':Heap}{it l:j8}{i:Nat}(x:ItAt t h it l i)(e:∀ o,h.get? it=some o->h'.get? it=some o):ItAt t h' it l i:=by
 cases t with
 | true=>exact Heap.IsTupleIter.at (show h.IsTupleIter it l i from x) e
 | false=>exact Heap.IsListIter.at (show h.IsListIter it l i from x) e
theorem ItAt.obj {t:Bool}{h:Heap}{it l:j8}{i:Nat}(x:ItAt t h it l i):∃ o n,h.get? it=some o/\o.cls=.type n/\o.data=.fields #[.ref l,.int i 0]:=by
 cases t with
 | true=>obtain⟨o,a,b,c⟩:=(show h.IsTupleIter it l i from x);exact⟨o,_,a,b,c⟩
 | false=>obtain⟨o,a,b,c⟩:=(show h.IsListIter it l i from x);exact⟨o,_,a,b,c⟩
theorem ItAt.new {t:Bool}{h:Heap}{l:j8}:ItAt t (h.push (itObj t l)) h.objs.size l 0:=by
 cases t with
 | true=>exact⟨_,i7 _ rfl,P⟩
 | false=>exact⟨_,i7 _ rfl,P⟩
theorem fQ {t:Bool}{l:j8}{xs:Array c9}{Q:c9->d8->Prop}(hl:SqAt t s.heap l xs)(h:Q (.ref s.heap.objs.size) { s with heap:=s.heap.push (itObj t l) }):j7 (p9 prog w) A (pyIter (.ref l)) Q E s:=by
 cases t with
 | true=>exact uem hl h
 | false=>exact uck hl h
theorem zb5 {it l:j8}{i:Nat}{xs:Array c9}{x:c9}{Q:c9->d8->Prop}(hi:s.heap.IsTupleIter it l i)(hl:s.heap.IsTuple l xs)(hx:xs[i]?=some x)
  (h:∀ h',h'.IsTupleIter it l (i+1)->Heap.SameBut it s.heap h'->Q x { s with heap:=h' }):j7 (p9 prog w) A (Builtin.SmallTypes.nextOf (.ref it)) Q E s:=by
 obtain⟨o1,q1,q2,q3⟩:=id hi;obtain⟨o2,q4,_,n2,q5⟩:=hl;unfold Builtin.SmallTypes.nextOf;refine a8 (uaf (name:=v4 "__next__") hi.typeIs udg (uar udg hi.typeIs ugv ?_ (ugo _)));show j7 _ _ (field (.ref it) 0 >>= _) _ _ s;refine a8 (uab q1 q3 (x:=.ref l) rfl ?_);show j7 _ _ (if (Value.ref l==Value.none)=true then _ else _) _ _ s;rw[ug8 (show ¬ ((Value.ref l==Value.none)=true) from j9)];show j7 _ _ (field (.ref it) 1 >>= _) _ _ s;refine a8 (uab q1 q3 (x:=.int i 0) rfl ?_);show j7 _ _ (seqItems? (.ref l) >>= _) _ _ s;refine a8 (ua3 q4 q5 ?_);simp only [v5,hx];refine a8 (ubm q1 q3 (by simp) (c8 ⟨x,rfl,c8 (h _ ?_ (ubz ..))⟩));exact⟨_,uag _ q1 (Obj.isFreed_of_fields (Obj.data_mapFields q3 _)),(Obj.cls_mapFields ..).trans q2,by rw[Obj.data_mapFields q3];simp [rawInt]⟩
theorem za0 {it l:j8}{i:Nat}{xs:Array c9}{Q:c9->d8->Prop}(hh:A.handled=none)(hi:s.heap.IsTupleIter it l i)(hl:s.heap.IsTuple l xs)(hx:xs[i]?=none)
  (h:∀ h' e,ufa it s.heap h'->(∃ o,h'.get? e=some o/\o.cls=.type "StopIteration")->E (.ref e) { s with heap:=h' }):j7 (p9 prog w) A (Builtin.SmallTypes.nextOf (.ref it)) Q E s:=by
 obtain⟨o1,q1,q2,q3⟩:=id hi;obtain⟨o2,q4,_,n2,q5⟩:=hl;unfold Builtin.SmallTypes.nextOf;refine a8 (uaf (name:=v4 "__next__") hi.typeIs udg (uar udg hi.typeIs ugv ?_ (ugo _)));show j7 _ _ (field (.ref it) 0 >>= _) _ _ s;refine a8 (uab q1 q3 (x:=.ref l) rfl ?_);show j7 _ _ (if (Value.ref l==Value.none)=true then _ else _) _ _ s;rw[ug8 (show ¬ ((Value.ref l==Value.none)=true) from j9)];show j7 _ _ (field (.ref it) 1 >>= _) _ _ s;refine a8 (uab q1 q3 (x:=.int i 0) rfl ?_);show j7 _ _ (seqItems? (.ref l) >>= _) _ _ s;refine a8 (ua3 q4 q5 ?_);simp only [v5,hx];refine a8 (uc2 (a8 (ubm q1 q3 (by simp) ?_)));show j7 _ _ (newExc (.type "StopIteration") [] >>= _) _ _ { s with heap:=_ };refine a8 (by
  simp only [newExc,newTuple];refine a8 (v8 ?_ (by size_fits));refine a8 (m:=firstArgMember _ _) (ufq (a:=Value.none) (by first | rfl | (simp only [firstArgMember];rfl)) ?_);refine v8 ?_ (by size_fits);simp only [raiseNew];refine a8 (wpAny_handled ?_)
  first | rw[show A.in1.handled=none from hh] | rw[hh]
  exact a8 (c8 (wpAny_throw (h _ _ (((ubz ..).extBut.push _).push _) ⟨_,i7 _ rfl,rfl⟩))))
theorem hJ {t:Bool}{it l:j8}{i:Nat}{xs:Array c9}{x:c9}{Q:c9->d8->Prop}(hi:ItAt t s.heap it l i)(hl:SqAt t s.heap l xs)(hx:xs[i]?=some x)
  (h:∀ h',ItAt t h' it l (i+1)->Heap.SameBut it s.heap h'->Q x { s with heap:=h' }):j7 (p9 prog w) A (Builtin.SmallTypes.nextOf (.ref it)) Q E s:=by
 cases t with
 | true=>exact zb5 hi hl hx h
 | false=>exact wpAny_nextOf_list_item hi hl hx h
theorem jP {t:Bool}{it l:j8}{i:Nat}{xs:Array c9}{Q:c9->d8->Prop}(hh:A.handled=none)(hi:ItAt t s.heap it l i)(hl:SqAt t s.heap l xs)(hx:xs[i]?=none)
  (h:∀ h' e,ufa it s.heap h'->(∃ o,h'.get? e=some o/\o.cls=.type "StopIteration")->E (.ref e) { s with heap:=h' }):j7 (p9 prog w) A (Builtin.SmallTypes.nextOf (.ref it)) Q E s:=by
 cases t with
 | true=>exact za0 hh hi hl hx h
 | false=>exact wpAny_nextOf_list_end hh hi hl hx h
structure Zd (t1 t2:Bool)(h:Heap)(z TI TO i1 i2 l1 l2:j8)(f0:c9)(k:Nat):Prop where
 z:IsZip h z TI TO f0
 ti:IsPair h TI (.ref i1) (.ref i2)
 to:∃ a b,IsPair h TO a b
 a1:ItAt t1 h i1 l1 k
 a2:ItAt t2 h i2 l2 k
structure Ap (z TI TO i1 i2:j8):Prop where
 n1:TI≠z
 n2:TO≠z
 n3:i1≠z
 n4:i2≠z
 n5:TI≠TO
 n6:TI≠i1
 n7:TI≠i2
 n8:TO≠i1
 n9:TO≠i2
 n10:i1≠i2
def Out (z TI TO i1 i2 l:j8):Prop:=l≠z/\l≠TI/\l≠TO/\l≠i1/\l≠i2
theorem zam {t1 t2:Bool}{z TI TO i1 i2 l1 l2:j8}{k:Nat}{xs ys:Array c9}{x y:c9}{Q:c9->d8->Prop}(D:Ap z TI TO i1 i2)(o1:Out z TI TO i1 i2 l1)(o2:Out z TI TO i1 i2 l2)
  (Z:Zd t1 t2 s.heap z TI TO i1 i2 l1 l2 .none k) (hl1:SqAt t1 s.heap l1 xs) (hl2:SqAt t2 s.heap l2 ys) (hx:xs[k]?=some x) (hy:ys[k]?=some y)
  (hQ:∀ h',Zd t1 t2 h' z TI TO i1 i2 l1 l2 (rawInt s.heap.objs.size) (k+1)->IsPair h' s.heap.objs.size x y->h'.objs.size=s.heap.objs.size+1 ->
   (∀ c o,c≠z->c≠TO->c≠i1->c≠i2->s.heap.get? c=some o->h'.get? c=some o)->Q (.ref s.heap.objs.size) { s with heap:=h' }) :
  j7 (p9 prog w) A (Builtin.«zip.__next__» ⟨[.ref z],[]⟩) (λ fin s'=>∃ v,fin=.done (.ret v)/\Q v s') E s:=by
 obtain⟨hz,hti,⟨a,b,hto⟩,h1,h2⟩:=Z;show j7 _ _ (field (.ref z) 2 >>= _) _ _ s;refine a8 (uab hz rfl (x:=.bool false) rfl ?_);show j7 _ _ (field (.ref z) 3 >>= _) _ _ s;refine a8 (uab hz rfl (x:=.ref TI) rfl ?_);refine a8 (ua3 hti rfl ?_);show j7 _ _ (Builtin.SmallTypes.ownedTupleIsFree (.ref z) >>= _) _ _ s;refine a8 ?_;unfold Builtin.SmallTypes.ownedTupleIsFree;refine a8 (uab hz rfl (x:=.none) rfl (c8 ?_));simp only [if_true];refine a8 (uc2 ?_);refine a8 (uab hz rfl (x:=.ref TO) rfl ?_);refine a8 (ubp hz (by simp) λ g1 z1 e1=>?_);replace z1:IsZip g1 z TI TO .ellipsis:=z1;refine a8 ?_;simp only [List.zipIdx_cons,List.zipIdx_nil,uga,List.forIn_nil];refine a8 (a8 (ue0 ?_));show j7 _ _ (Builtin.SmallTypes.nextOf (.ref i1) >>= _) _ _ { s with heap:=g1 };refine a8 (hJ (h1.to λ o e=>e1.extBut _ _ D.n3 e) (hl1.to λ o e=>e1.extBut _ _ o1.1 e) hx λ g2 a2 e2=>c8 ?_);have b2:IsPair g2 TO a b:=e2.extBut _ _ D.n8 (e1.extBut _ _ D.n2 hto);refine a8 (ua3 b2 rfl ?_);refine a8 (ufg b2 λ g3 b3 e3=>?_);replace b3:IsPair g3 TO x b:=b3;refine a8 (ucu (c8 ?_));refine a8 (a8 (ue0 ?_));show j7 _ _ (Builtin.SmallTypes.nextOf (.ref i2) >>= _) _ _ { s with heap:=g3 };refine a8 (hJ (h2.to λ o e=>e3.extBut _ _ D.n9.symm (e2.extBut _ _ D.n10.symm (e1.extBut _ _ D.n4 e))) (hl2.to λ o e=>e3.extBut _ _ o2.2.2.1 (e2.extBut _ _ o2.2.2.2.1 (e1.extBut _ _ o2.1 e))) hy λ g4 a4 e4=>c8 ?_);have b4:IsPair g4 TO x b:=e4.extBut _ _ D.n9 b3;refine a8 (ua3 b4 rfl ?_);refine a8 (ufg b4 λ g5 b5 e5=>?_);replace b5:IsPair g5 TO x y:=b5;refine a8 (ucu (c8 (c8 ?_)));refine a8 (ua3 b5 rfl ?_);refine a8 (wpAny_newTuple ?_);have sz:g5.objs.size=s.heap.objs.size:=by rw[e5.1,e4.1,e3.1,e2.1,e1.1]
 have z5:IsZip g5 z TI TO .ellipsis:=e5.extBut _ _ D.n2.symm (e4.extBut _ _ D.n4.symm (e3.extBut _ _ D.n2.symm (e2.extBut _ _ D.n3.symm z1)));have k5:∀ c o,c≠z->c≠TO->c≠i1->c≠i2->s.heap.get? c=some o->g5.get? c=some o:=λ c o c1 c2 c3 c4 e =>
  e5.extBut _ _ c2 (e4.extBut _ _ c4 (e3.extBut _ _ c2 (e2.extBut _ _ c3 (e1.extBut _ _ c1 e))))
 have a15:ItAt t1 g5 i1 l1 (k+1):=a2.to λ o e=>e5.extBut _ _ D.n8.symm (e4.extBut _ _ D.n10 (e3.extBut _ _ D.n8.symm e));have a25:ItAt t2 g5 i2 l2 (k+1):=a4.to λ o e=>e5.extBut _ _ D.n9.symm e;have zlt:z<g5.objs.size:=i9 z5;show j7 _ _ (Builtin.SmallTypes.ownedTupleHandOut (.ref z) (.ref g5.objs.size) >>= _) _ _ { s with heap:=_ };refine a8 ?_;unfold Builtin.SmallTypes.ownedTupleHandOut;have z6:IsZip (g5.push { cls:=.type "tuple",data:=.seq #[x,y] }) z TI TO .ellipsis:=a9 _ z5;refine a8 (ubp z6 (by simp) λ g7 z7 e7=>?_);replace z7:IsZip g7 z TI TO (rawInt g5.objs.size):=z7;refine ubp z7 (by simp) λ g8 z8 e8=>?_;replace z8:IsZip g8 z TI TO (rawInt g5.objs.size):=z8;have up:∀ c o,c≠z->g5.get? c=some o->g8.get? c=some o:=λ c o c1 e=>e8.extBut _ _ c1 (e7.extBut _ _ c1 (a9 _ e));have t8:IsPair g8 g5.objs.size x y:=e8.extBut _ _ (ubh zlt) (e7.extBut _ _ (ubh zlt) (i7 _ rfl));have sz8:g8.objs.size=g5.objs.size+1:=by rw[e8.1,e7.1,uaq]
 rw[sz] at z8 t8 sz8;refine c8 ⟨A,?_⟩;show Q (.ref g5.objs.size) { s with heap:=g8 };rw[sz];exact hQ g8 ⟨z8,up _ _ D.n1 (k5 _ _ D.n1 D.n5 D.n6 D.n7 hti),⟨x,y,up _ _ D.n2 b5⟩,a15.to λ o e=>up _ o D.n3 e,a25.to λ o e=>up _ o D.n4 e⟩ t8 sz8 λ c o c1 c2 c3 c4 e=>up c o c1 (k5 c o c1 c2 c3 c4 e)
theorem zal {t1 t2:Bool}{z TI TO i1 i2 l1 l2:j8}{k:Nat}{xs ys:Array c9}{Q:Fin->d8->Prop}(hh:A.handled=none)(D:Ap z TI TO i1 i2)(o1:Out z TI TO i1 i2 l1)(o2:Out z TI TO i1 i2 l2)
  (Z:Zd t1 t2 s.heap z TI TO i1 i2 l1 l2 .none k) (hl1:SqAt t1 s.heap l1 xs) (hl2:SqAt t2 s.heap l2 ys) (hend:xs[k]?=none\/ys[k]?=none)
  (hE:∀ h' e,(∀ c o,c≠z->c≠TO->c≠i1->c≠i2->s.heap.get? c=some o->h'.get? c=some o)->(∃ o,h'.get? e=some o/\o.cls=.type "StopIteration")->E (.ref e) { s with heap:=h' }) :
  j7 (p9 prog w) A (Builtin.«zip.__next__» ⟨[.ref z],[]⟩) Q E s:=by
 obtain⟨hz,hti,⟨a,b,hto⟩,h1,h2⟩:=Z;show j7 _ _ (field (.ref z) 2 >>= _) _ _ s;refine a8 (uab hz rfl (x:=.bool false) rfl ?_);show j7 _ _ (field (.ref z) 3 >>= _) _ _ s;refine a8 (uab hz rfl (x:=.ref TI) rfl ?_);refine a8 (ua3 hti rfl ?_);show j7 _ _ (Builtin.SmallTypes.ownedTupleIsFree (.ref z) >>= _) _ _ s;refine a8 ?_;unfold Builtin.SmallTypes.ownedTupleIsFree;refine a8 (uab hz rfl (x:=.none) rfl (c8 ?_));simp only [if_true];refine a8 (uc2 ?_);refine a8 (uab hz rfl (x:=.ref TO) rfl ?_);refine a8 (ubp hz (by simp) λ g1 z1 e1=>?_);replace z1:IsZip g1 z TI TO .ellipsis:=z1;refine a8 ?_;simp only [List.zipIdx_cons,List.zipIdx_nil,uga,List.forIn_nil];refine a8 (a8 (ue0 ?_));show j7 _ _ (Builtin.SmallTypes.nextOf (.ref i1) >>= _) _ _ { s with heap:=g1 };cases hx:xs[k]? with
 | none =>
  refine a8 (jP hh (h1.to λ o e=>e1.extBut _ _ D.n3 e) (hl1.to λ o e=>e1.extBut _ _ o1.1 e) hx λ g2 e e2 he=>?_);obtain⟨oe,p1,p2⟩:=he;have z2:IsZip g2 z TI TO .ellipsis:=e2 _ _ D.n3.symm z1;have ez:e≠z:=λ q=>by subst q;rw[z2] at p1;cases p1;simp at p2
  exact ubp z2 (by simp) λ g3 _ e3=>hE g3 e (λ c o c1 _ c3 _ q=>e3.extBut _ _ c1 (e2 _ _ c3 (e1.extBut _ _ c1 q))) ⟨oe,e3.extBut _ _ ez p1,p2⟩
 | some x =>
  have hy:ys[k]?=none:=by
   rcases hend with q | q
   ·rw[hx] at q;cases q
   ·exact q
  refine a8 (hJ (h1.to λ o e=>e1.extBut _ _ D.n3 e) (hl1.to λ o e=>e1.extBut _ _ o1.1 e) hx λ g2 a2 e2=>c8 ?_);have b2:IsPair g2 TO a b:=e2.extBut _ _ D.n8 (e1.extBut _ _ D.n2 hto);refine a8 (ua3 b2 rfl ?_);refine a8 (ufg b2 λ g3 b3 e3=>?_);refine a8 (ucu (c8 ?_));refine a8 (a8 (ue0 ?_));show j7 _ _ (Builtin.SmallTypes.nextOf (.ref i2) >>= _) _ _ { s with heap:=g3 };refine a8 (jP hh (h2.to λ o e=>e3.extBut _ _ D.n9.symm (e2.extBut _ _ D.n10.symm (e1.extBut _ _ D.n4 e))) (hl2.to λ o e=>e3.extBut _ _ o2.2.2.1 (e2.extBut _ _ o2.2.2.2.1 (e1.extBut _ _ o2.1 e))) hy λ g4 e e4 he=>?_);obtain⟨oe,p1,p2⟩:=he;have z4:IsZip g4 z TI TO .ellipsis:=e4 _ _ D.n4.symm (e3.extBut _ _ D.n2.symm (e2.extBut _ _ D.n3.symm z1));have ez:e≠z:=λ q=>by subst q;rw[z4] at p1;cases p1;simp at p2
  exact ubp z4 (by simp) λ g5 _ e5=>hE g5 e (λ c o c1 c2 c3 c4 q=>e5.extBut _ _ c1 (e4 _ _ c4 (e3.extBut _ _ c2 (e2.extBut _ _ c3 (e1.extBut _ _ c1 q))))) ⟨oe,e5.extBut _ _ ez p1,p2⟩
theorem zC {t1 t2:Bool}{z TI TO i1 i2 l1 l2:j8}{k:Nat}{xs ys:Array c9}{x y:c9}{Q:Option c9->d8->Prop}(D:Ap z TI TO i1 i2)(o1:Out z TI TO i1 i2 l1)(o2:Out z TI TO i1 i2 l2)
  (Z:Zd t1 t2 s.heap z TI TO i1 i2 l1 l2 .none k) (hl1:SqAt t1 s.heap l1 xs) (hl2:SqAt t2 s.heap l2 ys) (hx:xs[k]?=some x) (hy:ys[k]?=some y)
  (hQ:∀ h',Zd t1 t2 h' z TI TO i1 i2 l1 l2 (rawInt s.heap.objs.size) (k+1)->IsPair h' s.heap.objs.size x y->h'.objs.size=s.heap.objs.size+1 ->
   (∀ c o,c≠z->c≠TO->c≠i1->c≠i2->s.heap.get? c=some o->h'.get? c=some o)->Q (some (.ref s.heap.objs.size)) { s with heap:=h' }) :
  j7 (p9 prog w) A (pyNext (.ref z)) Q E s:=by
 have hT:s.TypeIs (.ref z) "zip":=⟨_,Z.z,rfl⟩;unfold pyNext;exact a8 (ucq (uaf (name := v4 "__next__") hT ue7 (uar ue7 hT F.entry_zip_next
     (zam D o1 o2 Z hl1 hl2 hx hy λ h' b1 b2 b3 b4=>c8 (hQ h' b1 b2 b3 b4)) (F.args_zip_next_1 _))))
theorem zB {t1 t2:Bool}{z TI TO i1 i2 l1 l2:j8}{k:Nat}{xs ys:Array c9}{Q:Option c9->d8->Prop}(hh:A.handled=none)(D:Ap z TI TO i1 i2)(o1:Out z TI TO i1 i2 l1)(o2:Out z TI TO i1 i2 l2)
  (Z:Zd t1 t2 s.heap z TI TO i1 i2 l1 l2 .none k) (hl1:SqAt t1 s.heap l1 xs) (hl2:SqAt t2 s.heap l2 ys) (hend:xs[k]?=none\/ys[k]?=none)
  (hQ:∀ h',(∀ c o,c≠z->c≠TO->c≠i1->c≠i2->s.heap.get? c=some o->h'.get? c=some o)->Q none { s with heap:=h' }):j7 (p9 prog w) A (pyNext (.ref z)) Q E s:=by
 have hT:s.TypeIs (.ref z) "zip":=⟨_,Z.z,rfl⟩;unfold pyNext;refine a8 (ucq (uaf (name := v4 "__next__") hT ue7 (uar ue7 hT F.entry_zip_next
     (zal hh D o1 o2 Z hl1 hl2 hend λ h' e hk he=>?_) (F.args_zip_next_1 _))))
 obtain⟨o,p1,p2⟩:=he;exact a8 (ud6 (T:="StopIteration") (b:=true) ⟨o,p1,p2⟩ ufm (c8 (hQ _ hk)))
abbrev zh1 (h:Heap)(t1:Bool)(l1:j8):Heap:=h.push (itObj t1 l1)
abbrev zh2 (h:Heap)(t1 t2:Bool)(l1 l2:j8):Heap:=(zh1 h t1 l1).push (itObj t2 l2)
abbrev zh3 (h:Heap)(t1 t2:Bool)(l1 l2:j8):Heap:=(zh2 h t1 t2 l1 l2).push { cls:=.type "tuple",data:=.seq #[.ref h.objs.size,.ref (zh1 h t1 l1).objs.size] }
abbrev zh4 (h:Heap)(t1 t2:Bool)(l1 l2:j8):Heap:=(zh3 h t1 t2 l1 l2).push { cls:=.type "tuple",data:=.seq #[.none,.none] }
abbrev zh5 (h:Heap)(t1 t2:Bool)(l1 l2:j8):Heap:=(zh4 h t1 t2 l1 l2).push { cls:=.type "zip",data:=.fields #[.none,.bool false,.bool false,.ref (zh2 h t1 t2 l1 l2).objs.size,.ref (zh3 h t1 t2 l1 l2).objs.size] }
theorem zco (t1 t2:Bool)(l1 l2:j8)(xs ys:Array c9) :
  Meets (Builtin.«zip.__new__» ⟨[.type "zip",.ref l1,.ref l2],[]⟩) (λ _ R s=>SqAt t1 s.heap l1 xs/\SqAt t2 s.heap l2 ys/\R (.ok (.ret (.ref (zh4 s.heap t1 t2 l1 l2).objs.size))) { s with heap:=zh5 s.heap t1 t2 l1 l2 }) :=
 .of_wp λ prog w A R s h=>by
  obtain⟨hp,g,d,tk,os⟩:=s;obtain⟨hl1,hl2,h⟩:=h;have hsub:=sub_zip;have b1:SqAt t1 (Shared.heap ⟨hp,g,d,tk,os⟩) l1 xs:=hl1;have b2:SqAt t2 (Shared.heap ⟨hp.push (itObj t1 l1),g,d,tk,os⟩) l2 ys:=SqAt.to hl2 λ o e=>a9 _ e
  wp_walk using fQ b1,fQ b2
  exact⟨A,h⟩
theorem zce {t1 t2:Bool}{l1 l2:j8}{xs ys:Array c9}{Q:c9->d8->Prop}(hl1:SqAt t1 s.heap l1 xs)(hl2:SqAt t2 s.heap l2 ys)
  (h:∀ h',Zd t1 t2 h' (s.heap.objs.size+4) (s.heap.objs.size+2) (s.heap.objs.size+3) s.heap.objs.size (s.heap.objs.size+1) l1 l2 .none 0->h'.objs.size=s.heap.objs.size+5 ->
   (∀ c o,s.heap.get? c=some o->h'.get? c=some o)->Q (.ref (s.heap.objs.size+4)) { s with heap:=h' }) :
  j7 (p9 prog w) A (call (.type "zip") [.ref l1,.ref l2]) Q E s:=by
 refine callType_new F.called_zip (by decide) (F.typeCall_zip_2 _ _) (F.newCall_zip_2 _ _) (λ obj=>F.args_object_init_3 obj _ _) F.entry_zip_new (zco t1 t2 l1 l2 xs ys) ⟨hl1,hl2,?_⟩;have z1:(zh1 s.heap t1 l1).objs.size=s.heap.objs.size+1:=uaq ..;have z2:(zh2 s.heap t1 t2 l1 l2).objs.size=s.heap.objs.size+2:=by rw[uaq,z1]
 have z3:(zh3 s.heap t1 t2 l1 l2).objs.size=s.heap.objs.size+3:=by rw[uaq,z2]
 have z4:(zh4 s.heap t1 t2 l1 l2).objs.size=s.heap.objs.size+4:=by rw[uaq,z3]
 have z5:(zh5 s.heap t1 t2 l1 l2).objs.size=s.heap.objs.size+5:=by rw[uaq,z4]
 have g5:(zh5 s.heap t1 t2 l1 l2).get? (zh4 s.heap t1 t2 l1 l2).objs.size=some _:=i7 _ rfl;have g4:(zh5 s.heap t1 t2 l1 l2).get? (zh3 s.heap t1 t2 l1 l2).objs.size=some _:=a9 _ (i7 _ rfl);have g3:(zh5 s.heap t1 t2 l1 l2).get? (zh2 s.heap t1 t2 l1 l2).objs.size=some _:=a9 _ (a9 _ (i7 _ rfl));have g2:ItAt t2 (zh5 s.heap t1 t2 l1 l2) (zh1 s.heap t1 l1).objs.size l2 0:=(ItAt.new (t:=t2) (h:=zh1 s.heap t1 l1) (l:=l2)).to λ o e=>a9 _ (a9 _ (a9 _ e));have g1:ItAt t1 (zh5 s.heap t1 t2 l1 l2) s.heap.objs.size l1 0:=(ItAt.new (t:=t1) (h:=s.heap) (l:=l1)).to λ o e=>a9 _ (a9 _ (a9 _ (a9 _ e)));show _/\_;rw[z2,z3,z4] at g5;rw[z1,z2] at g3;rw[z3] at g4;rw[z1] at g2;rw[z4];exact⟨⟨_,g5,rfl⟩,h _ ⟨g5,g3,⟨V,g4⟩,g1,g2⟩ z5 λ c o q=>a9 _ (a9 _ (a9 _ (a9 _ (a9 _ q))))⟩
theorem ze5 (n:Nat):Ap (n+4) (n+2) (n+3) n (n+1):=by
 constructor <;> (show (_:Nat)≠(_:Nat)) <;> left
theorem pR {n l:Nat}(h:l<n):Out (n+4) (n+2) (n+3) n (n+1) l:=by
 refine⟨?_,?_,?_,?_,?_⟩ <;> (show (_:Nat)≠(_:Nat)) <;> left
end
end Z3
namespace U3
open PySem PyProof.Rows
section
variable {prog:n0}{w:uak}{A:uaj}{E:c9->d8->Prop}{s:d8}
theorem oS {it l:j8}{xs:Array c9}(hne:l≠it):∀ (n i:Nat)(s:d8)(Q:List c9->d8->Prop),s.heap.IsListIter it l i->s.heap.IsList l xs->i+n<=xs.size ->
  (∀ h',h'.IsListIter it l (i+n)->Heap.SameBut it s.heap h'->Q ((xs.toList.drop i).take n) { s with heap:=h' })->j7 (p9 prog w) A (draw (.ref it) n) Q E s
 | 0,i,s,Q,hi,_,_,h=>by
  show j7 _ _ (pure []) Q E s;exact c8 (by simpa using h s.heap hi (ugl ..))
 | n+1,i,s,Q,hi,hl,hle,h=>by
  have lt:i<xs.size:=by left
  show j7 _ _ (pyNext (.ref it) >>= _) Q E s;refine a8 (wpAny_pyNext_list_item hi hl (x:=xs[i]) (by simp [lt]) λ g1 i1 e1=>?_);refine a8 (uae (oS hne n (i+1) _ _ i1 (hl.extBut e1.extBut hne) (by left) λ g2 i2 e2=>c8 ?_));have hd:xs.toList.drop i=xs[i]::xs.toList.drop (i+1):=by simp [uee,lt]
  have q:=h g2 (by rw[show i+(n+1)=i+1+n by left];exact i2) (e1.trans e2);rw[hd,List.take_succ_cons] at q;exact q
theorem xB {l:j8}{xs:Array c9}{targets:List (Bool × (c9->Sem Unit))}{Q:Unit->d8->Prop}(hh:A.handled=none)(hl:s.heap.IsList l xs)
  (hn:targets.length=xs.size) (hs:targets.findIdx? (·.1)=none)
  (h:∀ h',ufa s.heap.objs.size s.heap h'->j7 (p9 prog w) A (assignInOrder (targets.map (·.2)) xs.toList) Q E { s with heap:=h' }) :
  j7 (p9 prog w) A (unpack (.ref l) targets) Q E s:=by
 have ne:l≠s.heap.objs.size:=by obtain⟨o,ho,_⟩:=hl;exact l6 (i9 ho)
 unfold unpack;rw[hn,hs];refine a8 (uae ?_);unfold unpackItems;refine a8 ?_;unfold notIterableAtAll;refine a8 (wpAny_specialOf hl.typeIs slot_list_iter.lookup ?_);refine c8 ?_;simp only [ua4,if_false];refine a8 (uae (uck hl ?_));refine a8 (uae (oS ne xs.size 0 _ _ ⟨_,i7 _ rfl,P⟩ (hl.push _) (by left) λ g1 i1 e1=>?_));have all:List.take xs.size (List.drop 0 xs.toList)=xs.toList:=by
  rw[ue8];exact ubj (by simp)
 rw[all,ug8 (by simp)];have l1:g1.IsList l xs:=(hl.push _).extBut e1.extBut ne;refine a8 (uae (wpAny_pyNext_list_end hh i1 l1 (by simp) λ g2 e2=>?_));simp only [Option.isSome_none,ua4,if_false];exact c8 (h g2 λ b o hb e=>e2 b o hb (e1.extBut b o hb (a9 _ e)))
theorem assign_tuple_lst {env:Env}{elts:List uby} {x1} {pos:Pos} {l:j8} {xs:Array c9} {Q:Unit->d8->Prop} (hh:A.handled=none) (hl:s.heap.IsList l xs)
  (hn:(assignEach elts env).length=xs.size) (hs:(assignEach elts env).findIdx? (·.1)=none)
  (h:∀ h',ufa s.heap.objs.size s.heap h'->j7 (p9 prog w) A (assignInOrder ((assignEach elts env).map (·.2)) xs.toList) Q E { s with heap:=h' }) :
  j7 (p9 prog w) A (assign (.Tuple elts x1 pos) env (.ref l)) Q E s:=by
 rw[assign_Tuple];exact a8 (udx (xB hh hl hn hs h))
end
end U3
namespace L3
open PySem PySem.Spec PyProof.Rows L2
abbrev Fls:c9->d8->Prop:=λ _ _=>False
abbrev testsOf (ifs:List uby)(env:Env):Sem Bool :=
 forIn ifs true λ c r=>if r=true then do let ok ← isTrue c env (eval c env);pure (ForInStep.yield ok) else pure (ForInStep.yield r)
section
variable {prog:n0}{w:uak}{A:uaj}{R:Result->d8->Prop}{s:d8}
theorem xR {elt tg iter:uby}{ifs:List uby}{scope:ue1}{pos:Pos}{it acc:c9}{env:Env}(W:Nat->d8->Prop)
  (step:∀ n s,W n s->j7 (p9 prog w) A (pyNext it) (λ r s1=>(r=none/\R (.ok .next) s1)\/∃ v,r=some v /\
   j7 (p9 prog w) A (letOwnedTupleGo tg it v) (λ _ s2=>j7 (p9 prog w) A (assign tg env v) (λ _ s3 =>
    j7 (p9 prog w) A (testsOf ifs env) (λ ok s4=>if ok=true then j7 (p9 prog w) A (eval elt env) (λ x s5 =>
     j7 (p9 prog w) A (call (.builtin "list.append") [acc,x]) (λ _ s6=>∃ m,m<n/\W m s6) Fls s5) Fls s4 else ∃ m,m<n/\W m s4) Fls s3) Fls s2) Fls s1) Fls s)
  (n:Nat) (h:W n s):codeAny (p9 prog w) A (.compLoop (.ListComp elt [⟨tg,iter,ifs,0⟩] scope pos) 0 it acc env) R s:=by
 refine codeAny_loop rfl W (λ k s1 hk=>?_) n h;show j7 _ A ((compTurn (.ListComp elt [⟨tg,iter,ifs,0⟩] scope pos) 0 it acc env).onRaise (λ x=>do noteFrame x env;theTreesLotGoes x)) _ _ s1;refine wpAny_noted ?_;rw[compTurn_list];refine a8 (udx (a8 (ua9 (step k s1 hk) (λ r s2 h2=>?_) λ _ _ z=>z.elim)));rcases h2 with ⟨rfl,h2⟩ | ⟨v,rfl,h2⟩
 ·exact c8 h2
 ·refine a8 (ua9 h2 (λ _ s3 h3=>?_) λ _ _ z=>z.elim);refine a8 (ua9 h3 (λ _ s4 h4=>?_) λ _ _ z=>z.elim);refine a8 (ua9 h4 (λ ok s5 h5=>?_) λ _ _ z=>z.elim);cases ok with
  | false=>exact c8 ⟨rfl,h5⟩
  | true =>
   refine a8 (a8 (ua9 h5 (λ x s6 h6=>?_) λ _ _ z=>z.elim));refine a8 (ua9 h6 (λ _ s7 h7=>?_) λ _ _ z=>z.elim);exact c8 (c8 ⟨rfl,h7⟩)
end
def clOf (cells:List (Str × j8)):List (Str × NameKind)->List (Str × j8)->List (Str × j8)
 | [],cs=>cs
 | (n,k)::r,cs=>clOf cells r (if k=.free then (n,(cells.lookup n).getD 0)::cs else cs)
theorem oW {cells:List (Str × j8)}:∀ {names:List (Str × NameKind)}{cs:List (Str × j8)}{p:Str × j8},p∈clOf cells names cs->p∈cs\/((p.1,NameKind.free)∈names/\p.2=(cells.lookup p.1).getD 0)
 | [],_,_,h=>.inl h
 | (n,k)::r,cs,p,h=>by
  rcases oW (names:=r) h with q | ⟨q1,q2⟩
  ·by_cases hk:k=.free
   ·rw[ug7 hk] at q;rcases j4.mp q with e | q
    ·subst e;subst hk;exact .inr ⟨j3,rfl⟩
    ·exact .inl q
   ·rw[ug8 hk] at q;exact .inl q
  ·exact .inr ⟨l9 _ q1,q2⟩
theorem oX {cells:List (Str × j8)}:∀ {names:List (Str × NameKind)}{cs:List (Str × j8)}{x:Str},((x,NameKind.free)∈names\/∃ c,(x,c)∈cs)->∃ c,(x,c)∈clOf cells names cs
 | [],_,_,h=>h.elim (λ z=>nomatch z) id
 | (n,k)::r,cs,x,h=>by
  refine oX (names:=r) ?_;rcases h with h | ⟨c,h⟩
  ·rcases j4.mp h with e | h
   ·cases e;exact .inr ⟨_,by rw[ug7 rfl];exact j3⟩
   ·exact .inl h
  ·refine .inr ⟨c,?_⟩;split
   ·exact l9 _ h
   ·exact h
theorem iO {env:Env}:∀ (names:List (Str × NameKind))(cs:List (Str × j8)),(∀ y∈names,y.2=.free->∃ c,env.cells.lookup y.1=some c) ->
  (forIn names cs λ x r=>(match x with | (n,k)=>if (k==NameKind.free)=true then do let c ← cellOf env n;pure (ForInStep.yield ((n,c)::r)) else pure (ForInStep.yield r):Sem (ForInStep (List (Str × j8)))))=pure (clOf env.cells names cs)
 | [],cs,_=>rfl
 | (n,k)::r,cs,h=>by
  rw[uga];by_cases hk:k=.free
  ·subst hk;obtain⟨c,hc⟩:=h (n,.free) j3 rfl;have e1:cellOf env n=pure c:=by unfold cellOf;rw[hc]
   have e2:clOf env.cells ((n,NameKind.free)::r) cs=clOf env.cells r ((n,c)::cs):=by
    show clOf env.cells r (if NameKind.free=NameKind.free then (n,(env.cells.lookup n).getD 0)::cs else cs)=_;rw[ug7 rfl,hc];rfl
   rw[e2,← iO r ((n,c)::cs) λ y hy=>h y (l9 _ hy)];simp only [beq_self_eq_true,if_true,e1,pure_bind]
  ·have e2:clOf env.cells ((n,k)::r) cs=clOf env.cells r cs:=by
    show clOf env.cells r (if k=NameKind.free then _ else cs)=_;rw[ug8 hk]
   have hb:(k==NameKind.free)=false:=by simpa using hk
   rw[e2,← iO r cs λ y hy=>h y (l9 _ hy)];simp only [hb,ua4,if_false,pure_bind]
theorem mE {scope:ue1}{env:Env}(h:∀ y∈scope.names,y.2=.free->∃ c,env.cells.lookup y.1=some c):closureFor scope env=pure (clOf env.cells scope.names []):=by
 have q:=iO (env:=env) scope.names [] h;unfold closureFor;refine Eq.trans ?_ q
 first | rfl | simp
theorem kX {env:Env}:∀ {names:List (Str × NameKind)}{x:Str},names.lookup x=some .free ->
  (names.map λ (n,k)=>if (k==NameKind.free&&env.scope.kind==.function&&env.kindOf n==some .cell) then (n,NameKind.cell) else (n,k)).lookup x=some .cell \/
  (names.map λ (n,k)=>if (k==NameKind.free&&env.scope.kind==.function&&env.kindOf n==some .cell) then (n,NameKind.cell) else (n,k)).lookup x=some .free
 | [],_,h=>by simp at h
 | (n,k)::r,x,h=>by
  have ih:=@kX env r x;rw[ua8];by_cases hx:(x==n)=true
  ·rw[ub4,hx] at h;have h':k=.free:=by simpa using h
   subst h';dsimp only;split
   ·apply v6;rw[ub4,hx]
   ·apply ufn;rw[ub4,hx]
  ·have hx':(x==n)=false:=by simpa using hx
   rw[ub4,hx'] at h;dsimp only;split
   ·rw[ub4,hx'];exact ih h
   ·rw[ub4,hx'];exact ih h
theorem lW {env:Env}:∀ {names:List (Str × NameKind)}{x:Str},(∀ y∈names,y.2≠.cell) ->
  ((names.map λ (n,k)=>if (k==NameKind.free&&env.scope.kind==.function&&env.kindOf n==some .cell) then (n,NameKind.cell) else (n,k)).lookup x=some .cell \/
  (names.map λ (n,k)=>if (k==NameKind.free&&env.scope.kind==.function&&env.kindOf n==some .cell) then (n,NameKind.cell) else (n,k)).lookup x=some .free)->(x,NameKind.free)∈names
 | [],_,_,h=>by simp at h
 | (n,k)::r,x,hc,h=>by
  rw[ua8] at h;by_cases hx:(x==n)=true
  ·have e:x=n:=by simpa using hx
   subst e;dsimp only at h;by_cases hk:(k==NameKind.free&&env.scope.kind==.function&&env.kindOf x==some .cell)=true
   ·rw[ug7 hk] at h;have:k=.free:=by
     simp only [uaa] at hk;simpa using hk.1.1
    subst this;exact j3
   ·rw[ug8 hk,ub4,hx] at h;rcases h with h | h
    ·exact absurd (by simpa using h) (hc (x,k) j3)
    ·have:k=.free:=by simpa using h
     subst this;exact j3
  ·have hx':(x==n)=false:=by simpa using hx
   refine l9 _ (lW (env:=env) (λ y hy=>hc y (l9 _ hy)) ?_);dsimp only at h;split at h
   ·rw[ub4,hx'] at h;exact h
   ·rw[ub4,hx'] at h;exact h
def compOk (N:List Str)(sc0 scope:ue1)(fr:List Str)(js:List Nat):Bool :=
 decide (scope.kind=.function)&&(scope.names.all λ y=>decide (y.2≠.cell)&&(decide (y.2≠.free)||decide (sc0.names.lookup y.1=some .cell)||decide (sc0.names.lookup y.1=some .free)) &&
  (decide (y.2≠.local)||decide (scope.names.lookup y.1=some .local)))&&decide (fr.length=js.length) &&
 ((fr.zip js).all λ p=>decide (N[p.2]?=some p.1)&&decide (scope.names.lookup p.1=some .free)&&(decide (sc0.names.lookup p.1=some .cell)||decide (sc0.names.lookup p.1=some .free)))
def cxComp (X:Cx)(own fr:List Str)(scope:ue1)(fp:List j8)(pins:List (j8 × Obj))(s3:d8)(H3:Hp):Cx :=
 { X with N:=own++fr,s₀:=s3,H₀:=H3,env:=compEnvC scope (clOf X.env.cells scope.names []) s3.heap.objs.size X.env,outer:=X.stack,stack:=X.stack,ex:=fp,fn:=λ _=>false,pn:=X.pn++pins,xe:=Fls }
def PTs (X:Cx)(ifs:List uby)(t:TT):Prop :=
 ∀ (pins:List (j8 × Obj))(s:d8)(σ:L2.St)(H:Hp)(Q:Bool->Hp->Prop),Inv X pins σ H s->t σ H Q->j7 (p9 X.prog X.w) X.A (testsOf ifs X.env) (TP X pins σ Q) X.xe s
def tTrue:TT:=λ _ H Q=>Q true H
theorem bS {X:Cx}:PTs X [] tTrue:=λ _ _ _ H _ I h=>wpAny_tests_nil ⟨H,I,h⟩
theorem dD {X:Cx}{c:uby}{t:TT}(h:PT X c t):PTs X [c] t:=λ pins s σ H Q I q=>wpAny_tests_one (h pins s σ H Q I q)
def start3 (own:List Str)(js:List Nat)(σ:L2.St):L2.St:=m5 own.length none++js.map λ j=>(σ[j]?).join
def CompGo (own:List Str)(js:List Nat)(g:TG)(tt:TT)(te:TE)(σ:L2.St)(Q:VK)(J:It)(H1:Hp):Prop:=∀ D,H1 D=none->∃ W:Nat->Nat->List V->L2.St->Hp->Prop,
 (∃ m,W 0 m [] (start3 own js σ) (upd H1 D (.lst [])))/\∀ i m ys σ' H',W i m ys σ' H'->H' D=some (.lst ys) ->
  (J.stop i H'/\Q (.ref D) H')\/(J.go i H'/\∀ x H2,J.yld i H' x H2->g x σ' H2 λ σ3 H3=>tt σ3 H3 λ b H4 =>
   if b=true then te σ3 H4 λ v H5=>H5 D=some (.lst ys)/\ys.length<o7/\∃ m',m'<m/\W (i+1) m' (ys++[v]) σ3 (upd H5 D (.lst (ys++[v])))
   else H4 D=some (.lst ys)/\∃ m',m'<m/\W (i+1) m' ys σ3 H4)
def tComp (own:List Str)(js:List Nat)(wi:TI)(g:TG)(tt:TT)(te:TE):TE:=λ σ H Q=>wi σ H λ J H1=>CompGo own js g tt te σ Q J H1
section
variable {X:Cx}{elt tg iter:uby}{ifs:List uby}{scope sc0:ue1}{pos:Pos}{own fr N:List Str}{js:List Nat}{wi:TI}{g:TG}{tt:TT}{te:TE}
theorem zN {σ:L2.St}{js:List Nat}{k:Nat}{v:V}(e:(js.map λ j=>(σ[j]?).join)[k]?=some (some v)):∃ j,js[k]?=some j/\σ[j]?=some (some v):=by
 rw[l7] at e;cases hj:js[k]? with
 | none=>rw[hj] at e;cases e
 | some j =>
  rw[hj] at e;refine⟨j,rfl,?_⟩;have e':(σ[j]?).join=some v:=by simpa using e
  cases hs:σ[j]? with
  | none=>rw[hs] at e';cases e'
  | some o=>rw[hs] at e';exact congrArg some e'
theorem oM {pins:List (j8 × Obj)}{σ:L2.St}{H3:Hp}{s3:d8}{fp:List j8}{h4:Heap}{t4:Nat}{m4:Str->Option c9}
  (hN:X.N=N) (hsc:X.env.scope=sc0) (hok:compOk N sc0 scope fr js=true) (I:Inv X pins σ H3 s3) (hf:∀ b∈fp,FpOk X pins H3 b) (hlt:∀ b∈fp,b<s3.heap.objs.size)
  (k:∀ b o,s3.heap.get? b=some o->h4.get? b=some o) (hns:h4.Ns s3.heap.objs.size m4):Inv (cxComp X own fr scope fp pins s3 H3) [] (start3 own js σ) H3 { s3 with heap:=h4,toks:=t4 }:=by
 subst hN hsc;unfold compOk at hok;simp only [uaa,decide_eq_true_eq,uas] at hok;obtain⟨⟨⟨hk,hall⟩,hlen⟩,hfr⟩:=hok;have hfree:∀ y∈scope.names,y.2=.free->∃ c,X.env.cells.lookup y.1=some c:=λ y hy e=>by
  have q:=(hall y hy).1.2;simp only [udp,decide_eq_true_eq] at q;rcases q with (q | q) | q
  ·exact absurd e q
  ·exact I.ok.has y.1 (.inl q)
  ·exact I.ok.has y.1 (.inr q)
 have hcl:∀ x c,(clOf X.env.cells scope.names []).lookup x=some c->X.env.cells.lookup x=some c:=λ x c e=>by
  rcases oW (ucf e) with z | ⟨z1,z2⟩
  ·exact absurd z (by simp)
  ·obtain⟨c',hc'⟩:=hfree _ z1 rfl;have hc'':X.env.cells.lookup x=some c':=hc';have z2':c=(X.env.cells.lookup x).getD 0:=z2;rw[hc''] at z2' ⊢;simp at z2';rw[z2']
 have hasC:∀ x,(x,NameKind.free)∈scope.names->∃ c,(clOf X.env.cells scope.names []).lookup x=some c:=λ x hx=>by
  obtain⟨c,hc⟩:=oX (cells:=X.env.cells) (cs:=[]) (.inl hx);cases q:(clOf X.env.cells scope.names []).lookup x with
  | some c'=>exact⟨c',rfl⟩
  | none =>
   have:∀ (l:List (Str × j8)),(x,c)∈l->l.lookup x≠none:=λ l=>by
    induction l with
    | nil=>intro z;cases z
    | cons p r ih =>
     intro z;obtain⟨p1,p2⟩:=p;rw[ub4];rcases j4.mp z with z | z
     ·cases z;simp
     ·split
      ·simp
      ·exact ih z
   exact absurd q (this _ hc)
 have hcell:∀ y∈scope.names,y.2≠.cell:=λ y hy=>(hall y hy).1.1;have sz:X.base.objs.size<=s3.heap.objs.size:=o8 I.ok.bsz I.sz;refine⟨⟨I.ok.mod,hk,I.ok.glob,I.ok.blt,i6 _,λ x y c e1 e2=>I.ok.inj x y c (hcl x c e1) (hcl y c e2),λ x hx=>hasC x (lW hcell hx),λ x c z=>absurd z (by simp [cxComp]),
  I.ok.hd,I.ok.frames,.inl rfl,λ b hb=>⟨l6 (hlt b hb),λ x c e=>(hf b hb).2.2.2.2.1 x c (hcl x c e)⟩,I.bs,sz,λ b o e hb=>?_,λ b hb z=>?_,I.stack,I.stkFree⟩,
  rfl,I.bare,Un.kept k,⟨m4,hns,λ i x v e1 e2 e3=>?_⟩,λ x c e=>?_,I.hok.fresh (i6 _),λ x c e=>I.freeC x c (hcl x c e),λ p hp=>?_,I.hok.kept k,?_⟩
 ·obtain⟨_,_,_,f3,_⟩:=hf b hb;rcases f3 with f3 | f3
  ·exact I.ok.noex b o e f3
  ·exact absurd (o0 (i9 e) (o8 I.ok.bsz f3)) (uay _)
 ·obtain⟨_,f1,f2,_⟩:=hf b hb;rcases j4.mp (I.stkSub b z) with z | z
  ·exact f1 z
  ·exact f2 z
 ·have e2':(m5 own.length (none:Option V)++js.map λ j=>(σ[j]?).join)[i]?=some (some v):=e2;have e1':(own++fr)[i]?=some x:=e1;by_cases hi:i<own.length
  ·rw[ubd (by simpa using hi),udn,ug7 hi] at e2';cases e2'
  ·rw[uat (by simpa using hi),ua1] at e2';rw[uat (by left)] at e1';obtain⟨j,hj,hv⟩:=zN e2';have hz:(fr.zip js)[i-own.length]?=some (x,j):=by
    rw[List.getElem?_zip_eq_some];exact⟨e1',hj⟩
   have q:=hfr _ (uap hz);obtain⟨⟨q1,q2⟩,q3⟩:=q;have q3'':X.env.scope.names.lookup x=some .cell\/X.env.scope.names.lookup x=some .free:=by simpa using q3
   have q3':X.env.kindOf x=some .cell\/X.env.kindOf x=some .free:=q3'';obtain⟨m,hn,hl⟩:=I.loc;obtain⟨u,r,l⟩:=hl j x v q1 hv (q3'.elim (λ z=>.inr (.inl z)) λ z=>.inr (.inr z));refine⟨u,r,.inr ⟨kX q2,?_⟩⟩;rcases l with ⟨z,_⟩ | ⟨_,c,hc,hcellv⟩
   ·rcases q3' with w | w <;> (rw[z] at w;cases w)
   ·obtain⟨c',hc'⟩:=hasC x (ucf q2);have e:=hcl x c' hc';rw[hc] at e;cases e;obtain⟨o,ho,hd⟩:=hcellv;exact⟨c,hc',o,k c o ho,hd⟩
 ·obtain⟨v,o,ho,hd⟩:=I.cell x c (hcl x c e);exact⟨v,o,k c o ho,hd⟩
 ·have hp':p∈X.pn++pins:=by
   have:p∈(X.pn++pins)++([]:List (j8 × Obj)):=hp;simpa using this
  obtain⟨a,b,c,d,f⟩:=I.pin p hp';refine⟨k _ _ a,b,l6 (i9 a),λ z=>?_,f⟩;rcases j4.mp (I.stkSub p.1 z) with z | z
  ·exact c z
  ·exact d z
 ·show (m5 own.length (none:Option V)++js.map λ j=>(σ[j]?).join).length=(own++fr).length;simp [hlen]
theorem nB {pins:List (j8 × Obj)}{s:d8}{σ:L2.St}{H:Hp}{Q:VK}{use:Option (c9->Sem Unit)}{Qo:c9->d8->Prop}{cpos:Pos}
  (hc:X.calm=true) (hi:PI X tg iter wi) (hg:∀ fp pins s3 H3,PG (cxComp X own fr scope fp pins s3 H3) tg g) (ht:∀ fp pins s3 H3,PTs (cxComp X own fr scope fp pins s3 H3) ifs tt)
  (he:∀ fp pins s3 H3,PE (cxComp X own fr scope fp pins s3 H3) elt te) (hok:compOk N sc0 scope fr js=true) (hN:X.N=N) (hsc:X.env.scope=sc0)
  (hs:∀ x,foldedSetIterable iter X.env x=pure x) (I:Inv X pins σ H s) (h:tComp own js wi g tt te σ H Q)
  (fin:∀ (C D:j8)(s6:d8)(H6:Hp)(m6:Str->Option c9),Inv X pins σ H6 s6->FpOk X pins H6 C->s6.heap.Ns C m6->Q (.ref D) H6->compPost (p9 X.prog X.w) X.A X.xe use Qo (.ref D) C (.ok .next) s6) :
  j7 (p9 X.prog X.w) X.A (comprehension (.ListComp elt [⟨tg,iter,ifs,0⟩] scope pos) scope X.env cpos (newList []) false (eval iter X.env) use) Qo X.xe s:=by
 have hok':=hok;unfold compOk at hok';simp only [uaa,decide_eq_true_eq,uas] at hok';obtain⟨⟨⟨hk,hall⟩,hlen⟩,hfr⟩:=hok';have hcell:∀ y∈scope.names,y.2≠.cell:=λ y hy=>(hall y hy).1.1;have hloc:∀ y∈scope.names,y.2=.local->scope.names.lookup y.1=some .local:=λ y hy e=>by
  have q:=(hall y hy).2;simp only [udp,decide_eq_true_eq] at q;rcases q with q | q
  ·exact absurd e q
  ·exact q
 have hfree:∀ y∈scope.names,y.2=.free->∃ c,X.env.cells.lookup y.1=some c:=λ y hy e=>by
  have q:=(hall y hy).1.2;simp only [udp,decide_eq_true_eq] at q;rw[← hsc] at q;rcases q with (q | q) | q
  ·exact absurd e q
  ·exact I.ok.has y.1 (.inl q)
  ·exact I.ok.has y.1 (.inr q)
 refine wpAny_comprehension_free (use:=use) rfl hs (mE hfree) hk hloc (thn (hi pins s σ H _ I h) λ v s1 h1=>thn h1 λ itv s2 h2=>?_);obtain⟨it,fp,tn,J,H2,e,I2,T,st2,f2,rd⟩:=h2;subst e;have hD2:H2 s2.heap.objs.size=none:=I2.fresh;obtain⟨W,⟨m0,w0⟩,turn⟩:=rd s2.heap.objs.size hD2
 refine udy ?_ (x8 _);have I3:Inv X pins σ (upd H2 s2.heap.objs.size (.lst [])) { s2 with heap:=s2.heap.push { cls:=.type "list",data:=.seq ([]:List c9).toArray } }:=I2.lnew (t':=s2.toks) .nil (x8 _);generalize hs3:({ s2 with heap:=s2.heap.push { cls:=.type "list",data:=.seq ([]:List c9).toArray } }:d8)=s3 at I3;generalize hD:s2.heap.objs.size=D at *;have fpl:∀ b∈fp,b<D:=λ b hb=>by
  obtain⟨o,ho,_⟩:=T.obj _ _ st2 b hb;rw[← hD];exact i9 ho
 have k23:∀ b o,s2.heap.get? b=some o->s3.heap.get? b=some o:=λ b o e=>by rw[← hs3];exact a9 _ e
 have hD3:s3.heap.objs.size=D+1:=by rw[← hs3,← hD];exact uaq ..
 have f3:∀ b∈fp,FpOk X pins (upd H2 D (.lst [])) b:=λ b hb=>by
  obtain⟨f0,f⟩:=f2 b hb;exact⟨by rw[aJ (l6 (fpl b hb))];exact f0,f⟩
 refine wpAny_newFunctionEnv hcell (by intro y hy;simp at hy) (λ h4 hns4 hsb4=>?_) hk;have k34:∀ b o,s3.heap.get? b=some o->h4.get? b=some o:=λ b o e=>hsb4.extBut b o (l6 (i9 e)) (a9 _ e);have I4:=oM (own:=own) (t4:=s3.toks+([]:List (Str × c9)).length) hN hsc hok I3 f3 (λ b hb=>o0 (fpl b hb) (by rw[hD3];exact ubv _)) k34 hns4;have tn4:tn 0 h4:=T.keep 0 s2.heap h4 st2 λ b hb o e=>k34 b o (k23 b o e);have I4o:=I4.ok;have fpS:∀ {H'':Hp},(∀ b∈fp,H'' b=none)->∀ b∈fp,FpOk (cxComp X own fr scope fp pins s3 (upd H2 D (.lst []))) [] H'' b:=λ hn b hb =>
  ⟨hn b hb,(I4o.exf b hb).1,I4o.exfs b hb,.inl hb,(I4o.exf b hb).2,λ p hp=>(f2 b hb).2.2.2.2.2 p (by
   have:p∈(X.pn++pins)++([]:List (j8 × Obj)):=hp;simpa using this)⟩
 have loop : codeAny (p9 X.prog X.w) X.A (.compLoop (.ListComp elt [⟨tg, iter, ifs, 0⟩] scope pos) 0 (.ref it) (.ref D) (compEnvC scope (clOf X.env.cells scope.names []) s3.heap.objs.size X.env))
     (compPost (p9 X.prog X.w) X.A X.xe use Qo (.ref D) s3.heap.objs.size) { s3 with heap:=h4,toks:=s3.toks+([]:List (Str × c9)).length }:=by
  refine xR (λ n s'=>∃ i ys σ' H',Inv (cxComp X own fr scope fp pins s3 (upd H2 D (.lst []))) [] σ' H' s'/\tn i s'.heap/\(∀ b∈fp,H' b=none)/\H' D=some (.lst ys)/\W i n ys σ' H')
   ?step m0 ⟨0,[],_,_,I4,tn4,λ b hb=>(f3 b hb).1,aM,w0⟩
  rintro n s5 ⟨i,ys,σ5,H5,I5,tn5,fr5,d5,w5⟩;rcases turn i n ys σ5 H5 w5 d5 with ⟨stop,q⟩ | ⟨go,stp⟩
  ·refine thn (T.done (cxComp X own fr scope fp pins s3 (upd H2 D (.lst []))) rfl rfl rfl hc i [] s5 σ5 H5 Fls I5 (fpS fr5) tn5 stop) λ r s6 ⟨hr,I6⟩=>.inl ⟨hr,?_⟩;obtain⟨m6,hn6,_⟩:=id I6.loc;have u1:Un (frs X.stack) fp H2 H5 s2.heap s6.heap:=(Un.laid k23 (ubi hD) hD2).trans I6.base;have fC:H5 s3.heap.objs.size=none:=I6.free;have IX:Inv X pins σ H5 s6:=I2.call' (s':=s6) (ch:=fp) (by
    have:=I6.os;rw[← hs3] at this;exact this) u1 I6.hok I6.bare λ b hb=>by
     obtain⟨_,g1,_,g3,g4,g5⟩:=f2 b hb;exact⟨g3,g1,g4,g5⟩
   exact fin s3.heap.objs.size D s6 H5 m6 IX (I2.fpOk (by rw[hD3,hD];exact ubv _) fC) hn6 q
  ·refine thn (T.item (cxComp X own fr scope fp pins s3 (upd H2 D (.lst []))) rfl rfl rfl hc i [] s5 σ5 H5 Fls I5 (fpS fr5) tn5 go) λ r s6 ⟨u,hr,h6⟩=>.inr ⟨u,hr,thn h6 λ _ s7 ⟨x,H7,I7,r7,y7,tn7,fr7⟩=>?_⟩;have I7':=I7.pinned (fpS fr7) (T.obj _ _ tn7);refine thn (hg fp pins s3 (upd H2 D (.lst [])) _ s7 σ5 H7 x u _ I7' r7 (stp x H7 y7)) λ _ s8 ⟨σ8,H8,I8,q8⟩=>?_;refine thn (ht fp pins s3 (upd H2 D (.lst [])) _ s8 σ8 H8 _ I8 q8) λ ok s9 ⟨H9,I9,q9⟩=>?_;have back:∀ {σ':L2.St}{H':Hp}{s':d8},Inv (cxComp X own fr scope fp pins s3 (upd H2 D (.lst []))) ([]++pinsAt fp s7.heap) σ' H' s'->tn (i+1) s'.heap/\∀ b∈fp,H' b=none:=λ {σ' H' s'} J=>by
    refine⟨T.keep _ _ _ tn7 λ b hb o e=>(J.pin (b,o) (r6 _ (r6 _ (dW hb e)))).1,λ b hb=>?_⟩;obtain⟨o,e,_⟩:=T.obj _ _ tn7 b hb;exact (J.pin (b,o) (r6 _ (r6 _ (dW hb e)))).2.1
   cases ok with
   | false =>
    rw[ug8 j9] at q9;obtain⟨d9,m',hm,w9⟩:=q9;rw[ug8 j9];exact⟨m',hm,i+1,ys,σ8,H9,I9.unpinned,(back I9).1,(back I9).2,d9,w9⟩
   | true =>
    rw[ug7 rfl] at q9 ⊢;refine thn (he fp pins s3 (upd H2 D (.lst [])) _ s9 σ8 H9 _ I9 q9) λ xv s10 ⟨v,H10,I10,r10,d10,len,m',hm,w10⟩=>?_;refine thn (eX (X:=cxComp X own fr scope fp pins s3 (upd H2 D (.lst []))) _ s10 σ8 H10 (.ref D) [v] (.ref D) [xv] (λ _ H'=>H'=upd H10 D (.lst (ys++[v]))) I10 rfl (.cons r10 .nil) ⟨D,ys,v,rfl,rfl,d10,len,rfl⟩) λ _ s11 ⟨_,H11,I11,_,e11⟩=>?_;subst e11;exact⟨m',hm,i+1,ys++[v],σ8,_,I11.unpinned,(back I11).1,(back I11).2,aM,w10⟩
 exact codeAny_compStart_list loop (T.self X.A 0 _ _ _ tn4 loop)
theorem bE (hc:X.calm=true)(hi:PI X tg iter wi)(hg:∀ fp pins s3 H3,PG (cxComp X own fr scope fp pins s3 H3) tg g)(ht:∀ fp pins s3 H3,PTs (cxComp X own fr scope fp pins s3 H3) ifs tt)
  (he:∀ fp pins s3 H3,PE (cxComp X own fr scope fp pins s3 H3) elt te) (hok:compOk N sc0 scope fr js=true:=by symm) (hN:X.N=N:=by rfl) (hsc:X.env.scope=sc0:=by rfl)
  (hs:∀ x,foldedSetIterable iter X.env x=pure x:=by intro _;rfl):PE X (.ListComp elt [⟨tg,iter,ifs,0⟩] scope pos) (tComp own js wi g tt te):=by
 intro pins s σ H Q I h;rw[eval_ListComp];refine nB hc hi hg ht he hok hN hsc hs I h λ C D s6 H6 m6 I6 f6 n6 q6=>⟨m6,n6,λ h7 sb=>⟨.ref D,H6,?_,rfl,q6⟩⟩;obtain⟨f0,f1,_,f3,f4,f5⟩:=f6;exact I6.turned (it:=C) (t':=s6.toks) (λ b o hb e=>sb.extBut b o hb e) f0 f1 f3 f4 f5
theorem lS {i:Nat}{y:Str}{py spos:Pos}(hc:X.calm=true)(hi:PI X tg iter wi)(hg:∀ fp pins s3 H3,PG (cxComp X own fr scope fp pins s3 H3) tg g)(ht:∀ fp pins s3 H3,PTs (cxComp X own fr scope fp pins s3 H3) ifs tt)
  (he:∀ fp pins s3 H3,PE (cxComp X own fr scope fp pins s3 H3) elt te) (hNd:X.N.Nodup) (hy:X.N[i]?=some y) (hx:Loc X.env.scope y) (hok:compOk N sc0 scope fr js=true:=by symm) (hN:X.N=N:=by rfl) (hsc:X.env.scope=sc0:=by rfl)
  (hsw:swapsWith (.ListComp elt [⟨tg,iter,ifs,0⟩] scope pos) (some (.Name y py)) spos.line X.env=pure true:=by rfl) (hf:X.fn y=true\/X.env.scope.names.lookup y=some .local:=by first | exact .inl rfl | exact .inr rfl | assumption)
  (hs:∀ x,foldedSetIterable iter X.env x=pure x:=by intro _;rfl):PS X (.Assign [.Name y py] (.ListComp elt [⟨tg,iter,ifs,0⟩] scope pos) spos) (tAsg (tComp own js wi g tt te) (gName i)):=by
 intro pins s σ H D I h;rw[exec_Assign_Name_used _ _ _ _ hsw];refine a8 (udx (a8 ?_));show j7 _ _ (do let _ ← comprehension (.ListComp elt [⟨tg,iter,ifs,0⟩] scope pos) scope X.env _ (newList []) false (eval iter X.env) (some (assign (.Name y py) X.env))) _ _ s;refine a8 (ua9 (nB (use:=some (assign (.Name y py) X.env)) (Qo:=λ _ s'=>SP X pins D .next s') hc hi hg ht he hok hN hsc hs I h λ C L s6 H6 m6 I6 f6 n6 q6=>?_) (λ _ s' q=>c8 (c8 q)) λ _ _ z=>z);obtain⟨f0,f1,f2,f3,f4,f5⟩:=f6;show j7 _ _ (assign (.Name y py) X.env (.ref L)) _ _ s6;refine wpAny_assign_Name (mK I6 hNd hy hx (v:=.ref L) rfl (λ s7 I7 ⟨a,sb,ha⟩=>?_) hf);have ne:C≠a:=by
  rcases ha with e | e
  ·rw[e];exact f1
  ·exact λ z=>f4 y a e z.symm
 refine⟨m6,n6.sameBut sb ne,λ h8 sb8=>⟨σ.set i (some (.ref L)),H6,?_,q6⟩⟩;exact I7.turned (it:=C) (t':=s7.toks) (λ b o hb e=>sb8.extBut b o hb e) f0 f1 f3 f4 f5
end
section
variable {X:Cx}{pins:List (j8 × Obj)}{σ:L2.St}{H H':Hp}{s:d8}{h':Heap}{ch:List j8}{t':Nat}
theorem turnsTo (I:Inv X pins σ H s)(hf:∀ b∈ch,FpOk X pins H b)(k:∀ b o,b∉ch->s.heap.get? b=some o->h'.get? b=some o)(hH:∀ b u,H b=some u->H' b=some u)
  (hfree:∀ b o,s.heap.get? b=some o->H b=none->H' b=none) (hok:HOk X.prog X.w H' h'):Inv X pins σ H' { s with heap:=h',toks:=t' }:=by
 refine I.step (g':=s.gens) (d':=s.drawn) (ch:=ch) (λ b hb=>?_) (λ b o _ _ hc e _=>k b o hc e) (λ b o _ _ hc e _=>⟨o.slots,k b o hc e⟩) (λ b o _ e n=>hfree b o e n) (λ b o hc e=>⟨o,k b o hc e⟩)
  (λ b xs e=>hH _ _ e) (λ b o u e=>hH _ _ e) (λ b ps e=>⟨#[],by rw[hH _ _ e];simp⟩) (λ m hm=>?_) hok I.bare
 ·obtain⟨_,f1,_,f3,f4,f5⟩:=hf b hb;exact⟨f3,f1,f4,f5⟩
 ·obtain⟨o,es,ep,ho,r⟩:=hm;exact⟨o,es,ep,k _ o (λ z=>(hf _ z).2.1 rfl) ho,r⟩
theorem turns (I:Inv X pins σ H s)(hf:∀ b∈ch,FpOk X pins H b)(k:∀ b o,b∉ch->s.heap.get? b=some o->h'.get? b=some o):Inv X pins σ H { s with heap:=h',toks:=t' }:=by
 refine turnsTo I hf k (λ _ _ e=>e) (λ _ _ _ n=>n) λ b u e=>?_;refine (I.hok b u e).stay (λ c v hc q=>k c v (λ z=>?_) q) (λ _ q=>q) λ _ _ q=>q;have n:=(hf c z).1;rcases hc with rfl | hc
 ·rw[n] at e;cases e
 ·rw[n] at hc;cases hc
theorem turnsTup {xs:List V}{its:List c9}{T:j8}(I:Inv X pins σ H s)(hf:∀ b∈ch,FpOk X pins H b)(k:∀ b o,b∉ch->s.heap.get? b=some o->h'.get? b=some o)(hT:s.heap.objs.size<=T)
  (hz:xs.length<=o7) (hv:Vals xs its) (ht:TupN h' T its.toArray):Inv X pins σ (upd H T (.tup xs)) { s with heap:=h',toks:=t' }:=by
 have fr:H T=none:=I.hok.fresh hT;have ne:∀ b u,H b=some u->b≠T:=λ b u e=>aY e fr;refine turnsTo I hf k (λ b u e=>by rw[aJ (ne b u e)];exact e) (λ b o e n=>by rw[aJ (l6 (o0 (i9 e) hT))];exact n) λ b u e=>?_;by_cases hb:b=T
 ·subst hb;rw[aM] at e;cases e;exact⟨hz,its,hv,ht⟩
 ·rw[aJ hb] at e;refine (I.hok b u e).stay (λ c v hc q=>k c v (λ z=>?_) q) (λ c q=>by rw[aJ (ne c _ q)];exact q) λ c ys q=>by rw[aJ (ne c _ q)];exact q
  have n:=(hf c z).1;rcases hc with rfl | hc
  ·rw[n] at e;cases e
  ·rw[n] at hc;cases hc
end
def SqX (t:Bool)(K:b9)(H:Hp)(a:j8)(xs:List V):Prop:=if t=true then SqT K H a xs else SqL K H a xs
section
variable {X:Cx}{pins:List (j8 × Obj)}{σ:L2.St}{H:Hp}{s:d8}{a:j8}{xs ys:List V}{t:Bool}
theorem seqX (I:Inv X pins σ H s)(h:SqX t X.K H a xs):∃ its:List c9,Vals xs its/\Z3.SqAt t s.heap a its.toArray/\xs.length<=o7:=by
 cases t with
 | true=>obtain⟨its,r,p,z⟩:=I.tuple (show SqT X.K H a xs from h);exact⟨its,r,p,z⟩
 | false=>obtain⟨its,r,p,z⟩:=I.list (show SqL X.K H a xs from h);exact⟨its,r,p.isList,z⟩
theorem jA (I:Inv X pins σ H s)(h:SqX t X.K H a xs)(h':SqX t X.K H a ys):xs=ys:=by
 cases t with
 | true=>exact I.tuple_inj h h'
 | false=>exact I.list_inj h h'
end
def Itz (t1 t2:Bool)(K:b9)(l1 l2:j8):It :=
 ⟨λ i H=>∃ xs ys x y,SqX t1 K H l1 xs/\SqX t2 K H l2 ys/\xs[i]?=some x/\ys[i]?=some y,
  λ i H v H'=>∃ T x y,H T=none/\v=.ref T/\H'=upd H T (.tup [x,y])/\(∀ xs,SqX t1 K H l1 xs->xs[i]?=some x)/\(∀ ys,SqX t2 K H l2 ys->ys[i]?=some y),
  λ i H=>∃ xs ys,SqX t1 K H l1 xs/\SqX t2 K H l2 ys/\(xs.length<=i\/ys.length<=i)⟩
theorem zao {P:n0}{w:uak}{K:b9}{elts:List uby}{kk:Nat}{pos:Pos}{t1 t2:Bool}{z TI TO i1 i2 l1 l2:j8}(D:Z3.Ap z TI TO i1 i2)(o1:Z3.Out z TI TO i1 i2 l1)(o2:Z3.Out z TI TO i1 i2 l2) :
  Turn P w K (.Tuple elts kk pos) (Itz t1 t2 K l1 l2) [z,TI,TO,i1,i2] z (λ i h=>Z3.Zd t1 t2 h z TI TO i1 i2 l1 l2 .none i) where
 mem:=by simp
 obj:=λ i h st b hb=>by
  obtain⟨q1,q2,⟨_,_,q3⟩,q4,q5⟩:=st;obtain⟨o4,n4,e4,_,d4⟩:=q4.obj;obtain⟨o5,n5,e5,_,d5⟩:=q5.obj;simp only [j4,m7,or_false] at hb;rcases hb with rfl | rfl | rfl | rfl | rfl
  ·exact⟨_,q1,λ v q=>by cases q⟩
  ·exact⟨_,q2,λ v q=>by cases q⟩
  ·exact⟨_,q3,λ v q=>by cases q⟩
  ·exact⟨_,e4,λ v q=>by rw[d4] at q;cases q⟩
  ·exact⟨_,e5,λ v q=>by rw[d5] at q;cases q⟩
 keep:=λ i h h' st k=>by
  obtain⟨q1,q2,⟨a,b,q3⟩,q4,q5⟩:=st;exact⟨k z (by simp) _ q1,k TI (by simp) _ q2,⟨a,b,k TO (by simp) _ q3⟩,q4.to λ o e=>k i1 (by simp) o e,q5.to λ o e=>k i2 (by simp) o e⟩
 item:=by
  intro X hP hw hK hc i pins s σ H E I hf st hg;subst hP hw hK;obtain⟨xs,ys,x,y,q1,q2,hx,hy⟩:=hg;obtain⟨its1,r1,p1,z1⟩:=seqX I q1;obtain⟨its2,r2,p2,z2⟩:=seqX I q2;obtain⟨u1,hu1,ru1⟩:=r1.get hx;obtain⟨u2,hu2,ru2⟩:=r2.get hy;have hf4:∀ b∈[z,TO,i1,i2],FpOk X pins H b:=λ b hb=>hf b (by
   simp only [j4,m7,or_false] at hb ⊢;rcases hb with rfl | rfl | rfl | rfl <;> simp)
  refine Z3.zC D o1 o2 st p1 p2 (x:=u1) (y:=u2) (by simpa using hu1) (by simpa using hu2) λ h' zd tp sz kp=>?_;have I1 : Inv X pins σ (upd H s.heap.objs.size (.tup [x, y])) { s with heap := h', toks := s.toks } := turnsTup (ch := [z, TO, i1, i2]) (its := [u1, u2]) I hf4 (λ b o hb e => by
      simp only [j4,m7,or_false,not_or] at hb;exact kp b o hb.1 hb.2.1 hb.2.2.1 hb.2.2.2 e) (i6 _) (by show 2<=o7;rw[ucm];decide) (.cons ru1 (.cons ru2 .nil)) ⟨_,tp,rfl,⟨_,rfl⟩,rfl⟩
  have fr:H s.heap.objs.size=none:=I.fresh;have zne:∀ b∈[z,TI,TO,i1,i2],b≠s.heap.objs.size:=λ b hb e=>by
   have key:∃ o,s.heap.get? b=some o:=by
    obtain⟨q1,q2,⟨_,_,q3⟩,q4,q5⟩:=st;obtain⟨o4,n4,e4,_,d4⟩:=q4.obj;obtain⟨o5,n5,e5,_,d5⟩:=q5.obj;simp only [j4,m7,or_false] at hb;rcases hb with rfl | rfl | rfl | rfl | rfl
    ·exact⟨_,q1⟩
    ·exact⟨_,q2⟩
    ·exact⟨_,q3⟩
    ·exact⟨_,e4⟩
    ·exact⟨_,e5⟩
   obtain⟨o,ho⟩:=key;exact absurd (i9 ho) (by rw[e];exact uay _)
  refine⟨A,wpAny_letOwnedTupleGo_zip zd.z λ h2 zd2 sb=>?_⟩;obtain⟨f0,f1,f2,f3,f4,f5⟩:=hf z (by simp);have I2:Inv X pins σ (upd H s.heap.objs.size (.tup [x,y])) { s with heap:=h2,toks:=s.toks }:=Inv.turned (s:={ s with heap:=h',toks:=s.toks }) (it:=z) (t':=s.toks) I1 (λ b o hb e=>sb.extBut b o hb e) (by rw[aJ (zne z (by simp))];exact f0) f1 f3 f4 f5;refine⟨.ref s.heap.objs.size,_,I2,rfl,⟨_,x,y,fr,P,λ zs hz=>by rw[jA I hz q1];exact hx,λ zs hz=>by rw[jA I hz q2];exact hy⟩,?_,λ b hb=>by rw[aJ (zne b hb)];exact (hf b hb).1⟩;obtain⟨_,w2,⟨a3,b3,w3⟩,w4,w5⟩:=zd;exact⟨zd2,sb.extBut _ _ D.n1 w2,⟨a3,b3,sb.extBut _ _ D.n2 w3⟩,w4.to λ o e=>sb.extBut _ _ D.n3 e,w5.to λ o e=>sb.extBut _ _ D.n4 e⟩
 done:=by
  intro X hP hw hK hc i pins s σ H E I hf st hg;subst hP hw hK;obtain⟨xs,ys,q1,q2,hx⟩:=hg;obtain⟨its1,r1,p1,z1⟩:=seqX I q1;obtain⟨its2,r2,p2,z2⟩:=seqX I q2;have l1:=r1.length;have l2:=r2.length;have hf4:∀ b∈[z,TO,i1,i2],FpOk X pins H b:=λ b hb=>hf b (by
   simp only [j4,m7,or_false] at hb ⊢;rcases hb with rfl | rfl | rfl | rfl <;> simp)
  refine Z3.zB (I.ok.hd hc) D o1 o2 st p1 p2 (hx.elim (λ q=>.inl (by simp;left)) λ q=>.inr (by simp;left)) λ h' kp=>⟨rfl,?_⟩;exact turns (ch:=[z,TO,i1,i2]) (t':=s.toks) I hf4 λ b o hb e=>by
   simp only [j4,m7,or_false,not_or] at hb;exact kp b o hb.1 hb.2.1 hb.2.2.1 hb.2.2.2 e
 self:=λ _ _ _ _ _ st h=>wpAny_pyIter_zip st.z h
def iZip (t1 t2:Bool)(K:b9)(ta:TA):TI:=λ σ H R=>ta σ H λ vs H1=>∃ l1 l2,vs=[.ref l1,.ref l2]/\(∃ xs,SqX t1 K H1 l1 xs)/\(∃ ys,SqX t2 K H1 l2 ys)/\R (Itz t1 t2 K l1 l2) H1
theorem kA {X:Cx}{elts:List uby}{kk:Nat}{pos':Pos}(t1 t2:Bool){a b:uby}{ta:TA}{p pos:Pos}(hg:Gl X "zip")(hm:X.mg "zip"=none)(ha:PA X [a,b] ta)
  (hs:uav [a,b] X.env=[(false,eval a X.env),(false,eval b X.env)]:=by rfl) (hs2:uav [b] X.env=[(false,eval b X.env)]:=by rfl) :
  PI X (.Tuple elts kk pos') (.Call (.Name "zip" p) [a,b] [] pos) (iZip t1 t2 X.K ta):=by
 intro pins s σ H R I h;refine Call_ (dQ I hg hm boot_zip (ucv (thn (ha pos pins s σ H _ I h) λ us s1 ⟨vs,H1,I1,r1,q1⟩=>?_) (by rw[hs,hs2]) (by rw[hs2];rfl)));obtain⟨l1,l2,e,⟨xs,qx⟩,⟨ys,qy⟩,q⟩:=q1;subst e;cases r1 with
 | cons r rr =>
  cases rr with
  | cons r' rr =>
   cases rr;cases r;cases r';obtain⟨its1,r1,p1,z1⟩:=seqX I1 qx;obtain⟨its2,r2,p2,z2⟩:=seqX I1 qy;have lt:∀ {t:Bool}{l:j8}{xs:Array c9},Z3.SqAt t s1.heap l xs->l<s1.heap.objs.size:=λ {t l xs} q=>by
    cases t with
    | true=>obtain⟨o,e,_⟩:=(show s1.heap.IsTuple l xs from q);exact i9 e
    | false=>obtain⟨o,e,_⟩:=(show s1.heap.IsList l xs from q);exact i9 e
   refine Z3.zce p1 p2 λ h' zd sz kp=>wpAny_pyIter_zip zd.z ?_;have I2:Inv X pins σ H1 { s1 with heap:=h',toks:=s1.toks }:=I1.kept (t':=s1.toks) kp;refine⟨s1.heap.objs.size+4,[s1.heap.objs.size+4,s1.heap.objs.size+2,s1.heap.objs.size+3,s1.heap.objs.size,s1.heap.objs.size+1],V,H1,rfl,I2,zao (Z3.ze5 _) (Z3.pR (lt p1)) (Z3.pR (lt p2)),zd,λ b hb=>?_,q⟩;have hb':s1.heap.objs.size<=b:=by
    simp only [j4,m7,or_false] at hb;rcases hb with rfl | rfl | rfl | rfl | rfl
    ·exact ud3 _ _
    ·exact ud3 _ _
    ·exact ud3 _ _
    ·exact i6 _
    ·exact ud3 _ _
   exact I1.fpOk hb' (I1.hok.fresh hb')
section
variable {X:Cx}{pos:Pos}
inductive gLst_i (K:b9)(n:Nat)(t:TGs)(v:V)(σ:L2.St)(H:Hp)(Q:L2.St->Hp->Prop):Prop
 | mk:∀ a xs,(v=.ref a)->(SqL K H a xs)->(xs.length=n)->(t xs σ H Q)->gLst_i K n t v σ H Q
def gLst (K:b9)(n:Nat)(t:TGs):TG:=λ v σ H Q=>gLst_i K n t v σ H Q
theorem zei {es:List uby}{k:Nat}{t:TGs}{n:Nat}(hc:X.calm=true)(h:PGs X es t)(hn:(assignEach es X.env).length=n:=by rfl)(hst:(assignEach es X.env).findIdx? (·.1)=none:=by rfl):PG X (.Tuple es k pos) (gLst X.K n t):=by
 intro pins s σ H v u Q I r hw;obtain⟨a,xs,e1,hq,hl,hw⟩:=hw;subst e1;cases r;obtain⟨its,rv,ht,hz⟩:=I.list hq;refine U3.assign_tuple_lst (I.ok.hd hc) ht.isList (by simp [hn,← hl,rv.length]) hst λ h' hx=>?_;have I1:Inv X pins σ H { s with heap:=h' }:=I.kept (t':=s.toks) λ b o e=>hx b o (l6 (i9 e)) e;exact h pins _ σ H xs _ Q I1 (by simpa using rv) hw
theorem zas {prog:n0}{w:uak}{A:uaj}{bs:List Bool}{its:List c9}(r:Vals (bs.map V.bl) its):TruthOf prog w A (λ i v=>its.toArray[i]?=some v) (λ i=>bs.getD i true):=by
 intro i v s Q E hP hq;have hP':its[i]?=some v:=by simpa using hP
 have hl:=r.length;have hi:i<its.length:=(j6.mp hP').1;have hb:i<bs.length:=by rw[i5] at hl;left
 obtain⟨u,hu,ru⟩:=r.get (i:=i) (x:=V.bl bs[i]) (by rw[l7,c7 hb];rfl);rw[hP'] at hu;cases hu;have e:v=Value.bool bs[i]:=ru;subst e;have e2:bs.getD i true=bs[i]:=by simp [uca,hb]
 have hq':Q (bs.getD i true) s:=hq;rw[e2] at hq';exact ubl hq'
theorem zak (bs:List Bool):((d7 bs.length).all λ i=>bs.getD i true)=bs.all id:=by
 rw[uci,uas,uas];constructor
 ·intro h b hb;obtain⟨i,hi,e⟩:=ucz hb;have:=h i (o9.mpr hi);rw[← e];simpa [uca,hi] using this
 ·intro h i hi;have hi':=o9.mp hi;have:=h bs[i] (ubt hi');simpa [uca,hi'] using this
inductive call_all_i (K:b9)(xs:List V)(H:Hp)(Q:VK):Prop
 | mk:∀ (p:j8)(bs:List Bool),(xs=[.ref p])->(SqL K H p (bs.map V.bl))->(Q (.bl (bs.all id)) H)->call_all_i K xs H Q
theorem cX (hh:X.calm=true):CallR X (.builtin "all") (call_all_i X.K):=by
 intro pins s σ H xs us Q I r h;obtain⟨p,bs,rfl,hq,q⟩:=h;obtain⟨u,rfl,rx⟩:=vals1 r;cases rx;obtain⟨its,rv,pl,hz⟩:=I.list hq;have hl:=rv.length;have lt:p≠s.heap.objs.size:=by obtain⟨o,e,_⟩:=pl.isList;exact l6 (i9 e)
 refine call_all_walk (uck pl.isList ?_);have W:=Walks.list (prog:=X.prog) (w:=X.w) (A:=X.A.in1) (show X.A.in1.handled=none from I.ok.hd hh) s.heap.objs.size p lt its.toArray;refine⟨s.heap.objs.size,V,V,_,A,W,⟨⟨_,i7 _ rfl,P⟩,pl.isList.push _⟩,zas rv,λ h' tk hk=>?_⟩;refine⟨.bl (bs.all id),H,I.kept (t':=tk) λ b o e=>hk b o (λ z=>?_) (a9 _ e),?_,q⟩
 ·have:b=s.heap.objs.size:=by simpa using z
  exact absurd (i9 e) (by rw[this];exact uay _)
 ·show Value.bool _=Value.bool _;have e1:its.toArray.size=bs.length:=by rw[j5,← hl,i5]
  rw[e1,zak]
inductive call_isi_i (K:b9)(n:String)(xs:List V)(H:Hp)(Q:VK):Prop
 | mk:∀ x t b,(xs=[x,.ty n])->(TyOf K H x t)->(uds K t (.type n)=some b)->(Q (.bl b) H)->call_isi_i K n xs H Q
theorem eE {n:String}:CallR X (.builtin "isinstance") (call_isi_i X.K n):=by
 intro pins s σ H xs us Q I r h;obtain⟨x,t,b,rfl,ty,e,q⟩:=h;obtain⟨u,c,rfl,ru,rc⟩:=r.two;cases rc;exact zP I ru ty e λ tk=>⟨.bl b,H,I.tok tk,rfl,q⟩
variable {a b c d:uby}{ta tb tc td:TE}
end
mutual
def Is (K:b9)(H:Hp):r8->V->Prop
 | .none,v=>v=.non
 | .bool b,v=>v=.bl b
 | .int i,v=>v=.int i
 | .str x,v=>v=.str x
 | .tuple ds,v=>∃ p vs,v=.ref p/\H p=some (.tup vs)/\IsAll K H ds vs
 | .list ds,v=>∃ p vs,v=.ref p/\H p=some (.lst vs)/\IsAll K H ds vs
 | .dict kvs,v=>kvs=[]/\∃ p,v=.ref p/\H p=some (.dK [])
def IsAll (K:b9)(H:Hp):List r8->List V->Prop
 | [],vs=>vs=[]
 | d::ds,vs=>∃ v r,vs=v::r/\Is K H d v/\IsAll K H ds r
end
section
variable {K:b9}{H H':Hp}
mutual
theorem Is.same (e:Same H H'):∀ (d:r8){v:V},Is K H d v->Is K H' d v
 | .none,_,h=>h
 | .bool _,_,h=>h
 | .int _,_,h=>h
 | .str _,_,h=>h
 | .tuple ds,_,h=>let ⟨p,vs,q1,q2,q3⟩:=h;⟨p,vs,q1,e _ _ q2,IsAll.same e ds q3⟩
 | .list ds,_,h=>let ⟨p,vs,q1,q2,q3⟩:=h;⟨p,vs,q1,e _ _ q2,IsAll.same e ds q3⟩
 | .dict kvs,_,h=>let ⟨q0,p,q1,q2⟩:=h;⟨q0,p,q1,e _ _ q2⟩
theorem IsAll.same (e:Same H H'):∀ (ds:List r8){vs:List V},IsAll K H ds vs->IsAll K H' ds vs
 | [],_,h=>h
 | d::ds,_,h=>let ⟨v,r,q1,q2,q3⟩:=h;⟨v,r,q1,Is.same e d q2,IsAll.same e ds q3⟩
end
theorem IsAll.length:∀ {ds:List r8}{vs:List V},IsAll K H ds vs->vs.length=ds.length
 | [],_,h=>by rw[show _=[] from h];rfl
 | d::ds,_,⟨v,r,q1,q2,q3⟩=>by rw[q1,ubs,ubs,IsAll.length q3]
theorem IsAll.get:∀ {ds:List r8}{vs:List V}{i:Nat}{d:r8},IsAll K H ds vs->ds[i]?=some d->∃ v,vs[i]?=some v/\Is K H d v
 | [],_,_,_,_,e=>by simp at e
 | d::ds,_,0,d',⟨v,r,q1,q2,q3⟩,e=>by
  have e':d=d':=by simpa using e
  subst e';subst q1;exact⟨v,rfl,q2⟩
 | d::ds,_,i+1,_,⟨v,r,q1,q2,q3⟩,e=>by
  subst q1;obtain⟨u,h1,h2⟩:=IsAll.get (i:=i) q3 (by simpa using e);exact⟨u,by simpa using h1,h2⟩
theorem IsAll.get':∀ {ds:List r8}{vs:List V}{i:Nat}{v:V},IsAll K H ds vs->vs[i]?=some v->∃ d,ds[i]?=some d/\Is K H d v
 | [],_,i,v,h,e=>by rw[show _=[] from h] at e;simp at e
 | d::ds,_,0,v,⟨u,r,q1,q2,q3⟩,e=>by
  subst q1;have e':u=v:=by simpa using e
  subst e';exact⟨d,rfl,q2⟩
 | d::ds,_,i+1,v,⟨u,r,q1,q2,q3⟩,e=>by
  subst q1;obtain⟨d',h1,h2⟩:=IsAll.get' (i:=i) q3 (by simpa using e);exact⟨d',by simpa using h1,h2⟩
theorem IsAll.of:∀ {ds:List r8}{vs:List V},vs.length=ds.length->(∀ (i:Nat)(d:r8)(v:V),ds[i]?=some d->vs[i]?=some v->Is K H d v)->IsAll K H ds vs
 | [],[],_,_=>rfl
 | [],_::_,h,_=>by simp at h
 | _::_,[],h,_=>by simp at h
 | d::ds,v::vs,h,q=>⟨v,vs,rfl,q 0 d v rfl rfl,IsAll.of (by simpa using h) λ i d' v' h1 h2=>q (i+1) d' v' (by simpa using h1) (by simpa using h2)⟩
theorem IsAll.append:∀ {ds es:List r8}{vs us:List V},IsAll K H ds vs->IsAll K H es us->IsAll K H (ds++es) (vs++us)
 | [],_,_,_,h,q=>by rw[show _=[] from h];exact q
 | d::ds,_,_,_,⟨v,r,q1,q2,q3⟩,q=>⟨v,r++_,by rw[q1];rfl,q2,IsAll.append q3 q⟩
theorem IsAll.ints (ns:List Int):IsAll K H (ns.map .int) (ns.map V.int):=by
 refine IsAll.of (by simp) λ i d v h1 h2=>?_;rw[l7] at h1 h2;cases e:ns[i]? with
 | none=>rw[e] at h1;cases h1
 | some n=>rw[e] at h1 h2;cases h1;cases h2;exact rfl
theorem IsAll.of_ints:∀ {ns:List Int}{vs:List V},IsAll K H (ns.map .int) vs->vs=ns.map V.int
 | [],_,h=>h
 | n::ns,_,⟨v,r,q1,q2,q3⟩=>by
  have e:v=.int n:=q2;rw[q1,e,IsAll.of_ints q3];rfl
end
section
variable {X:Cx}{pins:List (j8 × Obj)}{σ:L2.St}{H:Hp}{s:d8}
mutual
theorem jB (I:Inv X pins σ H s):∀ (d:r8){v:V}{u:c9},Is X.K H d v->RelV v u->∃ as,Reads s.heap u d as
 | .none,_,_,h,r=>by
  have e:_=V.non:=h;subst e;cases r;exact⟨_,.none⟩
 | .bool b,_,_,h,r=>by
  have e:_=V.bl b:=h;subst e;cases r;exact⟨_,.bool b⟩
 | .int i,_,_,h,r=>by
  have e:_=V.int i:=h;subst e;obtain⟨t,rfl⟩:=r;exact⟨_,.int i t⟩
 | .str x,_,_,h,r=>by
  have e:_=V.str x:=h;subst e;obtain⟨t,rfl⟩:=r;exact⟨_,.str x t⟩
 | .tuple ds,_,_,h,r=>by
  obtain⟨p,vs,rfl,q2,q3⟩:=(show ∃ p vs,_=V.ref p/\H p=some (.tup vs)/\IsAll X.K H ds vs from h);cases r;obtain⟨its,rv,⟨o,e1,e2,n,e3⟩,_⟩:=I.tuple (SqT.of q2);obtain⟨as,ra⟩:=iJ I ds q3 rv;exact⟨_,.tuple e1 e2 e3 (by simpa using ra)⟩
 | .list ds,_,_,h,r=>by
  obtain⟨p,vs,rfl,q2,q3⟩:=(show ∃ p vs,_=V.ref p/\H p=some (.lst vs)/\IsAll X.K H ds vs from h);cases r;obtain⟨its,rv,⟨o,n,e1,e2,_,e3⟩,_⟩:=I.list (SqL.of q2);obtain⟨as,ra⟩:=iJ I ds q3 rv;exact⟨_,.list e1 e2 e3 (by simpa using ra)⟩
 | .dict kvs,_,_,h,r=>by
  obtain⟨e0,p,rfl,q2⟩:=(show kvs=[]/\∃ p,_=V.ref p/\H p=some (.dK []) from h);subst e0;cases r;obtain⟨_,_,vs,kv,o,es,ep,g1,g2,g3,_,g4,_⟩:=(show ObjOk X.prog X.w H s.heap p (.dK []) from I.hok p _ q2);cases kv;have e1:es.toList=[]:=by cases h:es.toList with
   | nil=>rfl
   | cons x r=>rw[h] at g4;cases g4
  exact⟨_,.dict g1 g2.1 g3 (by rw[e1];exact .nil) (by rw[e1];exact .nil)⟩
theorem iJ (I:Inv X pins σ H s):∀ (ds:List r8){vs:List V}{us:List c9},IsAll X.K H ds vs->Vals vs us->∃ as,ReadsAll s.heap us ds as
 | [],_,_,h,r=>by
  have e:_=[]:=h;subst e;cases r;exact⟨_,.nil⟩
 | d::ds,_,_,h,r=>by
  obtain⟨v,vr,rfl,q2,q3⟩:=(show ∃ v r,_=v::r/\Is X.K H d v/\IsAll X.K H ds r from h);cases r with
  | cons r1 r2 =>
   obtain⟨as,a1⟩:=jB I d q2 r1;obtain⟨bs,a2⟩:=iJ I ds q3 r2;exact⟨_,.cons a1 a2⟩
end
inductive op_eqD_i (K:b9)(uu:Nat)(x:V)(y:V)(H:Hp)(Q:VK):Prop
 | mk:∀ da db,(Is K H da x)->(Is K H db y)->(da.canLay0=true)->(db.canLay0=true)->(uu+min da.depth db.depth<cLine)->(Q (.bl (PyData.eqv da db)) H)->op_eqD_i K uu x y H Q
theorem zel:OpR X (compareOp .Eq) (op_eqD_i X.K X.A.units):=by
 intro pins s σ H x y v u Q I rx ry h;obtain⟨da,db,h1,h2,c1,c2,hu,q⟩:=h;obtain⟨as,ra⟩:=jB I da h1 rx;obtain⟨bs,rb⟩:=jB I db h2 ry;exact SeqAt.compareEq_reads ra rb c1 c2 hu (aX I q rfl)
theorem zbx {ys:List V}{its:List c9}(r:Vals ys its){i:Nat}(hi:i<ys.length):RelV (ys.getD i .non) (its.getD i .none):=by
 have hl:=r.length;obtain⟨u,hu,ru⟩:=r.get (i:=i) (x:=ys[i]) (c7 hi);have e1:ys.getD i .non=ys[i]:=by simp [uca,hi]
 have e2:its.getD i .none=u:=by simp [uca,hu]
 rw[e1,e2];exact ru
theorem gJ {ys:List V}{its:List c9}(r:Vals ys its):∀ (l:List Nat),(∀ i∈l,i<ys.length)->Vals (l.map λ i=>ys.getD i .non) (l.map λ i=>its.getD i Value.none)
 | [],_=>.nil
 | i::l,h=>.cons (zbx r (h i j3)) (gJ r l λ j hj=>h j (l9 _ hj))
theorem eQ {n:Nat}{p:Array Nat}(g:Srt.Gd n p):∀ i∈p.toList,i<n:=λ i hi=>by
 have:=g.mem_iff.mp (ue5.mp hi);simpa using this
theorem jW {α:Type}{n:Nat}{p:Array Nat}(g:Srt.Gd n p)(f:Nat->α):(p.toList.map f).Perm ((d7 n).map f):=by
 have h:=Array.perm_iff_toList_perm.mp g;exact (by simpa using h:p.toList.Perm (d7 n)).map f
theorem jM {n:Nat}{p:Array Nat}{r:Nat->Int}{R:Nat->Nat->Prop}(g:Srt.Gd n p)(u:Srt.Up r p n)(h:∀ i j,i<n->j<n->r i<=r j->R i j):p.toList.Pairwise R:=by
 rw[ub5];intro i j hi hj hij;have sz:=g.sz;have hi':i<p.size:=by simpa using hi
 have hj':j<p.size:=by simpa using hj
 have q:=u i j (ue3 hij) (by left);have e:∀ k (hk:k<p.size),p.getD k 0=p[k]:=λ k hk=>by simp [ugp,hk]
 unfold Srt.ky at q;rw[e i hi',e j hj'] at q;have m:∀ k (hk:k<p.size),p[k]<n:=λ k hk=>eQ g _ (by simp);have:=h p[i] p[j] (m i hi') (m j hj') q;simpa using this
theorem bX {α:Type}(l:List α)(d:α):(d7 l.length).map (λ i=>l.getD i d)=l:=by
 refine uep (by simp) λ i h1 h2=>?_;simp [uca,h2]
inductive call_sortedI_i (K:b9)(xs:List V)(H:Hp)(Q:VK):Prop
 | mk:∀ p ns,(xs=[.ref p])->(SqL K H p (ns.map V.int))->(ns.length<64)->(∀ ms:List Int,ms.Perm ns->ms.Pairwise (·<=·)->∀ l,H l=none->Q (.ref l) (upd H l (.lst (ms.map V.int))))->call_sortedI_i K xs H Q
theorem vF:CallR X (.builtin "sorted") (call_sortedI_i X.K):=by
 intro pins s σ H xs us Q I r h;obtain⟨p,ns,rfl,hq,h64,q⟩:=h;obtain⟨u,rfl,rx⟩:=vals1 r;cases rx;obtain⟨its,rv,pl,hz⟩:=I.list hq;have hl:=rv.length;rw[i5] at hl;have hI:IntsAre its ns:=cW rv;have line:(64:Nat)<=o7:=by rw[ucm];decide
 refine Srt.mL (r:=λ i=>ns.getD i 0) (κ:=oneType') pl.isList (by left) (λ h2 A' s' Q' _ q'=>Srt.oO hI h2 q') (λ A' s' i j C _ hi hj q'=>Srt.pY hI hi hj q') λ pp h' c g u kp e=>?_;have g':Srt.Gd ns.length pp:=by rw[hl];exact g
 have u':Srt.Up (λ i=>ns.getD i 0) pp ns.length:=by rw[hl];exact u
 have pm:(pp.toList.map λ i=>ns.getD i 0).Perm ns:=by
  have:=jW g' λ i=>ns.getD i 0;rw[bX] at this;exact this
 have pw:(pp.toList.map λ i=>ns.getD i 0).Pairwise (·<=·):=by
  rw[uce];exact jM g' u' λ i j _ _ z=>z
 have fr:H (s.heap.objs.size+1)=none:=I.hok.fresh (ubv _);have ev:((pp.toList.map λ i=>ns.getD i 0).map V.int)=pp.toList.map λ i=>(ns.map V.int).getD i .non:=by
  rw[ua5];refine ucy λ i hi=>?_;have:=eQ g' i hi;simp [uca,this]
 refine⟨.ref (s.heap.objs.size+1),_,I.laid (a:=s.heap.objs.size+1) (o:=.lst ((pp.toList.map λ i=>ns.getD i 0).map V.int)) (t':=s.toks) kp (ubv _) ⟨?_,Srt.outOf its pp,c,?_,e⟩,rfl,q _ pm pw _ fr⟩
 ·have:=pm.length_eq;rw[i5,this];left
 ·rw[ev];exact gJ rv pp.toList λ i hi=>by rw[i5];exact eQ g' i hi
inductive call_sortedT_i (K:b9)(xs:List V)(H:Hp)(Q:VK):Prop
 | mk:∀ p ys ks,(xs=[.ref p])->(SqL K H p ys)->(ys.length<64)->(Paired (λ (y:V) (k:List Int)=>∃ a,y=.ref a/\SqT K H a (k.map V.int)) ys ks)->((∀ k∈ks,k≠[]))->(∀ qs:List (V × List Int),qs.Perm (ys.zip ks)->qs.Pairwise (λ a b=>Srt.lexI b.2 a.2=false)->∀ l,H l=none->Q (.ref l) (upd H l (.lst (qs.map (·.1)))))->call_sortedT_i K xs H Q
theorem vD:CallR X (.builtin "sorted") (call_sortedT_i X.K):=by
 intro pins s σ H xs us Q I r h;obtain⟨p,ys,ks,rfl,hq,h64,hp,hne,q⟩:=h;obtain⟨u,rfl,rx⟩:=vals1 r;cases rx;obtain⟨its,rv,pl,hz⟩:=I.list hq;have hl:=rv.length;have hlk:ys.length=ks.length:=Paired.length hp;have line:(64:Nat)<=o7:=by rw[ucm];decide
 have hT:∀ {ys:List V}{ks:List (List Int)}{its:List c9},Paired (λ (y:V) (k:List Int)=>∃ a,y=.ref a/\SqT X.K H a (k.map V.int)) ys ks->Vals ys its->Paired (Srt.TupI s.heap) its ks:=by
  intro ys ks its hp;induction hp generalizing its with
  | nil=>intro rv;cases rv;exact .nil
  | cons r t ih =>
   intro rv;cases rv with
   | cons r1 r2 =>
    refine .cons ?_ (ih r2);obtain⟨a,rfl,qa⟩:=r;cases r1;obtain⟨its',rv',⟨o,e1,e2,n,e3⟩,_⟩:=I.tuple qa;exact⟨a,o,its'.toArray,n,rfl,e1,e2,e3,by simpa using cW rv'⟩
 have tp:=hT hp rv;have mono:∀ {h':Heap},(∀ b o,s.heap.get? b=some o->h'.get? b=some o)->Paired (Srt.TupI h') its ks:=λ k=>Paired.mapP tp λ v k' z=>z.to k;refine Srt.mL (r:=Srt.rank its.length λ i j=>Srt.lexI (ks.getD i []) (ks.getD j [])) (κ:=tuples' true) pl.isList (by left) (λ h2 A' s' Q' k q'=>Srt.zaq (mono k) hne h2 q')
  (λ A' s' i j C k hi hj q'=>Srt.zcr (mono k) hi hj (by rw[Srt.pN (lt:=λ i j=>Srt.lexI (ks.getD i []) (ks.getD j [])) (λ i=>Srt.jF _) (λ _ _ _ _ _ _=>Srt.iM _ _ _) (λ _ _ _ _ _ _=>Srt.jE _ _ _) hi hj] at q';exact q')) λ pp h' c g u kp e=>?_
 have fr:H (s.heap.objs.size+1)=none:=I.hok.fresh (ubv _);have pm:(pp.toList.map λ i=>(ys.getD i .non,ks.getD i [])).Perm (ys.zip ks):=by
  have h1:=jW g λ i=>(ys.getD i V.non,ks.getD i []);have e1:(d7 its.length).map (λ i=>(ys.getD i V.non,ks.getD i []))=ys.zip ks:=by
   refine uep (by simp;left) λ i h1 h2=>?_;have hi:i<its.length:=by simpa using h1
   have a1:i<ys.length:=by left
   have a2:i<ks.length:=by left
   simp [uca,a1,a2]
  rw[e1] at h1;exact h1
 have pw:(pp.toList.map λ i=>(ys.getD i V.non,ks.getD i [])).Pairwise (λ a b=>Srt.lexI b.2 a.2=false):=by
  rw[uce];refine jM g u λ i j hi hj z=>?_;have w:=Srt.pN (n:=its.length) (lt:=λ i j=>Srt.lexI (ks.getD i []) (ks.getD j [])) (λ i=>Srt.jF _) (λ _ _ _ _ _ _=>Srt.iM _ _ _) (λ _ _ _ _ _ _=>Srt.jE _ _ _) hj hi;rw[ug5 (by left)] at w;exact w.symm
 have ev:(pp.toList.map λ i=>(ys.getD i V.non,ks.getD i [])).map (·.1)=pp.toList.map λ i=>ys.getD i V.non:=by
  rw[ua5];rfl
 refine⟨.ref (s.heap.objs.size+1),_,I.laid (a:=s.heap.objs.size+1) (o:=.lst ((pp.toList.map λ i=>(ys.getD i V.non,ks.getD i [])).map (·.1))) (t':=s.toks) kp (ubv _) ⟨?_,Srt.outOf its pp,c,?_,e⟩,rfl,q _ pm pw _ fr⟩
 ·have:=pm.length_eq;rw[i5,this,List.length_zip];left
 ·rw[ev];exact gJ rv pp.toList λ i hi=>by have:=eQ g i hi;left
end
def Ok (P:n0)(w:uak)(K:b9)(mg:Str->Option c9)(base:Heap)(k:Nat)(x:Str)(ps:List Str)(sp:Sp):Prop :=
 ∃ (f:j8)(fd:FuncData),FnOk P w K mg base CX0 k f fd ps sp/\Binds K fd ps []/\udc K (.ref f)=true/\mg x=some (.ref f)
def DefOk (K:b9)(mg:Str->Option c9)(x:Str)(st:uc9)(ps:List Str):Prop :=
 ∃ (f:j8)(fd:FuncData),Fun K x x st f fd/\Binds K fd ps []/\mg x=some (.ref f)
section
variable {P:n0}{w:uak}{K:b9}{mg:Str->Option c9}{base:Heap}{x:Str}{ps N:List Str}{sp sp':Sp}{k:Nat}{st:uc9}
theorem Ok.mono {j:Nat}(O:Ok P w K mg base j x ps sp)(h:j<=k):Ok P w K mg base k x ps sp:=let ⟨f,fd,F,r⟩:=O;⟨f,fd,F.mono h,r⟩
theorem Ok.imp (O:Ok P w K mg base k x ps sp)(h:∀ vs H Q E,sp' vs H Q E->sp vs H Q E):Ok P w K mg base k x ps sp':=let ⟨f,fd,F,r⟩:=O;⟨f,fd,F.imp h,r⟩
theorem rO (D:DefOk K mg x st ps)(S:FnScope N ps (defScope st))(len:∀ vs H Q E,sp vs H Q E->vs.length=ps.length)
  (hbody:∀ (f:j8)(cdv:c9)(A:uaj)(outer:List Env)(s:d8)(H:Hp)(vs:List V)(Q:VK)(E:XK),Room k (A.deeper (envOfC x (defScope st) s.heap.objs.size f cdv))->sp vs H Q E ->
   ∃ t,PSs (cxOf CX0 P w K mg base N x (defScope st) f cdv A outer s H E).nox (defBody st) t/\t { nx:=λ _ H'=>Q .non H',rt:=Q } (start N vs) H):Ok P w K mg base (k+1) x ps sp:=by
 obtain⟨f,fd,F,b,m⟩:=D;exact⟨f,fd,F.ok S len (λ cdv A outer s H vs Q E hr h=>hbody f cdv A outer s H vs Q E hr h),b,F.kp,m⟩
theorem aG {X:Cx}{p pos:Pos}{e:uby}{es:List uby}{t:TA}(O:Ok X.prog X.w X.K X.mg X.base k x ps sp)(hr:Room k X.A)(hg:Gl X x)(ha:PA X (e::es) t)
  (hdb:(x==("__debug__":Str))=false:=by decide) (he:uav (e::es) X.env=(false,eval e X.env)::uav es X.env:=by rfl) (hpl:(backTo pos (uav es X.env)).any (·.1)=false:=by rfl) :
  PE X (.Call (.Name x p) (e::es) [] pos) (tCall sp [] E0 t):=by
 obtain⟨f,fd,F,b,kp,m⟩:=O;exact jQ F hr hg m kp b .nil pass0 ha hdb he hpl
end
structure Bi (mg:Str->Option c9):Prop where
 z_len:mg "len"=none
 z_range:mg "range"=none
 z_zip:mg "zip"=none
 z_all:mg "all"=none
 z_sorted:mg "sorted"=none
 z_isinstance:mg "isinstance"=none
 z_min:mg "min"=none
 z_max:mg "max"=none
 z_tuple:mg "tuple"=none
 z_list:mg "list"=none
 z_int:mg "int"=none
 z_bool:mg "bool"=none
 z_str:mg "str"=none
 z_enumerate:mg "enumerate"=none
 z_sum:mg "sum"=none
 z_abs:mg "abs"=none
 z_set:mg "set"=none
 z_reversed:mg "reversed"=none
 z_any:mg "any"=none
 z_repr:mg "repr"=none
 z_dict:mg "dict"=none
def But (p:j8)(H H':Hp):Prop:=∀ b o,b≠p->H b=some o->H' b=some o
section
variable {K:b9}{H H1 H2:Hp}{p a:j8}{o:HO}{xs ys:List V}
theorem But.refl:But p H H:=λ _ _ _ h=>h
theorem But.trans (a:But p H H1)(b:But p H1 H2):But p H H2:=λ c o n h=>b c o n (a c o n h)
theorem But.upd:But p H (upd H p o):=λ b u n h=>by rw[aJ n];exact h
theorem Same.but (h:Same H H1):But p H H1:=λ b o _ q=>h b o q
theorem But.new (h:H a=none):But p H (L2.upd H a o):=λ b u _ q=>by rw[aJ (aY q h)];exact q
theorem aP (h:H a=none):Same H (upd H a o):=λ b u q=>by rw[aJ (aY q h)];exact q
end
mutual
def tupD:r8->Bool
 | .none | .bool _ | .int _ | .str _=>true
 | .tuple ds=>tupAll ds
 | .list _ | .dict _=>false
def tupAll:List r8->Bool
 | []=>true
 | d::ds=>tupD d&&tupAll ds
end
mutual
theorem Is.but {K:b9}{H H':Hp}{p:j8}{xs:List V}(e:But p H H')(hp:H p=some (.lst xs)):∀ (d:r8){v:V},tupD d=true->Is K H d v->Is K H' d v
 | .none,_,_,h=>h
 | .bool _,_,_,h=>h
 | .int _,_,_,h=>h
 | .str _,_,_,h=>h
 | .tuple ds,_,t,h=>let ⟨q,vs,q1,q2,q3⟩:=h;⟨q,vs,q1,e _ _ (λ z=>by subst z;rw[hp] at q2;cases q2) q2,IsAll.but e hp ds t q3⟩
 | .list ds,_,t,h=>by cases t
 | .dict _,_,t,h=>by cases t
theorem IsAll.but {K:b9}{H H':Hp}{p:j8}{xs:List V}(e:But p H H')(hp:H p=some (.lst xs)):∀ (ds:List r8){vs:List V},tupAll ds=true->IsAll K H ds vs->IsAll K H' ds vs
 | [],_,_,h=>h
 | d::ds,_,t,h=>by
  have t':(tupD d&&tupAll ds)=true:=t;rw[uaa] at t';obtain⟨v,r,q1,q2,q3⟩:=h;exact⟨v,r,q1,Is.but e hp d t'.1 q2,IsAll.but e hp ds t'.2 q3⟩
end
def Pot (H:Hp)(p:j8):Prop:=∃ a b:Int,H p=some (.lst [.int a,.int b])/\0<=a/\0<=b/\b<2147483647
theorem Pot.lst {H:Hp}{p:j8}(h:Pot H p):∃ xs,H p=some (.lst xs):=let ⟨a,b,e,_⟩:=h;⟨_,e⟩
def spPot (K:b9):Sp:=λ vs H Q _=>∃ a k,∃ ns:List Int,vs=[.ref a,.int k]/\SqL K H a (ns.map V.int)/\0<=k/\k<=100/\∀ l H',Same H H'->H l=none->Pot H' l->Q (.ref l) H'
def spTake:Sp:=λ vs H Q _=>∃ p m,vs=[.ref p,.int m]/\Pot H p/\0<m/\m<1073741824/\∀ r H',0<=r->r<m->But p H H'->Pot H' p->Q (.int r) H'
def spLength:Sp:=λ vs H Q _=>∃ p y,vs=[.ref p,.int y]/\Pot H p/\0<=y/\y<5/\∀ r H',1<=r->r<=10^18->But p H H'->Pot H' p->Q (.int r) H'
def spTied:Sp:=λ vs H Q _=>∃ p n y a b,vs=[.ref p,.int n,.int y,.int a,.int b]/\Pot H p/\∀ k H',But p H H'->Pot H' p->Q (.bl k) H'
def spOrder:Sp:=λ vs H Q _=>∃ p m,vs=[.ref p,.int m]/\Pot H p/\0<=m/\m<=1000/\∀ l H' (ms:List Int),But p H H'->Pot H' p->H l=none->l≠p->H' l=some (.lst (ms.map V.int))->ms.Perm ((d7 m.toNat).map λ i:Nat=>(i:Int))->Q (.ref l) H'
abbrev Tie:=Int × Int × Int
def tieI (t:Tie):List Int:=[t.1,t.2.1,t.2.2]
def tieD (t:Tie):r8:=.tuple ((tieI t).map .int)
def webD (n:Int)(ties:List Tie):r8:=.tuple [.int n,.tuple (ties.map tieD)]
def endLt (s t:Tie):Prop:=s.1<t.1\/(s.1=t.1/\s.2.1<t.2.1)
structure WebOk (n:Int)(ties:List Tie):Prop where
 n1:1<=n
 n24:n<=24
 rise:ties.Pairwise endLt
 few:ties.length<=60
 tie:∀ t∈ties,0<=t.1/\t.1<t.2.1/\t.2.1<n/\1<=t.2.2/\t.2.2<=10^18
def spWeb (K:b9):Sp:=λ vs H Q _=>∃ p m,vs=[.ref p,.int m]/\Pot H p/\1<=m/\m<=24/\∀ v H' n ties,But p H H'->Pot H' p->WebOk n ties->n<=m->Is K H' (webD n ties) v->Q v H'
end L3
namespace L3
structure Grown (n:Nat)(ms:List Int)(b a:Nat)(ties:List Tie):Prop where
 few:ties.length<=60
 ok:∀ t∈ties,0<=t.1/\t.1<t.2.1/\t.2.1<(n:Int)/\1<=t.2.2/\t.2.2<=10^18
 of:∀ t∈ties,∃ a' b':Nat,a'<b'/\b'<n/\(b'<b\/(b'=b/\a'<a))/\((t.1=ms.getD a' 0/\t.2.1=ms.getD b' 0)\/(t.1=ms.getD b' 0/\t.2.1=ms.getD a' 0))
 nd:ties.Pairwise λ s t=>¬ (s.1=t.1/\s.2.1=t.2.1)
theorem Grown.start {n:Nat}{ms:List Int}:Grown n ms 0 0 []:=⟨x8 _,(λ t h=>by cases h),(λ t h=>by cases h),ueu⟩
theorem Grown.down {n:Nat}{ms:List Int}{b:Nat}{ties:List Tie}(g:Grown n ms b b ties):Grown n ms (b+1) 0 ties :=
 ⟨g.few,g.ok,λ t h=>by
  obtain⟨a',b',h1,h2,h3,h4⟩:=g.of t h;exact⟨a',b',h1,h2,.inl (by left),h4⟩,g.nd⟩
theorem Grown.skip {n:Nat}{ms:List Int}{b a:Nat}{ties:List Tie}(g:Grown n ms b a ties):Grown n ms b (a+1) ties :=
 ⟨g.few,g.ok,λ t h=>by
  obtain⟨a',b',h1,h2,h3,h4⟩:=g.of t h;exact⟨a',b',h1,h2,by left,h4⟩,g.nd⟩
structure Perm0 (n:Nat)(ms:List Int):Prop where
 len:ms.length=n
 lo:∀ i,i<n->0<=ms.getD i 0/\ms.getD i 0<(n:Int)
 inj:∀ i j,i<n->j<n->ms.getD i 0=ms.getD j 0->i=j
theorem Perm0.of {n:Nat}{ms:List Int}(h:ms.Perm ((d7 n).map λ i:Nat=>(i:Int))):Perm0 n ms:=by
 have hl:ms.length=n:=by simpa using h.length_eq
 have nd:ms.Nodup:=(h.nodup_iff).mpr (by
  rw[uan,uce];exact (List.nodup_range (n:=n)).imp λ h z=>h (by left))
 refine⟨hl,λ i hi=>?_,λ i j hi hj e=>?_⟩
 ·have e:ms.getD i 0=ms[i]:=by simp [uca,show i<ms.length by left]
  have m:ms[i]'(by left)∈(d7 n).map λ i:Nat=>(i:Int):=h.mem_iff.mp (ubt _);rw[e];obtain⟨k,hk,ek⟩:=ubx.mp m;have:=o9.mp hk;left
 ·have e1:ms.getD i 0=ms[i]:=by simp [uca,show i<ms.length by left]
  have e2:ms.getD j 0=ms[j]:=by simp [uca,show j<ms.length by left]
  rw[e1,e2] at e;exact (List.getElem_inj nd).mp e
theorem Grown.add {n:Nat}{ms:List Int}{b a:Nat}{ties:List Tie}{x y l:Int}(g:Grown n ms b a ties)(pm:Perm0 n ms)(ha:a<b)(hb:b<n)(hf:ties.length<60)(hl:1<=l)(hl2:l<=10^18)
  (hxy:(x=ms.getD a 0/\y=ms.getD b 0)\/(x=ms.getD b 0/\y=ms.getD a 0)) (hle:x<=y):Grown n ms b (a+1) (ties++[(x,y,l)]):=by
 have han:=ue2 ha hb;have la:=pm.lo a han;have lb:=pm.lo b hb;have ne:ms.getD a 0≠ms.getD b 0:=λ e=>l6 ha (pm.inj a b han hb e);refine⟨by rw[i8,k9];exact hf,λ t ht=>?_,λ t ht=>?_,?_⟩
 ·rcases w8.mp ht with h | h
  ·exact g.ok t h
  ·have e:t=(x,y,l):=l8.mp h;subst e;refine⟨?_,?_,?_,hl,hl2⟩
   ·show 0<=x;rcases hxy with ⟨q1,q2⟩ | ⟨q1,q2⟩
    ·rw[q1];exact la.1
    ·rw[q1];exact lb.1
   ·show x<y;refine Int.lt_iff_le_and_ne.mpr ⟨hle,λ z=>?_⟩;rcases hxy with ⟨q1,q2⟩ | ⟨q1,q2⟩
    ·exact ne (q1.symm.trans (z.trans q2))
    ·exact ne (q2.symm.trans (z.symm.trans q1))
   ·show y<(n:Int);rcases hxy with ⟨q1,q2⟩ | ⟨q1,q2⟩
    ·rw[q2];exact lb.2
    ·rw[q2];exact la.2
 ·rcases w8.mp ht with h | h
  ·obtain⟨a',b',h1,h2,h3,h4⟩:=g.of t h;exact⟨a',b',h1,h2,h3.imp id λ z=>⟨z.1,ubf z.2⟩,h4⟩
  ·have e:t=(x,y,l):=l8.mp h;subst e;exact⟨a,b,ha,hb,.inr ⟨rfl,ubu _⟩,hxy⟩
 ·rw[ucb];refine⟨g.nd,ug0 _ _,λ t ht u hu=>?_⟩;have e:u=(x,y,l):=l8.mp hu;subst e;rintro ⟨e1,e2⟩;obtain⟨a',b',h1,h2,h3,h4⟩:=g.of t ht;have e1':t.1=x:=e1;have e2':t.2.1=y:=e2;have h1n:=ue2 h1 h2;have fin:a'=a->b'=b->False:=λ ea eb=>h3.elim (λ z=>l6 z eb) λ z=>l6 z.2 ea;have fin2:a'=b->b'=a->False:=λ ea eb=>Nat.lt_asymm ha (by rw[← ea,← eb];exact h1);rcases h4 with ⟨p1,p2⟩ | ⟨p1,p2⟩ <;> rcases hxy with ⟨q1,q2⟩ | ⟨q1,q2⟩
  ·exact fin (pm.inj a' a h1n han (p1.symm.trans (e1'.trans q1))) (pm.inj b' b h2 hb (p2.symm.trans (e2'.trans q2)))
  ·exact fin2 (pm.inj a' b h1n hb (p1.symm.trans (e1'.trans q1))) (pm.inj b' a h2 han (p2.symm.trans (e2'.trans q2)))
  ·exact fin2 (pm.inj a' b h1n hb (p2.symm.trans (e2'.trans q2))) (pm.inj b' a h2 han (p1.symm.trans (e1'.trans q1)))
  ·exact fin (pm.inj a' a h1n han (p2.symm.trans (e2'.trans q2))) (pm.inj b' b h2 hb (p1.symm.trans (e1'.trans q1)))
theorem zc3 {ts:List Tie}(h:ts.Pairwise λ a b=>Srt.lexI (tieI b) (tieI a)=false)(nd:ts.Pairwise λ s t=>¬ (s.1=t.1/\s.2.1=t.2.1)):ts.Pairwise endLt:=by
 refine (h.and nd).imp λ {a b} hab=>?_;obtain⟨h1,h2⟩:=hab;obtain⟨a1,a2,a3⟩:=a;obtain⟨b1,b2,b3⟩:=b;simp only [tieI,Srt.lexI] at h1;show a1<b1\/(a1=b1/\a2<b2);have h2':¬ (a1=b1/\a2=b2):=h2;by_cases e1:b1=a1
 ·rw[ug7 e1] at h1;by_cases e2:b2=a2
  ·exact absurd ⟨e1.symm,e2.symm⟩ h2'
  ·rw[ug8 e2] at h1;have:=ug6 h1;exact .inr ⟨e1.symm,by left⟩
 ·rw[ug8 e1] at h1;have:=ug6 h1;exact .inl (by left)
end L3
namespace L3
open PySem PySem.Spec PyProof.Rows L2
section
variable {X:Cx}{pos:Pos}
theorem pT:OpR X (binaryOp .Mult) (rI (λ i j=>IntMulOk i j) λ i j=>.int (i*j)):=opI λ _ _ _ _ _ _ _ hc q=>mul_int q hc
theorem mulB:IntMulOk ((10:Int)^(60:Int).toNat) ((10:Int)^(60:Int).toNat):=IntMulOk.of_bits (by symm) (by symm)
theorem mulB2:IntMulOk ((10:Int)^(60:Int).toNat*(10:Int)^(60:Int).toNat) ((10:Int)^(60:Int).toNat):=IntMulOk.of_bits (by symm) (by symm)
theorem posB:(0:Int)<(10:Int)^(60:Int).toNat*(10:Int)^(60:Int).toNat*(10:Int)^(60:Int).toNat:=by symm
inductive call_range_i  (xs:List V) (H:Hp) (Q:VK):Prop
 | mk:∀ (j:Int),(xs=[.int j])->(∀ p,H p=none->Q (.ref p) (upd H p (.rng 0 j)))->call_range_i xs H Q
theorem eW:CallR X (.type "range") (call_range_i):=by
 intro pins s σ H xs us Q I r h;obtain⟨j,rfl,q⟩:=h;obtain⟨u,rfl,t,rfl⟩:=vals1 r;refine call_range_1 ⟨.ref s.heap.objs.size,_,I.laid (a:=s.heap.objs.size) (o:=.rng 0 j) (λ b o e=>a9 _ e) (i6 _) ⟨_,_,_,i7 _ rfl⟩,rfl,q _ I.fresh⟩
inductive call_list_rng_i  (xs:List V) (H:Hp) (Q:VK):Prop
 | mk:∀ (p:j8)(j:Int),(xs=[.ref p])->(H p=some (.rng 0 j))->(0<=j)->(j<=1000)->(∀ l,H l=none->Q (.ref l) (upd H l (.lst ((d7 j.toNat).map λ i:Nat=>V.int (i:Int)))))->call_list_rng_i xs H Q
theorem uM (hh:X.calm=true):CallR X (.type "list") (call_list_rng_i):=by
 intro pins s σ H xs us Q I r h;obtain⟨p,j,rfl,hp,hj0,hj,q⟩:=h;obtain⟨u,rfl,rx⟩:=vals1 r;cases rx;obtain⟨t,u,v,e⟩:=(show ObjOk X.prog X.w H s.heap p (.rng 0 j) from I.hok p _ hp);refine call_list_range (n:=j.toNat) (I.ok.hd hh) (show IsRange s.heap p 0 j 1 t u v from e) (small_one (by left) (by left) (by left) (by left)) (by rw[rangeSize_one];split <;> left) (by left) λ h' tk acc c hk hS hacc=>?_;refine⟨.ref s.heap.objs.size,_,I.laid (a:=s.heap.objs.size) (o:=.lst ((d7 j.toNat).map λ i:Nat=>V.int (i:Int))) (t':=tk) hk (i6 _) ⟨?_,acc.toList,c,?_,by simpa using hS⟩,rfl,q _ I.fresh⟩
 ·rw[i5,t5,ucm];left
 ·have go:∀ (n:Nat)(l:List c9),l.length=n->(∀ (k:Nat)(v:c9),l[k]?=some v->∃ t,v=Value.int (0+(k:Int)*1) t)->Vals ((d7 n).map λ i:Nat=>V.int (i:Int)) l:=by
   intro n l hl hv;have gen:∀ (l:List c9)(o:Nat),(∀ (k:Nat)(v:c9),l[k]?=some v->∃ t,v=Value.int ((o+k:Nat):Int) t)->Vals ((List.range' o l.length).map λ i:Nat=>V.int (i:Int)) l:=by
    intro l;induction l with
    | nil=>intro o _;exact .nil
    | cons x r ih =>
     intro o h;rw[ubs,List.range'_succ,ua8];obtain⟨t,ht⟩:=h 0 x rfl;refine .cons ⟨t,by simpa using ht⟩ (ih (o+1) λ k v hk=>?_);obtain⟨t,ht⟩:=h (k+1) v (by simpa using hk);exact⟨t,by rw[ht];congr 1;left⟩
   have:=gen l 0 λ k v hk=>by
    obtain⟨t,ht⟩:=hv k v hk;exact⟨t,by rw[ht];congr 1;left⟩
   rw[hl] at this;rw[List.range_eq_range'];exact this
  refine go _ _ (by simpa using hacc.1) λ k v hk=>hacc.2 k v (by simpa using hk)
end
theorem mC {α:Type}:∀ (l:List α)(k:Nat)(h:k<l.length),(l[k]::l.eraseIdx k).Perm l
 | [],k,h=>absurd h (ud8 _)
 | a::l,0,_=>List.Perm.refl _
 | a::l,k+1,h=>by
  have h':k<l.length:=by simpa using h
  show (l[k]::a::l.eraseIdx k).Perm (a::l);exact (List.Perm.swap a l[k] _).trans ((mC l k h').cons a)
theorem mS {α β:Type}(f:α->β):∀ (l:List α)(k:Nat),(l.eraseIdx k).map f=(l.map f).eraseIdx k
 | [],_=>rfl
 | _::_,0=>rfl
 | a::l,k+1=>by
  show f a::(l.eraseIdx k).map f=f a::(l.map f).eraseIdx k;rw[mS f l k]
def TieL (H:Hp)(ys:List V)(ts:List Tie):Prop:=Paired (λ (y:V) (t:Tie)=>∃ a,y=.ref a/\H a=some (.tup ((tieI t).map V.int))) ys ts
theorem TieL.keep {H H':Hp}{ys:List V}{ts:List Tie}(h:TieL H ys ts)(k:∀ a xs,H a=some (.tup xs)->H' a=some (.tup xs)):TieL H' ys ts :=
 Paired.mapP h λ y t ⟨a,e1,e2⟩=>⟨a,e1,k _ _ e2⟩
theorem TieL.snoc {H:Hp}{ys:List V}{ts:List Tie}{a:j8}{t:Tie}(h:TieL H ys ts)(e:H a=some (.tup ((tieI t).map V.int))):TieL H (ys++[.ref a]) (ts++[t]):=Paired.snoc h ⟨a,rfl,e⟩
theorem lV {α β γ:Type}{F:β->γ->Prop}(f:α->β)(g:α->γ):∀ {l:List α},(∀ x∈l,F (f x) (g x))->Paired F (l.map f) (l.map g)
 | [],_=>.nil
 | x::l,h=>.cons (h x j3) (lV f g λ y hy=>h y (l9 _ hy))
theorem lU {α β γ:Type}{F:α->β->Prop}{f:β->γ}:∀ {l:List α}{r:List β},Paired F l r->∀ q∈l.zip (r.map f),∃ b,q.2=f b/\F q.1 b
 | _,_,.nil,q,h=>by cases h
 | _,_,.cons (a:=a) (b:=b) x t,q,h=>by
  rw[ua8,uec] at h;rcases j4.mp h with e | h
  ·subst e;exact⟨b,rfl,x⟩
  ·exact lU t q h
theorem lL {F:V->Tie->Prop}{G:V->List Int->Prop}(h:∀ y t,F y t->G y (tieI t)):∀ {ys:List V}{ts:List Tie},Paired F ys ts->Paired G ys (ts.map tieI)
 | _,_,.nil=>.nil
 | _,_,.cons x t=>.cons (h _ _ x) (lL h t)
def tieOf:List Int->Tie
 | [a,b,c]=>(a,b,c)
 | _=>(0,0,0)
theorem zcv (t:Tie):tieOf (tieI t)=t:=rfl
theorem zct {H:Hp}{ys:List V}{ts:List Tie}(h:TieL H ys ts){qs:List (V × List Int)}(p:qs.Perm (ys.zip (ts.map tieI)))(w:qs.Pairwise λ a b=>Srt.lexI b.2 a.2=false) :
  ∃ ts':List Tie,ts'.Perm ts/\TieL H (qs.map (·.1)) ts'/\ts'.Pairwise λ a b=>Srt.lexI (tieI b) (tieI a)=false:=by
 have mem:∀ q∈qs,∃ t,q.2=tieI t/\∃ a,q.1=.ref a/\H a=some (.tup ((tieI t).map V.int)):=λ q hq=>lU h q (p.mem_iff.mp hq);have back:∀ q∈qs,tieI (tieOf q.2)=q.2:=λ q hq=>by
  obtain⟨t,e,_⟩:=mem q hq;rw[e];rfl
 refine⟨qs.map λ q=>tieOf q.2,?_,lV _ _ λ q hq=>?_,?_⟩
 ·have e1:(qs.map λ q=>tieOf q.2).Perm ((ys.zip (ts.map tieI)).map λ q=>tieOf q.2):=p.map _;have e2:(ys.zip (ts.map tieI)).map (λ q=>tieOf q.2)=ts:=by
   have l:ys.length=(ts.map tieI).length:=by rw[i5];exact Paired.length h
   have:(ys.zip (ts.map tieI)).map (λ q=>tieOf q.2)=((ys.zip (ts.map tieI)).map (·.2)).map tieOf:=by rw[ua5];rfl
   rw[this,List.map_snd_zip (ubi l.symm),ua5];exact (ucy λ t _=>zcv t).trans (List.map_id _)
  rw[e2] at e1;exact e1
 ·obtain⟨t,e,a,ea,eh⟩:=mem q hq;refine⟨a,ea,?_⟩;rw[back q hq,e];exact eh
 ·rw[uce];refine w.imp_of_mem λ {a b} ha hb z=>?_;rw[back a ha,back b hb];exact z
theorem TieL.is {K:b9}{H:Hp}:∀ {ys:List V}{ts:List Tie},TieL H ys ts->IsAll K H (ts.map tieD) ys
 | _,_,.nil=>rfl
 | _,_,.cons (a:=y) (b:=t) ⟨a,e1,e2⟩ r=>⟨_,_,rfl,⟨a,_,e1,e2,IsAll.ints _⟩,TieL.is r⟩
theorem xC {x y:Int}{ms:List Int}(p:ms.Perm [x,y])(w:ms.Pairwise (·<=·)):∃ a b,ms=[a,b]/\a<=b/\((a=x/\b=y)\/(a=y/\b=x)):=by
 have hl:=p.length_eq
 match ms,hl,p,w with
 | [a,b],_,p,w =>
  refine⟨a,b,rfl,by simpa using w,?_⟩;have ha:a∈[x,y]:=p.mem_iff.mp (by simp);rcases j4.mp ha with e | e
  ·subst e;have:=(List.perm_cons a).mp p;have e2:b=y:=by simpa using List.perm_singleton.mp this
   exact .inl ⟨rfl,e2⟩
  ·have e':a=y:=by simpa using e
   subst e';have p2:[a,b].Perm [a,x]:=p.trans (List.Perm.swap a x []);have:=(List.perm_cons a).mp p2;have e2:b=x:=by simpa using List.perm_singleton.mp this
   exact .inr ⟨rfl,e2⟩
def TupKeep (H H':Hp):Prop:=∀ a xs,H a=some (.tup xs)->H' a=some (.tup xs)
section
variable {J:It}{g:TG}{te:TE}{own:List Str}{js:List Nat}{σ:L2.St}{H1:Hp}{Q:VK}
theorem fG (n:Nat)(Sg:L2.St->Prop)(R:Nat->V->Hp->Prop)(hn:n<=1000)(h0:Sg (start3 own js σ))(mono:∀ i v H H',TupKeep H H'->R i v H->R i v H')
  (go:∀ i H',i<n->Same H1 H'->J.go i H') (stop:∀ H',Same H1 H'->J.stop n H')
  (step:∀ i x σ' H' H2,i<n->Same H1 H'->J.yld i H' x H2->Sg σ'->∀ C:L2.St->V->Hp->Prop,(∀ σ3 v H5,Sg σ3->Same H' H5->R i v H5->C σ3 v H5)->g x σ' H2 λ σ3 H3=>te σ3 H3 λ v H5=>C σ3 v H5)
  (fin:∀ D ys H',H1 D=none->Same H1 H'->H' D=some (.lst ys)->ys.length=n->(∀ i v,ys[i]?=some v->R i v H')->Q (.ref D) H'):CompGo own js g tTrue te σ Q J H1:=by
 intro D hD;refine⟨λ i m ys σ' H'=>m=n-i/\i<=n/\Sg σ'/\Same H1 H'/\ys.length=i/\∀ j v,ys[j]?=some v->R j v H',⟨n,rfl,x8 _,h0,aP hD,rfl,λ j v e=>by simp at e⟩,?_⟩;rintro i m ys σ' H' ⟨rfl,hi,sg,sm,hl,hr⟩ hd;by_cases hlt:i<n
 ·refine .inr ⟨go i H' hlt sm,λ x H2 hy=>?_⟩;refine step i x σ' H' H2 hlt sm hy sg (λ σ3 v H5=>H5 D=some (.lst ys)/\ys.length<o7/\∃ m',m'<n-i/\(m'=n-(i+1)/\i+1<=n/\Sg σ3/\Same H1 (upd H5 D (.lst (ys++[v])))/\(ys++[v]).length=i+1/\∀ j u,(ys++[v])[j]?=some u->R j u (upd H5 D (.lst (ys++[v]))))) λ σ3 v H5 sg3 s5 r5=>?_;have hd5:=s5 _ _ hd;refine⟨hd5,ubn (by left:ys.length<=1000) (by decide),n-(i+1),by left,rfl,hlt,sg3,λ b o e=>?_,by rw[i8,k9,hl],λ j u e=>?_⟩
  ·rw[aJ (aY e hD)];exact s5 _ _ (sm _ _ e)
  ·have tk5:TupKeep H5 (upd H5 D (.lst (ys++[v]))):=λ a xs e=>by rw[aJ (λ z=>by rw[z,hd5] at e;cases e)];exact e
   by_cases hj:j<ys.length
   ·rw[ubd hj] at e;exact mono _ _ _ _ tk5 (mono _ _ _ _ (λ a xs z=>s5 _ _ z) (hr j u e))
   ·rw[uat (by left)] at e;have ej:j=ys.length:=by
     have:=(j6.mp e).1;simp at this;left
    subst ej;have eu:v=u:=by simpa using e
    subst eu;rw[hl];exact mono _ _ _ _ tk5 r5
 ·have e:i=n:=by left
  subst e;exact .inl ⟨stop H' sm,fin D ys H' hD sm hd hl hr⟩
theorem eB {K:b9}{a:j8}{xs:List V}(hx:H1 a=some (.tup xs))(Sg:L2.St->Prop)(R:Nat->V->Hp->Prop)(hn:xs.length<=1000)(h0:Sg (start3 own js σ))(mono:∀ i v H H',TupKeep H H'->R i v H->R i v H')
  (step:∀ i x σ' H',xs[i]?=some x->Same H1 H'->Sg σ'->∀ C:L2.St->V->Hp->Prop,(∀ σ3 v H5,Sg σ3->Same H' H5->R i v H5->C σ3 v H5)->g x σ' H' λ σ3 H3=>te σ3 H3 λ v H5=>C σ3 v H5)
  (fin:∀ D ys H',H1 D=none->Same H1 H'->H' D=some (.lst ys)->ys.length=xs.length->(∀ i v,ys[i]?=some v->R i v H')->Q (.ref D) H'):CompGo own js g tTrue te σ Q (Itt K a) H1:=by
 refine fG xs.length Sg R hn h0 mono (λ i H' hi s=>⟨xs,xs[i],SqT.of (s _ _ hx),by simp [hi]⟩) (λ H' s=>⟨xs,SqT.of (s _ _ hx),i6 _⟩) (λ i x σ' H' H2 hi s hy sg C hC=>?_) fin;obtain⟨rfl,hy⟩:=hy;exact step i x σ' _ (hy xs (SqT.of (s _ _ hx))) s sg C hC
theorem jJ {K:b9}{a:j8}{xs:List V}(hx:H1 a=some (.lst xs))(Sg:L2.St->Prop)(R:Nat->V->Hp->Prop)(hn:xs.length<=1000)(h0:Sg (start3 own js σ))(mono:∀ i v H H',TupKeep H H'->R i v H->R i v H')
  (step:∀ i x σ' H',xs[i]?=some x->Same H1 H'->Sg σ'->∀ C:L2.St->V->Hp->Prop,(∀ σ3 v H5,Sg σ3->Same H' H5->R i v H5->C σ3 v H5)->g x σ' H' λ σ3 H3=>te σ3 H3 λ v H5=>C σ3 v H5)
  (fin:∀ D ys H',H1 D=none->Same H1 H'->H' D=some (.lst ys)->ys.length=xs.length->(∀ i v,ys[i]?=some v->R i v H')->Q (.ref D) H'):CompGo own js g tTrue te σ Q (Itl K a) H1:=by
 refine fG xs.length Sg R hn h0 mono (λ i H' hi s=>⟨xs,xs[i],SqL.of (s _ _ hx),by simp [hi]⟩) (λ H' s=>⟨xs,SqL.of (s _ _ hx),i6 _⟩) (λ i x σ' H' H2 hi s hy sg C hC=>?_) fin;obtain⟨rfl,hy⟩:=hy;exact step i x σ' _ (hy xs (SqL.of (s _ _ hx))) s sg C hC
theorem SqX.of {t:Bool}{K:b9}{H:Hp}{a:j8}{xs:List V}(h:H a=some (if t=true then .tup xs else .lst xs)):SqX t K H a xs:=by
 cases t with
 | true=>exact SqT.of h
 | false=>exact SqL.of h
theorem jI {t1 t2:Bool}{K:b9}{a b:j8}{xs zs:List V}(hx:H1 a=some (if t1=true then .tup xs else .lst xs))(hz:H1 b=some (if t2=true then .tup zs else .lst zs))(Sg:L2.St->Prop)(R:Nat->V->Hp->Prop)(hn:xs.length<=1000)
  (h0:Sg (start3 own js σ)) (mono:∀ i v H H',TupKeep H H'->R i v H->R i v H')
  (step:∀ i x z T σ' H',xs[i]?=some x->zs[i]?=some z->Same H1 H'->H' T=none->Sg σ'->∀ C:L2.St->V->Hp->Prop,(∀ σ3 v H5,Sg σ3->Same H' H5->R i v H5->C σ3 v H5)->g (.ref T) σ' (upd H' T (.tup [x,z])) λ σ3 H3=>te σ3 H3 λ v H5=>C σ3 v H5)
  (fin:∀ D ys H',H1 D=none->Same H1 H'->H' D=some (.lst ys)->ys.length=min xs.length zs.length->(∀ i v,ys[i]?=some v->R i v H')->Q (.ref D) H'):CompGo own js g tTrue te σ Q (Itz t1 t2 K a b) H1:=by
 have s1:∀ H',Same H1 H'->SqX t1 K H' a xs:=λ H' s=>SqX.of (s _ _ hx);have s2:∀ H',Same H1 H'->SqX t2 K H' b zs:=λ H' s=>SqX.of (s _ _ hz);refine fG (min xs.length zs.length) Sg R (by left) h0 mono (λ i H' hi s=>⟨xs,zs,xs[i]'(by left),zs[i]'(by left),s1 H' s,s2 H' s,by simp [show i<xs.length by left],by simp [show i<zs.length by left]⟩)
  (λ H' s=>⟨xs,zs,s1 H' s,s2 H' s,by left⟩) (λ i x σ' H' H2 hi s hy sg C hC=>?_) fin
 obtain⟨T,x1,z1,hT,rfl,rfl,e1,e2⟩:=hy;exact step i x1 z1 T σ' H' (e1 _ (s1 H' s)) (e2 _ (s2 H' s)) s hT sg C hC
end
theorem cY {f:Nat->Bool}{n:Nat}{ys:List V}(hl:ys.length=n)(h:∀ (i:Nat) (v:V),ys[i]?=some v->v=V.bl (f i)):ys=((d7 n).map f).map V.bl:=by
 refine ucs λ i=>?_;by_cases hi:i<n
 ·obtain⟨v,hv⟩:∃ v,ys[i]?=some v:=⟨ys[i],c7 (by left)⟩;rw[hv,h i v hv];simp [hi]
 ·rw[x9 (by left),x9 (by simp;left)]
def tyD:r8->String
 | .none=>"NoneType"
 | .bool _=>"bool"
 | .int _=>"int"
 | .str _=>"str"
 | .tuple _=>"tuple"
 | .list _=>"list"
 | .dict _=>"dict"
theorem kM {K:b9}{H:Hp}:∀ {d:r8}{v:V},Is K H d v->TyOf K H v (.type (tyD d))
 | .none,_,h=>by rw[show _=V.non from h];exact .non
 | .bool b,_,h=>by rw[show _=V.bl b from h];exact .bl b
 | .int i,_,h=>by rw[show _=V.int i from h];exact .int i
 | .str x,_,h=>by rw[show _=V.str x from h];exact .str x
 | .tuple _,_,⟨p,vs,e,h,_⟩=>by rw[e];exact .tup h
 | .list _,_,⟨p,vs,e,h,_⟩=>by rw[e];exact .lst h
 | .dict _,_,⟨_,p,e,h⟩=>by rw[e];exact .dK h
def wholeB:r8->Bool
 | .int _=>true
 | _=>false
def tieB (n:Int):r8->Bool
 | .tuple [.int a,.int b,.int l]=>decide (0<=a)&&decide (a<b)&&decide (b<n)&&decide (1<=l)&&decide (l<=10^18)
 | _=>false
def few:r8->Prop
 | .tuple ds=>ds.length<=1000
 | .list ds=>ds.length<=1000
 | _=>True
def spD1 (K:b9)(pre:r8->Prop)(f:r8->Bool):Sp:=λ vs H Q _=>∃ d v,vs=[v]/\Is K H d v/\pre d/\∀ H',Same H H'->Q (.bl (f d)) H'
section
variable {g:TG}{te:TE}{own:List Str}{js:List Nat}{σ:L2.St}{H1:Hp}{Q:VK}
end
def e2 (e:Int × Int):List Int:=[e.1,e.2]
def risingB (es:List (Int × Int)):Bool:=((d7 (min es.length (es.drop 1).length)).map λ i=>HT.lexLt (e2 (es.getD i (0,0))) (e2 ((es.drop 1).getD i (0,0)))).all id
def TwoL (H:Hp)(ys:List V)(es:List (Int × Int)):Prop:=Paired (λ (y:V) (e:Int × Int)=>∃ a,y=.ref a/\H a=some (.tup [.int e.1,.int e.2])) ys es
theorem TwoL.get {H:Hp}:∀ {ys:List V}{es:List (Int × Int)}{i:Nat}{y:V},TwoL H ys es->ys[i]?=some y->∃ a,y=.ref a/\H a=some (.tup ((e2 (es.getD i (0,0))).map V.int))
 | _,_,_,_,.nil,h=>by simp at h
 | _,_,0,y,.cons (a:=y0) r t,h=>by
  have e:y0=y:=by simpa using h
  subst e;exact r
 | _,_,i+1,_,.cons r t,h=>TwoL.get (i:=i) t (by simpa using h)
theorem cut1 (ys:List V):cutV ys (some 1) none=ys.drop 1:=by
 unfold cutV;have e1:HT.sIx ys.length ys.length none=ys.length:=rfl;have e2:HT.sIx ys.length 0 (some 1)=min 1 ys.length:=by
  unfold HT.sIx;simp
 rw[e1,e2];by_cases h:ys.length=0
 ·have:ys=[]:=uc4 h;subst this;rfl
 ·have:min 1 ys.length=1:=by left
  rw[this];exact ubj (by simp)
section
variable {g:TG}{te:TE}{own:List Str}{js:List Nat}{σ:L2.St}{H1:Hp}{Q:VK}
end
theorem TieL.get {H:Hp}{ys:List V}{us:List Tie}{i:Nat}{x:V}(h:TieL H ys us)(e:ys[i]?=some x):∃ a,x=.ref a/\H a=some (.tup ((tieI (us.getD i (0,0,0))).map V.int)):=by
 induction h generalizing i with
 | nil=>simp at e
 | @cons y0 _ _ _ r t ih =>
  cases i with
  | zero =>
   have e':y0=x:=by simpa using e
   rw[← e'];exact r
  | succ i=>exact ih (i:=i) (by simpa using e)
section
variable {X:Cx}{own fr:List Str}{scope:ue1}{fp:List j8}{pins:List (j8 × Obj)}{s3:d8}{H3:Hp}{pos:Pos}
theorem dL {es:List uby}{k:Nat}{t:TGs}{n:Nat}(hc:X.calm=true)(h:PGs (cxComp X own fr scope fp pins s3 H3) es t)
  (hn:(assignEach es (cxComp X own fr scope fp pins s3 H3).env).length=n:=by rfl) (hst:(assignEach es (cxComp X own fr scope fp pins s3 H3).env).findIdx? (·.1)=none:=by rfl):PG (cxComp X own fr scope fp pins s3 H3) (.Tuple es k pos) (gTup X.K n t) :=
 cZ (X:=cxComp X own fr scope fp pins s3 H3) hc h hn hst
theorem dC:IxR (cxComp X own fr scope fp pins s3 H3) (rIxL X.K):=aW (X:=cxComp X own fr scope fp pins s3 H3)
theorem zdo:IxR (cxComp X own fr scope fp pins s3 H3) (rIxT X.K):=aV (X:=cxComp X own fr scope fp pins s3 H3)
theorem iL:OpR (cxComp X own fr scope fp pins s3 H3) (compareOp .In) (rIn X.K false):=yV (X:=cxComp X own fr scope fp pins s3 H3)
theorem uA:OpR (cxComp X own fr scope fp pins s3 H3) (compareOp .NotIn) (rIn X.K true):=uV (X:=cxComp X own fr scope fp pins s3 H3)
end
def KeepOk (m:Nat)(ks:List Nat):Prop:=ks.Pairwise (·<·)/\∀ k∈ks,k<m
def keepI (ks:List Nat):List Int:=ks.map λ k:Nat=>(k:Int)
def keepD (ks:List Nat):r8:=.tuple ((keepI ks).map .int)
theorem KeepOk.len {m:Nat}{ks:List Nat}(h:KeepOk m ks):ks.length<=m:=by
 have go:∀ (ks:List Nat)(lo m:Nat),ks.Pairwise (·<·)->(∀ k∈ks,lo<=k/\k<m)->ks.length+lo<=max m lo:=by
  intro ks;induction ks with
  | nil=>intro lo m _ _;simp;left
  | cons k r ih =>
   intro lo m hp hb;have h1:=hb k j3;have:=ih (k+1) m (ub0.mp hp).2 λ j hj=>⟨(ub0.mp hp).1 j hj,(hb j (l9 _ hj)).2⟩;rw[ubs];left
 have:=go ks 0 m h.1 λ k hk=>⟨x8 _,h.2 k hk⟩;left
theorem bY {K:b9}{H:Hp}{n:Int}{ts:List Tie}{v:V}(h:Is K H (webD n ts) v):∃ (p g:j8)(ws:List V),v=.ref p/\H p=some (.tup [.int n,.ref g])/\H g=some (.tup ws)/\IsAll K H (ts.map tieD) ws/\ws.length=ts.length:=by
 obtain⟨p,vs,rfl,hp,v1,r1,rfl,e1,v2,r2,rfl,⟨g,ws,rfl,hg,hall⟩,e3⟩:=h;have e1':v1=.int n:=e1;have e3':r2=[]:=e3;subst e1' e3';exact⟨p,g,ws,rfl,hp,hg,hall,by have:=hall.length;rw[i5] at this;exact this⟩
end L3
namespace Z3
open PySem
section
variable {prog:n0}{w:uak}{A:uaj}{E:c9->d8->Prop}{s:d8}
theorem zb3 (t:Bool)(l:j8)(xs:Array c9) :
  Meets (Builtin.«enumerate.__new__» ⟨[.type "enumerate",.ref l],[]⟩) (λ _ R s=>SqAt t s.heap l xs /\
   R (.ok (.ret (.ref (s.heap.push (itObj t l)).objs.size))) { s with heap:=(s.heap.push (itObj t l)).push { cls:=.type "enumerate",data:=.fields #[.none,.bool false,.ref s.heap.objs.size,rawInt 0,.none,.none] } }) :=
 .of_wp λ prog w A R s h=>by
  obtain⟨hp,g,d,tk,os⟩:=s;obtain⟨hl,h⟩:=h;have hsub:=sub_enumerate;have b1:SqAt t (Shared.heap ⟨hp,g,d,tk,os⟩) l xs:=hl;obtain⟨o,ho⟩:∃ o,hp.get? l=some o:=by
   cases t with
   | true=>obtain⟨o,q,_⟩:=(show hp.IsTuple l xs from hl);exact⟨o,q⟩
   | false=>obtain⟨o,q,_⟩:=(show hp.IsList l xs from hl);exact⟨o,q⟩
  wp_walk using AutoSeq1.wpAny_loadPart' ho
  refine wpAny_stack_any λ st=>?_;refine c8 ?_;split
  ·rename_i c _ _ _ _ _;rcases (c==Value.type "enumerate") with _ | _
   ·wp_walk using AutoSeq1.wpAny_loadPart' ho,fQ b1
    exact⟨A,h⟩
   ·wp_walk using AutoSeq1.wpAny_loadPart' ho,fQ b1
    exact⟨A,h⟩
  ·wp_walk using AutoSeq1.wpAny_loadPart' ho,fQ b1
   exact⟨A,h⟩
theorem zae {t:Bool}{l:j8}{xs:Array c9}{Q:c9->d8->Prop}(hl:SqAt t s.heap l xs)
  (h:∀ h',IsEnum h' (s.heap.objs.size+1) s.heap.objs.size ((0:Nat):Int) .none->ItAt t h' s.heap.objs.size l 0->h'.objs.size=s.heap.objs.size+2->(∀ b o,s.heap.get? b=some o->h'.get? b=some o)->Q (.ref (s.heap.objs.size+1)) { s with heap:=h' }) :
  j7 (p9 prog w) A (call (.type "enumerate") [.ref l]) Q E s:=by
 refine callType_new F.called_enumerate (by decide) (F.typeCall_enumerate_1 _) (F.newCall_enumerate_1 _) (λ obj=>F.args_object_init_2 obj _) F.entry_enumerate_new (zb3 t l xs) ⟨hl,?_⟩;have z1:(s.heap.push (itObj t l)).objs.size=s.heap.objs.size+1:=uaq ..;have g1:ItAt t ((s.heap.push (itObj t l)).push { cls:=.type "enumerate",data:=.fields #[.none,.bool false,.ref s.heap.objs.size,rawInt 0,.none,.none] }) s.heap.objs.size l 0:=(ItAt.new (t:=t) (h:=s.heap) (l:=l)).to λ o e=>a9 _ e;have g2:((s.heap.push (itObj t l)).push { cls:=.type "enumerate",data:=.fields #[.none,.bool false,.ref s.heap.objs.size,rawInt 0,.none,.none] }).get? (s.heap.push (itObj t l)).objs.size=some _:=i7 _ rfl;show _/\_;rw[z1] at g2 ⊢;exact⟨⟨_,g2,rfl⟩,h _ g2 g1 (by rw[uaq,z1]) λ b o q=>a9 _ (a9 _ q)⟩
theorem zU {t:Bool}{e it l:j8}{i:Nat}{xs:Array c9}{x old:c9}{Q:c9->d8->Prop}(he:IsEnum s.heap e it i old)(hi:ItAt t s.heap it l i)(hl:SqAt t s.heap l xs)(hx:xs[i]?=some x)(ne:e≠it)
  (hQ:∀ h',IsEnumOut h' e it ((i:Int)+1) x s.heap.objs.size->ItAt t h' it l (i+1)->h'.get? s.heap.objs.size=some { cls:=.type "tuple",data:=.seq #[.int i s.toks,x] }->h'.objs.size=s.heap.objs.size+1 ->
   (∀ b o,b≠e->b≠it->s.heap.get? b=some o->h'.get? b=some o)->Q (.ref s.heap.objs.size) { s with heap:=h',toks:=s.toks+1 }) :
  j7 (p9 prog w) A (Builtin.«enumerate.__next__» ⟨[.ref e],[]⟩) (λ fin s'=>∃ v,fin=.done (.ret v)/\Q v s') E s:=by
 obtain⟨hp,g,d,tk,os⟩:=s;show j7 _ _ (field (.ref e) 2 >>= _) _ _ _;refine a8 (uab he rfl (x:=.ref it) rfl (a8 (hJ hi hl hx λ k1 i1 s1=>?_)));replace s1:Heap.SameBut it hp k1:=s1;have q1:IsEnum k1 e it i old:=(s1.2 e ne).trans he;show j7 _ _ (field (.ref e) 3 >>= _) _ _ ⟨k1,g,d,tk,os⟩;refine a8 (uab q1 rfl (x:=rawInt i) rfl ?_);show j7 _ _ (field (.ref e) 4 >>= _) _ _ ⟨k1,g,d,tk,os⟩;refine a8 (uab q1 rfl (x:=.none) rfl ?_);show j7 _ _ (mkInt i >>= _) _ _ ⟨k1,g,d,tk,os⟩;refine a8 (wpAny_mkInt ?_);show j7 _ _ (setField (.ref e) 3 (rawInt ((i:Int)+1)) >>= _) _ _ ⟨k1,g,d,tk+1,os⟩;refine a8 (ubp q1 (by simp) λ k2 q2 s2=>?_);replace s2:Heap.SameBut e k1 k2:=s2;replace q2:IsEnum k2 e it ((i:Int)+1) old:=q2;show j7 _ _ (setField (.ref e) 4 .none >>= _) _ _ ⟨k2,g,d,tk+1,os⟩;refine a8 (ubp q2 (by simp) λ k3 q3 s3=>?_);replace s3:Heap.SameBut e k2 k3:=s3;replace q3:IsEnum k3 e it ((i:Int)+1) old:=q3;show j7 _ _ (newTuple [.int i tk,x] >>= _) _ _ ⟨k3,g,d,tk+1,os⟩;refine a8 (wpAny_newTuple ?_);have q4:IsEnum (k3.push { cls:=.type "tuple",data:=.seq #[.int i tk,x] }) e it ((i:Int)+1) old:=a9 _ q3;generalize hk4:k3.push { cls:=.type "tuple",data:=.seq #[.int i tk,x] }=k4 at q4;have sz:k3.objs.size=hp.objs.size:=by rw[s3.1,s2.1,s1.1]
 have lt:e<hp.objs.size:=i9 he;have t4:k4.get? hp.objs.size=some { cls:=.type "tuple",data:=.seq #[.int i tk,x] }:=by rw[← hk4,← sz];exact i7 _ rfl
 have z4:k4.objs.size=hp.objs.size+1:=by rw[← hk4,uaq,sz]
 have up4:∀ b o,b≠e->b≠it->hp.get? b=some o->k4.get? b=some o:=λ b o n1 n2 q=>by
  rw[← hk4];exact a9 _ (s3.extBut b o n1 (s2.extBut b o n1 (s1.extBut b o n2 q)))
 have i4:ItAt t k4 it l (i+1):=i1.to λ o q=>by
  rw[← hk4];exact a9 _ (s3.extBut _ _ ne.symm (s2.extBut _ _ ne.symm q))
 show j7 _ _ (Builtin.SmallTypes.ownedTupleIsFree (.ref e) >>= _) _ _ ⟨k4,g,d,tk+1,os⟩;rw[sz];clear hk4 q3 s3 q2 s2 q1 s1 i1 sz k3 k2 k1;refine a8 ?_;unfold Builtin.SmallTypes.ownedTupleIsFree;refine a8 (uab q4 rfl (x:=.none) rfl (c8 ?_));simp only [if_true];refine a8 (uc2 (a8 (uab q4 rfl (x:=old) rfl (a8 (ubp q4 (by simp) λ k5 q5 s5=>?_)))));replace s5:Heap.SameBut e k4 k5:=s5;replace q5:IsEnum k5 e it ((i:Int)+1) x:=q5;show j7 _ _ (Builtin.SmallTypes.ownedTupleHandOut (.ref e) (.ref hp.objs.size) >>= _) _ _ ⟨k5,g,d,tk+1,os⟩;refine a8 ?_;unfold Builtin.SmallTypes.ownedTupleHandOut;refine a8 (ubp q5 (by simp) λ k6 q6 s6=>?_);replace s6:Heap.SameBut e k5 k6:=s6;replace q6:IsEnumOut k6 e it ((i:Int)+1) x hp.objs.size:=q6;refine ubp q6 (by simp) λ k7 q7 s7=>?_;replace s7:Heap.SameBut e k6 k7:=s7;replace q7:IsEnumOut k7 e it ((i:Int)+1) x hp.objs.size:=q7;have up:∀ b o,b≠e->k4.get? b=some o->k7.get? b=some o:=λ b o n q=>s7.extBut b o n (s6.extBut b o n (s5.extBut b o n q));exact a8 (ucu (c8 ⟨A,hQ k7 q7 (i4.to λ o q=>up _ o ne.symm q) (up _ _ (ubh lt) t4) (by rw[s7.1,s6.1,s5.1,z4]) λ b o n1 n2 q=>up b o n1 (up4 b o n1 n2 q)⟩))
theorem tP {t:Bool}{e it l:j8}{i:Nat}{xs:Array c9}{x old:c9}{Q:Option c9->d8->Prop}(he:IsEnum s.heap e it i old)(hi:ItAt t s.heap it l i)(hl:SqAt t s.heap l xs)(hx:xs[i]?=some x)(ne:e≠it)
  (hQ:∀ h',IsEnumOut h' e it ((i:Int)+1) x s.heap.objs.size->ItAt t h' it l (i+1)->h'.get? s.heap.objs.size=some { cls:=.type "tuple",data:=.seq #[.int i s.toks,x] }->h'.objs.size=s.heap.objs.size+1 ->
   (∀ b o,b≠e->b≠it->s.heap.get? b=some o->h'.get? b=some o)->Q (some (.ref s.heap.objs.size)) { s with heap:=h',toks:=s.toks+1 }) :
  j7 (p9 prog w) A (pyNext (.ref e)) Q E s:=by
 have ty:s.TypeIs (.ref e) "enumerate":=⟨_,he,rfl⟩;unfold pyNext;exact a8 (ucq (uaf (name := v4 "__next__") ty ud2 (uar ud2 ty F.entry_enumerate_next
     (zU he hi hl hx ne λ h' a b c d k=>c8 (hQ h' a b c d k)) (F.args_enumerate_next_1 _))))
theorem tO {t:Bool}{e it l:j8}{i:Nat}{xs:Array c9}{old:c9}{Q:Option c9->d8->Prop}(hh:A.handled=none)(he:IsEnum s.heap e it i old)(hi:ItAt t s.heap it l i)(hl:SqAt t s.heap l xs)(hx:xs[i]?=none)
  (hQ:∀ h',ufa it s.heap h'->Q none { s with heap:=h' }):j7 (p9 prog w) A (pyNext (.ref e)) Q E s:=by
 have ty:s.TypeIs (.ref e) "enumerate":=⟨_,he,rfl⟩;unfold pyNext;refine a8 (ucq (uaf (name:=v4 "__next__") ty ud2 (uar ud2 ty F.entry_enumerate_next ?_ (F.args_enumerate_next_1 _))));show j7 _ _ (field (.ref e) 2 >>= _) _ _ _;refine a8 (uab he rfl (x:=.ref it) rfl (a8 (jP hh hi hl hx λ h' x k ⟨o,p1,p2⟩=>?_)));exact a8 (ud6 (T:="StopIteration") (b:=true) ⟨o,p1,p2⟩ ufm (c8 (hQ _ k)))
end
end Z3
namespace L3
open PySem PySem.Spec PyProof.Rows L2
def Itn (t:Bool)(K:b9)(l:j8):It :=
 ⟨λ i H=>∃ xs x,SqX t K H l xs/\xs[i]?=some x,
  λ i H v H'=>∃ T x,H T=none/\v=.ref T/\H'=upd H T (.tup [.int (i:Nat),x])/\(∀ xs,SqX t K H l xs->xs[i]?=some x),
  λ i H=>∃ xs,SqX t K H l xs/\xs.length<=i⟩
theorem yH {P:n0}{w:uak}{K:b9}{elts:List uby}{kk:Nat}{pos:Pos}{t:Bool}{e it l:j8}(n1:e≠it)(n2:l≠e)(n3:l≠it) :
  Turn P w K (.Tuple elts kk pos) (Itn t K l) [e,it] e (λ i h=>(∃ old,IsEnum h e it (i:Int) old)/\Z3.ItAt t h it l i) where
 mem:=by simp
 obj:=λ i h st b hb=>by
  obtain⟨⟨old,q1⟩,q2⟩:=st;obtain⟨o2,m2,e2,_,d2⟩:=q2.obj;simp only [j4,m7,or_false] at hb;rcases hb with rfl | rfl
  ·exact⟨_,q1,λ v q=>by cases q⟩
  ·exact⟨_,e2,λ v q=>by rw[d2] at q;cases q⟩
 keep:=λ i h h' st k=>by
  obtain⟨⟨old,q1⟩,q2⟩:=st;exact⟨⟨old,k e (by simp) _ q1⟩,q2.to λ o z=>k it (by simp) o z⟩
 item:=by
  intro X hP hw hK hc i pins s σ H E I hf st hg;subst hP hw hK;obtain⟨xs,x,q1,hx⟩:=hg;obtain⟨⟨old,en⟩,ia⟩:=st;obtain⟨its1,r1,p1,z1⟩:=seqX I q1;obtain⟨u1,hu1,ru1⟩:=r1.get hx;refine Z3.tP en ia p1 (x:=u1) (by simpa using hu1) n1 λ h' eo ia' tp sz kp=>?_;have I1 : Inv X pins σ (upd H s.heap.objs.size (.tup [.int (i : Nat), x])) { s with heap := h', toks := s.toks+1 } := turnsTup (ch := [e, it]) (its := [.int i s.toks, u1]) I hf (λ b o hb z => by
      simp only [j4,m7,or_false,not_or] at hb;exact kp b o hb.1 hb.2 z) (i6 _) (by show 2<=o7;rw[ucm];decide) (.cons ⟨_,rfl⟩ (.cons ru1 .nil)) ⟨_,tp,rfl,⟨_,rfl⟩,rfl⟩
  have fr:H s.heap.objs.size=none:=I.fresh;have elt:e<s.heap.objs.size:=i9 en;have ilt:it<s.heap.objs.size:=by obtain⟨o2,m2,e2,_⟩:=ia.obj;exact i9 e2
  have zne:∀ b∈[e,it],b≠s.heap.objs.size:=λ b hb=>by
   simp only [j4,m7,or_false] at hb;rcases hb with rfl | rfl
   ·exact l6 elt
   ·exact l6 ilt
  refine⟨A,wpAny_letOwnedTupleGo_enum eo λ h2 en2 sb=>?_⟩;obtain⟨f0,f1,f2,f3,f4,f5⟩:=hf e (by simp);have I2:Inv X pins σ (upd H s.heap.objs.size (.tup [.int (i:Nat),x])) { s with heap:=h2,toks:=s.toks+1 }:=Inv.turned (s:={ s with heap:=h',toks:=s.toks+1 }) (it:=e) (t':=s.toks+1) I1 (λ b o hb z=>sb.extBut b o hb z) (by rw[aJ (zne e (by simp))];exact f0) f1 f3 f4 f5;refine⟨.ref s.heap.objs.size,_,I2,rfl,⟨_,x,fr,P,λ zs hz=>by rw[jA I hz q1];exact hx⟩,?_,λ b hb=>by rw[aJ (zne b hb)];exact (hf b hb).1⟩;exact⟨⟨_,by simpa using en2⟩,ia'.to λ o z=>sb.extBut _ _ n1.symm z⟩
 done:=by
  intro X hP hw hK hc i pins s σ H E I hf st hg;subst hP hw hK;obtain⟨xs,q1,hx⟩:=hg;obtain⟨⟨old,en⟩,ia⟩:=st;obtain⟨its1,r1,p1,z1⟩:=seqX I q1;have l1:=r1.length;refine Z3.tO (I.ok.hd hc) en ia p1 (by simp;left) λ h' kp=>⟨rfl,?_⟩;exact turns (ch:=[e,it]) (t':=s.toks) I hf λ b o hb z=>by
   simp only [j4,m7,or_false,not_or] at hb;exact kp b o hb.2 z
 self:=λ _ _ _ _ _ st h=>by
  obtain⟨⟨old,en⟩,_⟩:=st;exact wpAny_pyIter_enum en h
def iEnum (t:Bool)(K:b9)(ta:TA):TI:=λ σ H R=>ta σ H λ vs H1=>∃ l,vs=[.ref l]/\(∃ xs,SqX t K H1 l xs)/\R (Itn t K l) H1
theorem fK {X:Cx}{elts:List uby}{kk:Nat}{pos':Pos}(t:Bool){a:uby}{ta:TA}{p pos:Pos}(hg:Gl X "enumerate")(hm:X.mg "enumerate"=none)(ha:PA X [a] ta)
  (hs:uav [a] X.env=[(false,eval a X.env)]:=by rfl) (hs2:uav [] X.env=[]:=by rfl) :
  PI X (.Tuple elts kk pos') (.Call (.Name "enumerate" p) [a] [] pos) (iEnum t X.K ta):=by
 intro pins s σ H R I h;refine Call_ (dQ I hg hm boot_enumerate (ucv (thn (ha pos pins s σ H _ I h) λ us s1 ⟨vs,H1,I1,r1,q1⟩=>?_) (by rw[hs,hs2]) (by rw[hs2];rfl)));obtain⟨l,e,⟨xs,qx⟩,q⟩:=q1;subst e;obtain⟨u,rfl,rx⟩:=vals1 r1;cases rx;obtain⟨its1,r1,p1,z1⟩:=seqX I1 qx;have lt:l<s1.heap.objs.size:=by
  cases t with
  | true=>obtain⟨o,e,_⟩:=(show s1.heap.IsTuple l _ from p1);exact i9 e
  | false=>obtain⟨o,e,_⟩:=(show s1.heap.IsList l _ from p1);exact i9 e
 refine Z3.zae p1 λ h' en ia sz kp=>wpAny_pyIter_enum en ?_;have I2:Inv X pins σ H1 { s1 with heap:=h',toks:=s1.toks }:=I1.kept (t':=s1.toks) kp;refine⟨s1.heap.objs.size+1,[s1.heap.objs.size+1,s1.heap.objs.size],V,H1,rfl,I2,yH (Nat.succ_ne_self _) (l6 (ubf lt)) (l6 lt),⟨⟨_,en⟩,ia⟩,λ b hb=>?_,q⟩;have hb':s1.heap.objs.size<=b:=by
  simp only [j4,m7,or_false] at hb;rcases hb with rfl | rfl
  ·exact ubv _
  ·exact i6 _
 exact I1.fpOk hb' (I1.hok.fresh hb')
end L3
namespace HT
open PySem PyProof.Rows
section
variable {prog:n0}{w:uak}{A:uaj}{E:c9->d8->Prop}{s:d8}
theorem vQ {t:j8}{items:Array c9}{Q:Bool->d8->Prop}(ht:IsTup s.heap t items)(h:Q true s):j7 (p9 prog w) A (Builtin.Tuple.tupleIsExact (.ref t)) Q E s:=by
 unfold Builtin.Tuple.tupleIsExact;exact a8 (uc5 ht.typeIs (c8 h))
theorem rX {t sl:j8}{items:Array c9}{vl vu:c9}{lo hi:Option Int}{Q:c9->d8->Prop}(ht:IsTup s.heap t items)(hs:s.heap.IsSliceOf sl vl vu .none)(pl:IsPart vl lo)(pu:IsPart vu hi)
  (hw:sIx items.size 0 lo=0/\sIx items.size items.size hi=items.size) (h:Q (.ref t) s):j7 (p9 prog w) A (getItem (.ref t) (.ref sl)) Q E s:=by
 obtain⟨os,hos,hcs,hds⟩:=id hs;have ty:s.TypeIs (.ref sl) "slice":=⟨os,hos,hcs⟩;unfold getItem
 try with_reducible refine uae ?_
 first | refine a8 (c8 ?_) | skip
 refine a8 (ues ht.typeIs (by decide) (a8 (uaf (name:=v4 "__getitem__") ht.typeIs z9
  (uar z9 ht.typeIs entry_tuple_getitem ?_ (args_tuple_getitem _ _)))))
 show j7 _ _ (Builtin.Tuple.tupleItemsOf (.ref t) >>= _) _ _ s;refine a8 (tupleItemsOf_ ht (a8 (uc5 ty ?_)));rw[ug7 (by decide)];refine a8 (kY hs pl pu ?_);have yes:(((sIx items.size 0 lo:Nat):Int)==0&&(1:Int)==1&&(sIx items.size items.size hi-sIx items.size 0 lo)==items.size)=true:=by
  rw[hw.1,hw.2];simp
 show j7 _ _ (if (((sIx items.size 0 lo:Nat):Int)==0&&(1:Int)==1&&(sIx items.size items.size hi-sIx items.size 0 lo)==items.size)=true then _ else _) _ _ s;rw[ug7 yes];refine a8 (vQ ht ?_);rw[ug7 rfl];exact a8 (uc2 (a8 (c8 (c8 ⟨A,c8 h⟩))))
theorem iS (xs:List c9):((d7 xs.length).filterMap λ (m:Nat)=>xs.toArray[((xs.length:Int)-1+(m:Int)*(-1)).toNat]?)=xs.reverse:=by
 refine ucs λ i=>?_;have key:∀ (n:Nat),n<=xs.length->((d7 n).filterMap λ (m:Nat)=>xs.toArray[((xs.length:Int)-1+(m:Int)*(-1)).toNat]?)=xs.reverse.take n:=by
  intro n;induction n with
  | zero=>intro _;simp
  | succ n ih =>
   intro hn;rw[uba,ua6,ih (by left),List.take_add_one];congr 1;have e:((xs.length:Int)-1+(n:Int)*(-1)).toNat=xs.length-1-n:=by left
   have e2:xs.reverse[n]?=xs[xs.length-1-n]?:=List.getElem?_reverse (by left);have h1:xs.length-1-n<xs.length:=by left
   rw[ua2,e,e2];simp [h1]
 rw[key _ (i6 _),ubj (by simp)]
theorem xI {sl:j8}{t:Tok}{n:Nat}{Q:Int × Int × Nat->d8->Prop}(hs:s.heap.IsSliceOf sl .none .none (.int (-1) t))(h:Q ((n:Int)-1,-1,n) s) :
  j7 (p9 prog w) A (Builtin.Slice.sliceApplied (.ref sl) (pure (n:Int))) Q E s:=by
 obtain⟨os,hos,hcs,hds⟩:=id hs;unfold Builtin.Slice.sliceApplied Builtin.Slice.sliceFields;refine a8 (a8 (uab hos hds (x:=.none) rfl (a8 (uab hos hds (x:=.none) rfl (a8 (uab hos hds (x:=.int (-1) t) rfl (c8 ?_)))))));refine a8 (slicePart_int ?_);show j7 _ _ (if ((-1:Int)==0)=true then _ else _) _ _ s;rw[ug8 (by decide)];refine a8 (slicePart_none (a8 (slicePart_none (a8 (c8 ?_)))));have e:Builtin.Slice.slicePlaces ((n:Int)-1) (-1) (-1)=n:=by
  unfold Builtin.Slice.slicePlaces;rw[ug8 (by decide)];split
  ·have:((n:Int)-1 - -1-1) / (- -1)+1=(n:Int):=by
    rw[show (- -1:Int)=1 by decide,Int.ediv_one];left
   rw[this];exact v5 n
  ·have:n=0:=by left
   subst this;rfl
 show j7 _ _ (pure ((n:Int)-1,(-1:Int),Builtin.Slice.slicePlaces ((n:Int)-1) (-1) (-1))) _ _ s;rw[e];exact c8 h
theorem kW {t sl:j8}{its:List c9}{u:Tok}{Q:c9->d8->Prop}(ht:IsTup s.heap t its.toArray)(hs:s.heap.IsSliceOf sl .none .none (.int (-1) u))
  (h:Q (.ref s.heap.objs.size) { s with heap:=s.heap.push { cls:=.type "tuple",data:=.seq its.reverse.toArray } }) (hsz:its.length<=o7):j7 (p9 prog w) A (getItem (.ref t) (.ref sl)) Q E s:=by
 have fit:sizeOk (.seq its.reverse.toArray):=by
  show its.reverse.toArray.size<=o7;rw[j5,udi];exact hsz
 obtain⟨os,hos,hcs,hds⟩:=id hs;have ty:s.TypeIs (.ref sl) "slice":=⟨os,hos,hcs⟩;unfold getItem
 try with_reducible refine uae ?_
 first | refine a8 (c8 ?_) | skip
 refine a8 (ues ht.typeIs (by decide) (a8 (uaf (name:=v4 "__getitem__") ht.typeIs z9
  (uar z9 ht.typeIs entry_tuple_getitem ?_ (args_tuple_getitem _ _)))))
 show j7 _ _ (Builtin.Tuple.tupleItemsOf (.ref t) >>= _) _ _ s;refine a8 (tupleItemsOf_ ht (a8 (uc5 ty ?_)));rw[ug7 (by decide)];have en:its.toArray.size=its.length:=j5;rw[en];refine a8 (xI hs ?_);show j7 _ _ (if (((its.length:Int)-1)==0&&(-1:Int)==1&&its.length==its.length)=true then _ else _) _ _ s;rw[ug8 (by simp),iS]
 first
  | exact a8 (m:=Builtin.Tuple.tupleExact _) (v8 (c8 ⟨A,c8 h⟩) fit)
  | exact a8 (m:=Builtin.Tuple.tupleExact _) (v8 (a8 (c8 (c8 ⟨A,c8 h⟩))) fit)
  | exact a8 (a8 (m:=Builtin.Tuple.tupleExact _) (v8 (c8 (c8 ⟨A,c8 h⟩)) fit))
  | exact a8 (a8 (m:=Builtin.Tuple.tupleExact _) (v8 (c8 ⟨A,c8 h⟩) fit))
theorem zdx {t b:j8}{ws:List c9}{Q:c9->d8->Prop}(ht:IsTup s.heap t ([]:List c9).toArray)(hb:IsTup s.heap b ws.toArray)(h:Q (.ref b) s):j7 (p9 prog w) A (binaryOp .Add (.ref t) (.ref b)) Q E s:=by
 obtain⟨⟨cls,dd,data,sl⟩,ho,hc,n,hd⟩:=id ht;obtain⟨⟨cls2,dd2,data2,sl2⟩,ho2,hc2,n2,hd2⟩:=id hb;simp only at hc hd hc2 hd2;subst hc hd hc2 hd2;exact concat_meets ⟨_,ho,rfl⟩ ⟨_,ho2,rfl⟩ ugr seq_tuple_add uek ueg (ueb _ _) (tuple_addW0 t b _ ws.toArray n n2 dd dd2 sl sl2 rfl) ⟨ho,ho2,h⟩
end
end HT
namespace L3
open PySem PySem.Spec PyProof.Rows L2
section
variable {X:Cx}{pins:List (j8 × Obj)}{σ:L2.St}{H:Hp}{s:d8}{e:uby}{te:TE}{pos p2:Pos}
theorem zb8 {xs:List V}{lo hi:Option Int}(h:HT.sIx xs.length 0 lo=0/\HT.sIx xs.length xs.length hi=xs.length):cutV xs lo hi=xs:=by
 unfold cutV;rw[h.1,h.2];simp
inductive rSlA_i  (x:V) (lo:Option Int) (hi:Option Int) (H:Hp) (Q:VK):Prop
 | mk:∀ a xs,(x=.ref a)->(H a=some (.tup xs))->(∀ p H',Same H H'->H' p=some (.tup (cutV xs lo hi))->Q (.ref p) H')->rSlA_i x lo hi H Q
def rSlA :V->Option Int->Option Int->Hp->VK->Prop:=λ x lo hi H Q=>rSlA_i x lo hi H Q
theorem bI:SlR X rSlA:=by
 intro pins s σ H x v vl vu lo hi sl Q I rx hs pl pu h;obtain⟨a,xs,rfl,hx,q⟩:=h;by_cases c:HT.sIx xs.length 0 lo=0/\HT.sIx xs.length xs.length hi=xs.length
 ·cases rx;obtain⟨its,r,ht,hz⟩:=I.tuple (SqT.of hx);have hlen:its.toArray.size=xs.length:=by rw[j5];exact r.length.symm
  refine⟨"tuple",_,z9.lookup,ht.typeIs,HT.rX ht hs pl pu (by rw[hlen];exact c) ⟨.ref a,H,I,rfl,q _ _ (Same.refl H) (by rw[zb8 c];exact hx)⟩⟩
 ·exact zd3 (X:=X) pins s σ H (.ref a) v vl vu lo hi sl Q I rx hs pl pu ⟨a,xs,rfl,SqT.of hx,c,λ p hp=>q p _ (aP hp) aM⟩
inductive rCatA_i  (x:V) (y:V) (H:Hp) (Q:VK):Prop
 | mk:∀ a b xs ys,(x=.ref a)->(y=.ref b)->(H a=some (.tup xs))->(H b=some (.tup ys))->(xs.length+ys.length<=o7)->(∀ p H',Same H H'->H' p=some (.tup (xs++ys))->Q (.ref p) H')->rCatA_i x y H Q
def rCatA :R2:=λ x y H Q=>rCatA_i x y H Q
theorem cA:OpR X (binaryOp .Add) rCatA:=by
 intro pins s σ H x y v u Q I rx ry h;obtain⟨a,b,xs,ys,rfl,rfl,ha,hb,hz,q⟩:=h;by_cases c:xs=[]
 ·subst c;cases rx;cases ry;obtain⟨its,r1,p1,_⟩:=I.tuple (SqT.of ha);obtain⟨its2,r2,p2,_⟩:=I.tuple (SqT.of hb);cases r1;exact HT.zdx p1 p2 ⟨.ref b,H,I,rfl,q _ _ (Same.refl H) hb⟩
 ·refine zde (X:=X) pins s σ H _ _ v u Q I rx ry ⟨a,b,xs,ys,P,SqT.of ha,SqT.of hb,c,hz,λ e=>q _ _ (Same.refl H) (by rw[e,uct];exact ha),λ _ p hp=>q p _ (aP hp) aM⟩
theorem zbe:PE X (.Dict [] [] pos) (λ _ H Q=>∀ p,H p=none->Q (.ref p) (upd H p (.dK []))):=λ pins s σ H Q I h=>by
 have big:sysModules<s.heap.objs.size:=ue2 (by decide) (I.mod.glob.keeps I.bk).lt;exact wpAny_Dict_empty ⟨.ref s.heap.objs.size,_,I.laid (a:=s.heap.objs.size) (o:=.dK []) (t':=s.toks) (λ _ _ q=>a9 _ q) (i6 _) ⟨x8 _,beq_eq_false_iff_ne.mpr (Ne.symm (l6 big)),[],.nil,Heap.DictOf.new _⟩,rfl,h _ (I.hok.fresh (i6 _))⟩
end
theorem iteNB {b:Bool}{A B:Prop}(hb:b=true)(h:B):if (!b)=true then A else B:=by
 subst hb;exact h
theorem iteB2 {b:Bool}{A B:Prop}(h1:b=true->B)(h2:b=false->A):if (!b)=true then A else B:=by
 cases b with
 | true=>exact h1 rfl
 | false=>exact h2 rfl
def numB (m:Nat):r8->Bool
 | .int i=>decide (0<=i)&&decide (i<(m:Int))
 | _=>false
def intOf:r8->Int
 | .int i=>i
 | _=>0
def risI (ns:List Int):Bool:=((d7 (min ns.length (ns.drop 1).length)).map λ i=>decide (ns.getD i 0<(ns.drop 1).getD i 0)).all id
def keepB (m:Nat):r8->Bool
 | .tuple ds=>ds.all (numB m)&&risI (ds.map intOf)
 | _=>false
def spRisI:Sp:=λ vs H Q _=>∃ p ns,vs=[.ref p]/\H p=some (.tup (ns.map V.int))/\ns.length<=1000/\∀ H',Same H H'->Q (.bl (risI ns)) H'
theorem za6 (ns:List Int):risI ns=true↔ns.Pairwise (·<·):=by
 have step:risI ns=true↔∀ i (h:i+1<ns.length),ns[i]<ns[i+1]:=by
  unfold risI;rw[ucp,uas];constructor
  ·intro h i hi;have:=h i (o9.mpr (by rw[o6];left));have e1:ns.getD i 0=ns[i]:=by simp [uca,show i<ns.length by left]
   have e2:(ns.drop 1).getD i 0=ns[i+1]:=by simp [uca,hi,ue4 1 i]
   have q:decide (ns.getD i 0<(ns.drop 1).getD i 0)=true:=this;rw[e1,e2] at q;exact ug4 q
  ·intro h i hi;have hi':=o9.mp hi;rw[o6] at hi';have h1:i+1<ns.length:=by left
   have e1:ns.getD i 0=ns[i]:=by simp [uca,show i<ns.length by left]
   have e2:(ns.drop 1).getD i 0=ns[i+1]:=by simp [uca,h1,ue4 1 i]
   show decide (ns.getD i 0<(ns.drop 1).getD i 0)=true;rw[e1,e2];exact ug3 (h i h1)
 rw[step,ub5];constructor
 ·intro h i j hi hj hij;have:∀ k (hk:i+1+k<ns.length),ns[i]<ns[i+1+k]:=by
   intro k;induction k with
   | zero=>intro hk;exact h i hk
   | succ k ih=>intro hk;exact Int.lt_trans (ih (by left)) (h (i+1+k) hk)
  have:=this (j-i-1) (by left);have e:i+1+(j-i-1)=j:=by left
  simpa only [e] using this
 ·intro h i hi;exact h i (i+1) (by left) hi (by left)
theorem jU {ds:List r8}(h:∀ d∈ds,∃ i,d=.int i):ds=(ds.map intOf).map .int:=by
 rw[ua5]
 conv=>lhs;rw[← List.map_id ds]
 refine ucy λ d hd=>?_;obtain⟨i,rfl⟩:=h d hd;rfl
structure Pre (m:Nat)(ds:List r8)(i:Nat)(a:Int):Prop where
 num:∀ d∈ds.take i,numB m d=true
 up:((ds.take i).map intOf).Pairwise (·<·)
 top:∀ x∈(ds.take i).map intOf,x<=a
 at_:a=-1\/a∈(ds.take i).map intOf
theorem iR {α:Type}{ds:List α}{i:Nat}{d:α}(e:ds[i]?=some d):ds.take (i+1)=ds.take i++[d]:=by
 rw[List.take_add_one,e];rfl
def flatD:V->Bool
 | .non | .bl _ | .int _ | .str _=>true
 | _=>false
theorem Pot.same {H H':Hp}{p:j8}(h:Pot H p)(s:Same H H'):Pot H' p:=let ⟨a,b,e,z⟩:=h;⟨a,b,s _ _ e,z⟩
theorem iY:∀ ns:List Int,tupAll (ns.map .int)=true
 | []=>rfl
 | n::ns=>by show (tupD (.int n)&&tupAll (ns.map .int))=true;rw[iY ns];rfl
theorem nO:∀ ts:List Tie,tupAll (ts.map tieD)=true
 | []=>rfl
 | t::r=>by show (tupD (tieD t)&&tupAll (r.map tieD))=true;rw[nO r];rfl
theorem zcq (n:Int)(ts:List Tie):tupD (webD n ts)=true:=by
 show (true&&(tupAll (ts.map tieD)&&true))=true;rw[nO ts];rfl
theorem zar (ks:List Nat):tupD (keepD ks)=true:=iY _
end L3
namespace L3
end L3
namespace L3
open PySem PySem.Spec PyProof.Rows L2
theorem lI {c:TT}{a b:TS}{D:Ends}{σ:L2.St}{H:Hp}(h:let A:=a;let B:=b;let E:=D;let S:=σ;tIfS c A B E S H):tIfS c a b D σ H:=h
theorem lF {i:TI}{g:TG}{b:TS}{D:Ends}{σ:L2.St}{H:Hp}(h:let B:=b;let E:=D;let S:=σ;tFor i g B E S H):tFor i g b D σ H:=h
end L3
namespace HT
open PySem PyProof.Rows
section
open PySem.SeqAt
open PySem.AutoSeq1 (wpAny_loadPart')
open PySem.MeetsSeq PySem.MeetsSeq2 PySem.MeetsSeq3
end
section
variable {prog:n0}{w:uak}{A:uaj}{E:c9->d8->Prop}{s:d8}
end
end HT
namespace L3
open PySem PySem.Spec PyProof.Rows L2
section
variable {X:Cx}
end
def wide:Nat->r8->Prop
 | 0,_=>True
 | k+1,.tuple ds=>ds.length<=1000/\∀ d∈ds,wide k d
 | k+1,.list ds=>ds.length<=1000/\∀ d∈ds,wide k d
 | _+1,_=>True
def endsD:r8->Int × Int
 | .tuple [.int a,.int b,.int _]=>(a,b)
 | _=>(0,0)
def tiesB (n:Int):r8->Bool
 | .tuple ds=>decide (ds.length<=60)&&ds.all (tieB n)&&risingB (ds.map endsD)
 | _=>false
def Gd (H:Hp):Nat->V->Prop
 | 0,v=>flatD v=true
 | k+1,v=>flatD v=true\/(∃ p vs,v=.ref p/\(H p=some (.tup vs)\/H p=some (.lst vs))/\vs.length<=1000/\∀ u∈vs,Gd H k u)\/(∃ p,v=.ref p/\H p=some (.dK []))
def lt2 (e f:Int × Int):Prop:=e.1<f.1\/(e.1=f.1/\e.2<f.2)
theorem oG (e f:Int × Int):HT.lexLt (e2 e) (e2 f)=true↔lt2 e f:=by
 show (if e.1=f.1 then (if e.2=f.2 then false else decide (e.2<f.2)) else decide (e.1<f.1))=true↔_;unfold lt2;by_cases h:e.1=f.1
 ·rw[ug7 h];by_cases h2:e.2=f.2
  ·rw[ug7 h2];simp;left
  ·rw[ug8 h2,decide_eq_true_eq];left
 ·rw[ug8 h,decide_eq_true_eq];left
structure PreT (n:Int)(ds:List r8)(i:Nat)(a:Int × Int):Prop where
 tie:∀ d∈ds.take i,tieB n d=true
 up:((ds.take i).map endsD).Pairwise lt2
 top:∀ x∈(ds.take i).map endsD,x=a\/lt2 x a
 at_:a=(-1,-1)\/a∈(ds.take i).map endsD
section
variable {X:Cx}{es:List uby}{t:TA}{pos:Pos}
def tTupG (t:TA):TE:=λ σ H Q=>t σ H λ xs H1=>xs.length<=1000/\∀ p H',Same H1 H'->H1 p=none->H' p=some (.tup xs)->Q (.ref p) H'
def tLstG (t:TA):TE:=λ σ H Q=>t σ H λ xs H1=>xs.length<=1000/\∀ p H',Same H1 H'->H1 p=none->H' p=some (.lst xs)->Q (.ref p) H'
theorem aZ {x1} (h:PA X es t):PE X (.Tuple es x1 pos) (tTupG t):=by
 intro pins s σ H Q I hq;refine wpAny_Tuple_spliced (thn (h pos pins s σ H _ I hq) λ us s1 ⟨xs,J,I1,r,z,q⟩=>?_);have z':xs.length<=o7:=o8 z (by decide);have fr:J s1.heap.objs.size=none:=I1.hok.fresh (i6 _);refine⟨by rw[← r.length];exact z',.ref s1.heap.objs.size,upd J s1.heap.objs.size (.tup xs),I1.laid (t':=s1.toks) (λ b u e=>a9 _ e) (i6 _) ⟨z',us,r,⟨_,i7 _ rfl,rfl,⟨_,rfl⟩,rfl⟩⟩,rfl,q _ _ (aP fr) fr aM⟩
theorem cH (h:PA X es t):PE X (.List es pos) (tLstG t):=by
 intro pins s σ H Q I hq;refine wpAny_List_spliced (thn (h pos pins s σ H _ I hq) λ us s1 ⟨xs,J,I1,r,z,q⟩=>?_);have z':xs.length<=o7:=o8 z (by decide);have fr:J s1.heap.objs.size=none:=I1.hok.fresh (i6 _);refine⟨by rw[← r.length];exact z',.ref s1.heap.objs.size,upd J s1.heap.objs.size (.lst xs),I1.laid (t':=s1.toks) (λ b u e=>a9 _ e) (i6 _) ⟨z',us,0,r,i7 _ rfl⟩,rfl,q _ _ (aP fr) fr aM⟩
inductive rExtendG_i  (x:V) (vs:List V) (H:Hp) (Q:VK):Prop
 | mk:∀ l b xs zs,(x=.ref l)->(vs=[.ref b])->(H l=some (.lst xs))->(H b=some (.lst zs))->(xs.length+zs.length<=1000)->(∀ H',But l H H'->H' l=some (.lst (xs++zs))->Q .non H')->rExtendG_i x vs H Q
def rExtendG :V->List V->Hp->VK->Prop:=λ x vs H Q=>rExtendG_i x vs H Q
theorem eV:MtM X "list.extend" rExtendG:=by
 intro pins s σ H x vs v us Q I rx rv h;obtain⟨l,b,xs,zs,rfl,rfl,hH,hB,hz,q⟩:=h;exact mR (X:=X) pins s σ H _ _ v us Q I rx rv ⟨l,b,xs,zs,P,hH,hB,o8 hz (by decide),q _ But.upd aM⟩
inductive rAppendG_i  (x:V) (vs:List V) (H:Hp) (Q:VK):Prop
 | mk:∀ l xs y,(x=.ref l)->(vs=[y])->(H l=some (.lst xs))->(xs.length<1000)->(∀ H',But l H H'->H' l=some (.lst (xs++[y]))->Q .non H')->rAppendG_i x vs H Q
def rAppendG :V->List V->Hp->VK->Prop:=λ x vs H Q=>rAppendG_i x vs H Q
theorem gC:MtM X "list.append" rAppendG:=by
 intro pins s σ H x vs v us Q I rx rv h;obtain⟨l,xs,y,rfl,rfl,hH,hz,q⟩:=h;exact eX (X:=X) pins s σ H _ _ v us Q I rx rv ⟨l,xs,y,P,hH,o0 hz (by decide),q _ But.upd aM⟩
inductive call_listG_i  (xs:List V) (H:Hp) (Q:VK):Prop
 | mk:∀ p ys,(xs=[.ref p])->((H p=some (.lst ys)\/H p=some (.tup ys)))->(∀ l H',Same H H'->H l=none->H' l=some (.lst ys)->Q (.ref l) H')->call_listG_i xs H Q
theorem mG:CallR X (.type "list") (call_listG_i):=by
 intro pins s σ H xs us Q I r h;obtain⟨p,ys,rfl,hp,q⟩:=h;exact vH (X:=X) pins s σ H _ us Q I r ⟨p,ys,rfl,hp.elim (λ e=>.inl (SqL.of e)) (λ e=>.inr (SqT.of e)),λ l hl=>q l _ (aP hl) hl aM⟩
end
def Sm (H:Hp)(t:j8):Prop:=∃ vs:List V,(H t=some (.tup vs)\/H t=some (.lst vs))/\vs.length<=1000/\vs.all flatD=true
def GdF (H:Hp)(xs:List V):Prop:=∀ u∈xs,∃ t,u=.ref t/\Sm H t
def GdL (l:j8)(H:Hp)(xs:List V):Prop:=∀ u∈xs,∃ t,u=.ref t/\t≠l/\Sm H t
section
variable {g:TG}{te:TE}{own:List Str}{js:List Nat}{σ:L2.St}{H1:Hp}{Q:VK}
theorem mD {lo:Int}{n:Nat}(Sg:L2.St->Prop)(R:Nat->V->Hp->Prop)(hn:n<=1000)(h0:Sg (start3 own js σ))(mono:∀ i v H H',TupKeep H H'->R i v H->R i v H')
  (step:∀ i σ' H',i<n->Same H1 H'->Sg σ'->∀ C:L2.St->V->Hp->Prop,(∀ σ3 v H5,Sg σ3->Same H' H5->R i v H5->C σ3 v H5)->g (.int (lo+i)) σ' H' λ σ3 H3=>te σ3 H3 λ v H5=>C σ3 v H5)
  (fin:∀ D ys H',H1 D=none->Same H1 H'->H' D=some (.lst ys)->ys.length=n->(∀ i v,ys[i]?=some v->R i v H')->Q (.ref D) H'):CompGo own js g tTrue te σ Q (Itr lo n) H1:=by
 refine fG n Sg R hn h0 mono (λ i H' hi s=>hi) (λ H' s=>i6 _) (λ i x σ' H' H2 hi s hy sg C hC=>?_) fin;obtain⟨rfl,rfl⟩:=hy;exact step i σ' _ hi s sg C hC
end
inductive call_tupleG_i  (xs:List V) (H:Hp) (Q:VK):Prop
 | mk:∀ p ys,(xs=[.ref p])->(H p=some (.lst ys))->(∀ l H',Same H H'->H l=none->H' l=some (.tup ys)->Q (.ref l) H')->call_tupleG_i xs H Q
theorem cV {X:Cx}:CallR X (.type "tuple") (call_tupleG_i):=by
 intro pins s σ H xs us Q I r h;obtain⟨p,ys,rfl,hp,q⟩:=h;exact lE (X:=X) pins s σ H _ us Q I r ⟨p,ys,rfl,.inl ⟨SqL.of hp,λ l hl=>q l _ (aP hl) hl aM⟩⟩
theorem mM {X:Cx}{pos:Pos}:PE X (.Dict [] [] pos) (λ _ H Q=>∀ p H',Same H H'->H p=none->H' p=some (.dK [])->Q (.ref p) H'):=λ pins s σ H Q I h=>zbe (X:=X) pins s σ H Q I λ p hp=>h p _ (aP hp) hp aM
def Row3 (H:Hp)(v:V):Prop:=∃ (t:j8)(x y z:Int),v=.ref t/\H t=some (.tup [.int x,.int y,.int z])
structure BE (X:Cx)(e:uby)(t:TE):Prop where
 h:PE X e t
structure BA (X:Cx)(es:List uby)(t:TA):Prop where
 h:PA X es t
structure BS (X:Cx)(st:uc9)(t:TS):Prop where
 h:PS X st t
structure BSs (X:Cx)(ss:List uc9)(t:TS):Prop where
 h:PSs X ss t
section
variable {X:Cx}
theorem cG {st:uc9}{rest:List uc9}{t u:TS}(a:BS X st t)(b:BSs X rest u):BSs X (st::rest) (tSeq t u):=⟨aF a.h b.h⟩
theorem iA {st:uc9}{t:TS}(a:BS X st t):BSs X [st] t:=⟨aE a.h⟩
theorem fV {pos:Pos}{i:Nat}{x:Str}{e:uby}{te:TE}{pos':Pos}(hN:X.N.Nodup)(hi:X.N[i]?=some x)(hx:L2.Loc X.env.scope x)(he:BE X e te)(hs:swapsWith e (some (.Name x pos')) pos.line X.env=pure false:=by rfl)
  (hf:X.fn x=true\/X.env.scope.names.lookup x=some .local:=by first | exact .inl rfl | exact .inr rfl | assumption):BS X (.Assign [.Name x pos'] e pos) (tAsg te (gName i)):=⟨aQ hN hi hx he.h hs hf⟩
theorem jZ {es:List uby}{t:TA}{pos:Pos}(a:BA X es t):BE X (.List es pos) (tLstG t):=⟨cH a.h⟩
theorem dN {es:List uby}{t:TA}{pos:Pos}{x1:Nat}(a:BA X es t):BE X (.Tuple es x1 pos) (tTupG t):=⟨aZ a.h⟩
theorem cU:BA X [] tNil:=⟨aB⟩
theorem qJ {e:uby}{es:List uby}{te:TE}{t:TA}(a:BE X e te)(b:BA X es t)(hs:uav (e::es) X.env=(false,eval e X.env)::uav es X.env:=by rfl):BA X (e::es) (tCons te t):=⟨aA a.h b.h hs⟩
theorem fX {a b:uby}{ta tb:TE}{pos:Pos}{op:Operator}{r:R2}(ho:OpR X (binaryOp op) r)(ha:BE X a ta)(hb:BE X b tb):BE X (.BinOp a op b pos) (tOp r ta tb):=⟨aL ho ha.h hb.h⟩
end
end L3
namespace Far
inductive Walk (A:List (Nat × Nat × Int))(s:Nat):Nat->Int->Prop
 | nil:Walk A s s 0
 | snoc {u v:Nat} {l x:Int}:Walk A s u x->(u,v,l)∈A->Walk A s v (x+l)
variable {A:List (Nat × Nat × Int)}{s:Nat}
def Pos (A:List (Nat × Nat × Int)):Prop:=∀ u v l,(u,v,l)∈A->1<=l
theorem Walk.nonneg (P:Pos A){v:Nat}{x:Int}(h:Walk A s v x):0<=x:=by
 induction h with
 | nil=>exact uau 0
 | snoc _ m ih=>have:=P _ _ _ m;left
def Dst (A:List (Nat × Nat × Int))(s v:Nat)(o:Option Int):Prop:=(∀ y,o=some y->Walk A s v y)/\∀ L,Walk A s v L->∃ y,o=some y/\y<=L
theorem Dst.unique {v:Nat}{o p:Option Int}(h:Dst A s v o)(k:Dst A s v p):o=p:=by
 cases o with
 | none =>
  cases p with
  | none=>rfl
  | some y=>obtain⟨_,e,_⟩:=h.2 y (k.1 y rfl);cases e
 | some x =>
  obtain⟨y,rfl,hy⟩:=k.2 x (h.1 x rfl);obtain⟨z,e,hz⟩:=h.2 y (k.1 y rfl);cases e;rw[show x=y by left]
theorem least {P:Nat->Prop}:∀ n,P n->∃ m,P m/\∀ k,P k->m<=k:=by
 intro n;induction n using ugh with
 | ind n ih =>
  intro h;by_cases c:∃ k,k<n/\P k
  ·obtain⟨k,hk,pk⟩:=c;exact ih k hk pk
  ·exact⟨n,h,λ k pk=>by
    by_cases z:k<n
    ·exact absurd ⟨k,z,pk⟩ c
    ·left⟩
theorem xQ (P:Pos A)(s v:Nat):∃ o,Dst A s v o:=by
 by_cases c:∃ x,Walk A s v x
 ·obtain⟨x,hx⟩:=c;have nn:=hx.nonneg P;obtain⟨m,hm,mn⟩:=least (P:=λ k=>Walk A s v (k:Int)) x.toNat (by rw[uao nn];exact hx);refine⟨some m,λ y e=>by cases e;exact hm,λ L hL=>⟨m,rfl,?_⟩⟩;have n2:=hL.nonneg P;have:=mn L.toNat (by rw[uao n2];exact hL);left
 ·exact⟨none,⟨λ y e=>(by cases e),λ L hL=>absurd ⟨L,hL⟩ c⟩⟩
theorem Walk.cons {u v:Nat}{l:Int}(m:(u,v,l)∈A){w:Nat}{x:Int}(h:Walk A v w x):Walk A u w (x+l):=by
 induction h with
 | nil=>exact .snoc .nil m
 | snoc _ m' ih=>rw[ufj];exact .snoc ih m'
def Sym (A:List (Nat × Nat × Int)):Prop:=∀ u v l,(u,v,l)∈A->(v,u,l)∈A
theorem Walk.back (S:Sym A){v:Nat}{x:Int}(h:Walk A s v x):Walk A v s x:=by
 induction h with
 | nil=>exact .nil
 | snoc _ m ih=>exact ih.cons (S _ _ _ m)
theorem Dst.back (S:Sym A){v:Nat}{o:Option Int}(h:Dst A s v o):Dst A v s o:=⟨λ y e=>(h.1 y e).back S,λ L hL=>h.2 L (hL.back S)⟩
def lt2 (e f:Int × Int):Prop:=e.1<f.1\/(e.1=f.1/\e.2<f.2)
def get {α:Type}(cs:List (Option α))(v:Nat):Option α:=cs.getD v none
theorem bF {α:Type}{cs:List (Option α)}{v i:Nat}{x:Option α}(h:v<cs.length):get (cs.set v x) i=if i=v then x else get cs i:=by
 unfold get;rw[f9,List.getElem?_set,f9];by_cases c:v=i
 ·subst c;simp [h]
 ·simp [c,Ne.symm c]
def ct {α:Type}:List (Option α)->Nat
 | []=>0
 | none::r=>ct r
 | some _::r=>ct r+1
theorem iI {α:Type}:∀ cs:List (Option α),ct cs<=cs.length
 | []=>i6 0
 | none::r=>Nat.le_succ_of_le (iI r)
 | some _::r=>uf8 (iI r)
theorem iE {α:Type}{c:α}:∀ {cs:List (Option α)}{v:Nat},v<cs.length->ct (cs.set v (some c))=ct cs+(if (get cs v).isSome then 0 else 1)
 | none::r,0,_=>rfl
 | some _::r,0,_=>rfl
 | none::r,v+1,h=>iE (cs:=r) (v:=v) (by simpa using h)
 | some _::r,v+1,h=>by
  have:=iE (c:=c) (cs:=r) (v:=v) (by simpa using h);show ct (r.set v (some c))+1=ct r+1+_;rw[this];show _=ct r+1+(if (get r v).isSome then 0 else 1);left
theorem rF {α:Type}:∀ {cs:List (Option α)}{v:Nat}{c:α},get cs v=some c->1<=ct cs
 | [],v,c,h=>by cases h
 | some _::r,_,_,_=>uf8 (x8 _)
 | none::r,0,c,h=>by cases h
 | none::r,v+1,c,h=>rF (cs:=r) (v:=v) (c:=c) h
def WM:Int:=2^130
def mW:Option (Int × Int)->Nat
 | none=>(2^250)
 | some c=>(c.1*WM+c.2).toNat
def mu:List (Option (Int × Int))->Nat
 | []=>0
 | c::r=>mW c+mu r
theorem qV {x:Option (Int × Int)}:∀ {cs:List (Option (Int × Int))}{v:Nat},v<cs.length->mW x<mW (get cs v)->mu (cs.set v x)<mu cs
 | c::r,0,_,h=>Nat.add_lt_add_right (k:=mu r) h
 | c::r,v+1,hl,h=>Nat.add_lt_add_left (k:=mW c) (qV (cs:=r) (v:=v) (by simpa using hl) h)
structure Good (A:List (Nat × Nat × Int))(n s:Nat)(cs:List (Option (Int × Int))):Prop where
 len:cs.length=n
 walk:∀ v c,get cs v=some c->Walk A s v c.1
 w0:∀ v c,get cs v=some c->0<=c.2/\c.2<=c.1*2^60
 top:∀ v c,get cs v=some c->c.1<=((ct cs:Nat)-1:Int)*10^18
 start:∃ c,get cs s=some c/\c.1<=0
theorem Good.step {n u v:Nat}{l w:Int}{cs:List (Option (Int × Int))}{c:Int × Int}(P:Pos A)(n24:n<=24)(g:Good A n s cs)(arc:(u,v,l)∈A)(l1:l<=10^18)(w0:0<=w)(w1:w<=2^60)(hv:v<n)(hu:get cs u=some c)
  (h:get cs v=none\/∃ c',get cs v=some c'/\lt2 (c.1+l,c.2+w) c'):Good A n s (cs.set v (some (c.1+l,c.2+w)))/\mu (cs.set v (some (c.1+l,c.2+w)))<mu cs:=by
 have hv':v<cs.length:=by rw[g.len];exact hv
 have l0:=P _ _ _ arc;have wk:=Walk.snoc (g.walk _ _ hu) arc;have c0:=(g.walk _ _ hu).nonneg P;obtain⟨cw0,cw1⟩:=g.w0 _ _ hu;have ct24:ct cs<=24:=by have:=iI cs;rw[g.len] at this;left
 have ctp:=rF hu;have es:=iE (c:=(c.1+l,c.2+w)) hv';have topc:=g.top _ _ hu;have wbound:c.2+w<=(c.1+l)*2^60:=by rw[Int.add_mul];left
 have big:c.1+l<=((ct (cs.set v (some (c.1+l,c.2+w))):Nat)-1:Int)*10^18:=by
  rw[es];rcases h with h | ⟨c',h,hlt⟩
  ·rw[h];show _<=(((ct cs+1:Nat):Int)-1)*10^18;left
  ·rw[h];show _<=(((ct cs+0:Nat):Int)-1)*10^18;have:=g.top _ _ h;unfold lt2 at hlt;simp only at hlt;left
 have ctm:ct cs<=ct (cs.set v (some (c.1+l,c.2+w))):=by rw[es];exact ud3 _ _
 refine⟨⟨by rw[ub3];exact g.len,λ v' d e=>?_,λ v' d e=>?_,λ v' d e=>?_,?_⟩,?_⟩
 ·rw[bF hv'] at e;split at e
  ·rename_i z;subst z;cases e;exact wk
  ·exact g.walk _ _ e
 ·rw[bF hv'] at e;split at e
  ·cases e;exact⟨by show 0<=c.2+w;left,wbound⟩
  ·exact g.w0 _ _ e
 ·rw[bF hv'] at e;split at e
  ·cases e;exact big
  ·have:=g.top _ _ e;left
 ·obtain⟨d,hd,hd0⟩:=g.start;rw[bF hv'];split
  ·rename_i z;subst z;refine⟨A,?_⟩;rcases h with h | ⟨c',h,hlt⟩
   ·rw[h] at hd;cases hd
   ·rw[h] at hd;cases hd;unfold lt2 at hlt;simp only at hlt;show c.1+l<=0;left
  ·exact⟨d,hd,hd0⟩
 ·refine qV hv' ?_;have ctb:ct (cs.set v (some (c.1+l,c.2+w)))<=24:=by have:=iI (cs.set v (some (c.1+l,c.2+w)));rw[ub3,g.len] at this;left
  have x23:c.1+l<=23*10^18:=by left
  have y23:c.2+w<=23*10^18*2^60:=by left
  have WMe:WM=1361129467683753853853498429727072845824:=by decide
  rcases h with h | ⟨c',h,hlt⟩
  ·rw[h];show ((c.1+l)*WM+(c.2+w)).toNat<2^250;have:(c.1+l)*WM+(c.2+w)<2^250:=by rw[WMe];left
   left
  ·rw[h];obtain⟨d0,d1⟩:=g.w0 _ _ h;have t0:=(g.walk _ _ h).nonneg P;have tt:=g.top _ _ h;show ((c.1+l)*WM+(c.2+w)).toNat<(c'.1*WM+c'.2).toNat;unfold lt2 at hlt;simp only at hlt;have:(c.1+l)*WM+(c.2+w)<c'.1*WM+c'.2:=by
    rw[WMe];rcases hlt with z | ⟨z,z'⟩
    ·left
    ·rw[z];left
   have p0:0<=(c.1+l)*WM+(c.2+w):=by rw[WMe];left
   left
def Stab (A:List (Nat × Nat × Int))(cs:List (Option (Int × Int))):Prop:=∀ u v l c,(u,v,l)∈A->get cs u=some c->∃ c',get cs v=some c'/\c'.1<=c.1+l
theorem Good.dst {n:Nat}{cs:List (Option (Int × Int))}(g:Good A n s cs)(st:Stab A cs)(v:Nat):Dst A s v ((get cs v).map (·.1)):=by
 refine⟨λ y e=>?_,λ L hL=>?_⟩
 ·cases h:get cs v with
  | none=>rw[h] at e;cases e
  | some c=>rw[h] at e;cases e;exact g.walk _ _ h
 ·have:∃ c,get cs v=some c/\c.1<=L:=by
   induction hL with
   | nil=>exact g.start
   | snoc _ m ih =>
    obtain⟨c,hc,hle⟩:=ih;obtain⟨c',hc',hle'⟩:=st _ _ _ _ m hc;exact⟨c',hc',by left⟩
  obtain⟨c,hc,hle⟩:=this;exact⟨c.1,by rw[hc];rfl,hle⟩
structure Snd (A:List (Nat × Nat × Int))(n s:Nat)(D:List (Option Int)):Prop where
 len:D.length=n
 walk:∀ v x,get D v=some x->Walk A s v x
 start:∃ x,get D s=some x/\x<=0
structure Rnd (A:List (Nat × Nat × Int))(n s:Nat)(δ:Nat->Option Int)(D0:List (Option Int))(B:(Nat × Nat × Int)->Prop)(D:List (Option Int)):Prop where
 snd:Snd A n s D
 keep:∀ v,get D0 v=δ v->get D v=δ v
 arc:∀ u v l x,B (u,v,l)->get D0 u=δ u->δ u=some x->∃ y,get D v=some y/\y<=x+l
section
variable {n:Nat}{δ:Nat->Option Int}{D0 D:List (Option Int)}{B:(Nat × Nat × Int)->Prop}{u v:Nat}{l:Int}
def plus (B:(Nat × Nat × Int)->Prop)(a:Nat × Nat × Int):(Nat × Nat × Int)->Prop:=λ b=>B b\/b=a
end
theorem gH {α:Type}{p q:α->Bool}:∀ {xs:List α},(∀ x∈xs,p x=true->q x=true)->(∃ x∈xs,q x=true/\p x=false)->xs.countP p<xs.countP q
 | [],_,⟨x,h,_⟩=>by cases h
 | a::r,h,⟨x,hx,e1,e2⟩=>by
  rw[ueq,ueq];have le:r.countP p<=r.countP q:=uez λ x hx=>h x (l9 _ hx);rcases j4.mp hx with rfl | hx
  ·rw[e1,e2];simp;left
  ·have:=gH (xs:=r) (λ x hx=>h x (l9 _ hx)) ⟨x,hx,e1,e2⟩;have:=h a j3;cases e:p a <;> cases e':q a <;> simp_all <;> left
def cnt (n:Nat)(δ:Nat->Option Int)(D:List (Option Int)):Nat:=(d7 n).countP λ v=>decide (get D v=δ v)
def Done (n:Nat)(δ:Nat->Option Int)(D:List (Option Int))(k:Nat):Prop:=(∀ v,v<n->get D v=δ v)\/k+1<=cnt n δ D
def PSt (c0:List (Option (Int × Int)))(B:(Nat × Nat × Int)->Prop)(cs:List (Option (Int × Int)))(ag:Bool):Prop :=
 (ag=false/\cs=c0/\∀ u v l c,B (u,v,l)->get c0 u=some c->∃ c',get c0 v=some c'/\c'.1<=c.1+l)\/(ag=true/\mu cs<mu c0)
section
variable {c0 cs:List (Option (Int × Int))}{B B':(Nat × Nat × Int)->Prop}{ag:Bool}{u v:Nat}{l w:Int}
end
theorem eI {α:Type}(n v:Nat):get (m5 n (none:Option α)) v=none:=by
 unfold get;rw[f9,udn];split <;> rfl
theorem rE {α:Type}:∀ n:Nat,ct (m5 n (none:Option α))=0
 | 0=>rfl
 | n+1=>rE n
theorem Good.first {n:Nat}(hs:s<n):Good A n s ((m5 n none).set s (some (0,0))):=by
 have hl:s<(m5 n (none:Option (Int × Int))).length:=by rw[ua1];exact hs
 have cases':∀ v c,get ((m5 n (none:Option (Int × Int))).set s (some (0,0))) v=some c->v=s/\c=(0,0):=λ v c e=>by
  rw[bF hl,eI] at e;split at e
  ·rename_i z;cases e;exact⟨z,rfl⟩
  ·cases e
 refine⟨by rw[ub3,ua1],λ v c e=>?_,λ v c e=>?_,λ v c e=>?_,⟨(0,0),?_,uau _⟩⟩
 ·obtain⟨rfl,rfl⟩:=cases' _ _ e;exact .nil
 ·obtain⟨rfl,rfl⟩:=cases' _ _ e;exact⟨uau _,by decide⟩
 ·obtain⟨rfl,rfl⟩:=cases' _ _ e;rw[iE hl,rE,eI];decide
 ·rw[bF hl,ug7 rfl]
end Far
namespace L3
open PySem PySem.Spec PyProof.Rows L2
def tieAt (ts:List Tie)(k:Nat):Tie:=ts.getD k (0,0,0)
def arcs2 (t:Tie):List (Nat × Nat × Int):=[(t.1.toNat,t.2.1.toNat,t.2.2),(t.2.1.toNat,t.1.toNat,t.2.2)]
def arcs (ts:List Tie)(ks:List Nat):List (Nat × Nat × Int):=ks.flatMap λ k=>arcs2 (tieAt ts k)
theorem arcs_mem {ts:List Tie}{ks:List Nat}{a:Nat × Nat × Int}:a∈arcs ts ks↔∃ k,k∈ks/\a∈arcs2 (tieAt ts k):=by
 unfold arcs;rw[ufz]
theorem arcs2_mem {t:Tie}{a:Nat × Nat × Int}:a∈arcs2 t↔a=(t.1.toNat,t.2.1.toNat,t.2.2)\/a=(t.2.1.toNat,t.1.toNat,t.2.2):=by
 unfold arcs2;simp
theorem dB {ts:List Tie}{k:Nat}(h:k<ts.length):ts[k]?=some (tieAt ts k)/\tieAt ts k∈ts:=by
 have e:ts[k]?=some (tieAt ts k):=by unfold tieAt;rw[f9,c7 h];rfl
 exact⟨e,uap e⟩
theorem oR {s t:Tie}(h:endLt s t)(e1:s.1=t.1)(e2:s.2.1=t.2.1):False:=by
 rcases h with h | h
 ·exact Int.lt_irrefl _ (e1 ▸ h)
 ·exact Int.lt_irrefl _ (e2 ▸ h.2)
theorem zaw {n:Int}{ts:List Tie}(ok:WebOk n ts){k k':Nat}(hk:k<ts.length)(hk':k'<ts.length)(e1:(tieAt ts k).1=(tieAt ts k').1)(e2:(tieAt ts k).2.1=(tieAt ts k').2.1):k=k':=by
 have pw:∀ i j (hi:i<ts.length) (hj:j<ts.length),i<j->endLt (tieAt ts i) (tieAt ts j):=λ i j hi hj z=>by
  have q:=ub5.mp ok.rise i j hi hj z;have g:∀ {i:Nat}(hi:i<ts.length),ts[i]=tieAt ts i:=λ {i} hi=>ubk ((c7 hi).symm.trans (dB hi).1)
  rwa [g hi,g hj] at q
 rcases ufu k k' with z | z | z
 ·exact (oR (pw k k' hk hk' z) e1 e2).elim
 ·exact z
 ·exact (oR (pw k' k hk' hk z) e1.symm e2.symm).elim
section
variable {n:Int}{ts:List Tie}{ks:List Nat}
theorem fI (ok:WebOk n ts)(ko:KeepOk ts.length ks):Far.Pos (arcs ts ks):=λ u v l h=>by
 obtain⟨k,hk,h⟩:=arcs_mem.mp h;have:=ok.tie _ (dB (ko.2 k hk)).2;rcases arcs2_mem.mp h with h | h <;> cases h <;> left
end
def CV (H:Hp)(v:V):Option (Int × Int)->Prop
 | none=>v=.non
 | some e=>∃ t,v=.ref t/\H t=some (.tup [.int e.1,.int e.2])
theorem CV.keep {H H':Hp}(k:TupKeep H H'){v:V}:∀ {o:Option (Int × Int)},CV H v o->CV H' v o
 | none,h=>h
 | some e,⟨t,h1,h2⟩=>⟨t,h1,k _ _ h2⟩
def CostL (H:Hp)(vs:List V)(cs:List (Option (Int × Int))):Prop:=vs.length=cs.length/\∀ i v,vs[i]?=some v->CV H v (Far.get cs i)
section
variable {H H' J J':Hp}{vs cvs avs ws:List V}{cs:List (Option (Int × Int))}{lw lc la t:j8}{n k:Nat}{x y:Int}
theorem CostL.keep (h:CostL H vs cs)(k:TupKeep H H'):CostL H' vs cs:=⟨h.1,λ i v e=>(h.2 i v e).keep k⟩
theorem CostL.set {v:V}{c:Int × Int}(h:CostL H vs cs)(hk:k<vs.length)(hv:CV H v (some c)):CostL H (vs.set k v) (cs.set k (some c)):=by
 refine⟨by rw[ub3,ub3];exact h.1,λ i u e=>?_⟩;rw[Far.bF (by rw[← h.1];exact hk)];rw[List.getElem?_set] at e;by_cases z:k=i
 ·subst z;rw[ug7 rfl,ug7 hk] at e;cases e;rw[ug7 rfl];exact hv
 ·rw[ug8 z] at e;rw[ug8 (Ne.symm z)];exact h.2 i u e
theorem CostL.first (n:Nat):CostL H (m5 n .non) (m5 n none):=by
 refine⟨by rw[ua1,ua1],λ i v e=>?_⟩;rw[Far.eI];rw[udn] at e;split at e
 ·cases e;rfl
 ·cases e
theorem fS {p:j8}{xs:List V}{o:HO}(h:J p=some (.lst xs)):TupKeep J (upd J p o):=λ a ys e=>by
 rw[aJ (λ z=>by rw[z,h] at e;cases e)];exact e
theorem pG (s:Same J J'):TupKeep J J':=λ a xs e=>s _ _ e
structure RH (H J:Hp)(lw lc la:j8)(ws:List V)(n:Nat)(cs:List (Option (Int × Int))):Prop where
 same:Same H J
 fc:H lc=none
 fa:H la=none
 nwc:lw≠lc
 nwa:lw≠la
 nca:lc≠la
 wl:J lw=some (.lst ws)
 co:∃ cvs,J lc=some (.lst cvs)/\CostL J cvs cs
 ah:∃ avs,J la=some (.lst avs)/\avs.length=n
end
theorem pL {α:Type}(x:α):∀ k:Nat,(m5 k [x]).flatten=m5 k x
 | 0=>rfl
 | k+1=>by rw[ucx,udw,pL x k];rfl
def ov:Option Int->V
 | none=>.non
 | some x=>.int x
theorem dR {D:List (Option Int)}{i:Nat}(h:i<D.length):(D.map ov)[i]?=some (ov (Far.get D i)):=by
 rw[l7,c7 h];unfold Far.get;rw[f9,c7 h];rfl
theorem bP {α:Type}{xs:List α}{i:Int}{x:α}(h0:0<=i)(h:xs[i.toNat]?=some x):atI xs i=some x:=by
 have hl:=(j6.mp h).1;unfold atI ixN;rw[ug7 h0,ug7 (by left)];exact h
theorem fP {n:Nat}{i:Int}(h0:0<=i)(h:i<n):ixN n i=some i.toNat:=by
 unfold ixN;rw[ug7 h0,ug7 h]
inductive rRep1_i  (x:V) (y:V) (H:Hp) (Q:VK):Prop
 | mk:∀ l k z,(x=.ref l)->(y=.int k)->(H l=some (.lst [z]))->(0<=k)->(k<=1000)->(∀ p H',Same H H'->H p=none->H' p=some (.lst (m5 k.toNat z))->Q (.ref p) H')->rRep1_i x y H Q
def rRep1 :R2:=λ x y H Q=>rRep1_i x y H Q
theorem pS {X:Cx}:OpR X (binaryOp .Mult) rRep1:=by
 intro pins s σ H x y v u Q I rx ry h;obtain⟨l,k,z,rfl,rfl,hH,h1,h2,q⟩:=h;refine zej (X:=X) pins s σ H _ _ v u Q I rx ry ⟨l,k,E,hH,by left,by left,?_,λ p hp=>q p _ (aP hp) hp (by rw[aM,pL])⟩;exact o8 (by show 1*k.toNat<=1000;left) (by decide:1000<=o7)
theorem gR {K:b9}{H:Hp}:∀ {ts:List Tie}{ws:List V}{k:Nat},IsAll K H (ts.map tieD) ws->k<ts.length->∃ a,ws[k]?=some (.ref a)/\H a=some (.tup [.int (tieAt ts k).1,.int (tieAt ts k).2.1,.int (tieAt ts k).2.2])
 | t::r,ws,0,h,_=>by
  obtain⟨v,vs,rfl,h1,_⟩:=h;obtain⟨a,xs,rfl,ha,hx⟩:=h1;have e:xs=(tieI t).map V.int:=IsAll.of_ints (ns:=tieI t) hx;subst e;exact⟨a,rfl,ha⟩
 | t::r,ws,k+1,h,hk=>by
  obtain⟨v,vs,rfl,_,h2⟩:=h;obtain⟨a,e,ha⟩:=gR (ts:=r) (ws:=vs) (k:=k) h2 (by simpa using hk);exact⟨a,e,ha⟩
theorem iN {K:b9}{H:Hp}{ks:List Nat}{v:V}(h:Is K H (keepD ks) v):∃ p,v=.ref p/\H p=some (.tup ((keepI ks).map V.int)):=by
 obtain⟨p,vs,rfl,hp,hx⟩:=h;have e:=IsAll.of_ints hx;subst e;exact⟨p,rfl,hp⟩
theorem pW {ks:List Nat}{i:Nat}{x:V}(h:((keepI ks).map V.int)[i]?=some x):∃ k,ks[i]?=some k/\x=.int (k:Int):=by
 unfold keepI at h;rw[ua5,l7] at h;cases e:ks[i]? with
 | none=>rw[e] at h;cases h
 | some k=>rw[e] at h;cases h;exact⟨k,P⟩
theorem qF {H:Hp}{vs:List V}{cs:List (Option (Int × Int))}{i:Int}(h:CostL H vs cs)(h0:0<=i)(hi:i.toNat<cs.length):∃ v,atI vs i=some v/\CV H v (Far.get cs i.toNat):=by
 have hl:i.toNat<vs.length:=by rw[h.1];exact hi
 have e:vs[i.toNat]?=some vs[i.toNat]:=c7 hl;exact⟨_,bP h0 e,h.2 _ _ e⟩
def pows (m:Nat):List V:=(d7 m).map λ i=>V.int (2^i)
theorem zc6 {m i:Nat}(h:i<m):(pows m)[i]?=some (.int (2^i)):=by unfold pows;rw[l7,uc0 h];rfl
theorem yP (m:Nat):pows (m+1)=pows m++[.int (2^m)]:=by unfold pows;rw[uba,ub2];rfl
theorem zed {i:Nat}(h:i<60):(0:Int)<=2^i/\(2:Int)^i<=2^60:=by
 have e:((2^i:Nat):Int)=(2:Int)^i:=by norm_cast
 have:2^i<=2^60:=Nat.pow_le_pow_right (by decide) (by left);constructor
 ·rw[← e];exact uad _
 ·rw[← e];exact_mod_cast this
def spWeights (K:b9):Sp:=λ vs H Q _=>∃ n ts v,vs=[v]/\Is K H (webD n ts) v/\ts.length<=60/\∀ l H',Same H H'->H l=none->H' l=some (.lst (pows ts.length))->Q (.ref l) H'
def spCost (K:b9):Sp:=λ vs H Q _=>∃ c x y l w,vs=[.ref c,.int l,.int w]/\H c=some (.tup [.int x,.int y])/\∀ t H',Same H H'->H' t=some (.tup [.int (x+l),.int (y+w)])->Q (.ref t) H'
def WK (K:b9)(H:Hp)(n:Int)(ts:List Tie)(ks:List Nat)(wv kv:V):Prop:=Is K H (webD n ts) wv/\WebOk n ts/\Is K H (keepD ks) kv/\KeepOk ts.length ks
def spReached (K:b9):Sp:=λ vs H Q _=>∃ n ts ks wv kv r,vs=[wv,kv,.int r]/\WK K H n ts ks wv kv/\0<=r/\r<n /\
 ∀ p lc la cvs avs cs H',Same H H'->H' p=some (.tup [.ref lc,.ref la])->H' lc=some (.lst cvs)->H' la=some (.lst avs)->CostL H' cvs cs->Far.Good (arcs ts ks) n.toNat r.toNat cs->Far.Stab (arcs ts ks) cs->Q (.ref p) H'
def spFars (K:b9):Sp:=λ vs H Q _=>∃ n ts ks wv kv r,vs=[wv,kv,.int r]/\WK K H n ts ks wv kv/\0<=r/\r<n /\
 ∀ l D H',Same H H'->H l=none->H' l=some (.lst (D.map ov))->D.length=n.toNat->(∀ v,v<n.toNat->Far.Dst (arcs ts ks) r.toNat v (Far.get D v))->Q (.ref l) H'
end L3
namespace HT
open PySem PyProof.Rows
open Sem (wp)
theorem kZ:fillsNumberSlot (.type "tuple") "mul"=pure false :=
 PySem.fillsNumberSlot_seq (id:="tuple.__mul__") (r:=some (.builtin "tuple.__rmul__")) uew.lookup (by symm) F.slot_tuple_rmul.lookup (by symm)
theorem lG:seqRepeat? (.type "tuple")=pure (some (.builtin "tuple.__mul__")):=by
 unfold seqRepeat?;rw[PySem.seqSlot_of (T:="tuple") (name:="__mul__") (id:="tuple.__mul__") uew.lookup (by symm),PySem.seqSlot_of (T:="tuple") (name:="__rmul__") (id:="tuple.__rmul__") F.slot_tuple_rmul.lookup (by symm)];rfl
theorem lB (a:Int)(t:Tok)(l:j8)(items:Array c9)(n:Nat)(dd:Option j8)(sl:Array (Option c9)) :
  Meets (Builtin.«int.__rmul__» ⟨[.int a t,.ref l],[]⟩) (λ _ R s=>s.heap.get? l=some { cls:=.type "tuple",dict:=dd,data:=.seq items n,slots:=sl }/\R (.ok (.ret Value.notImplemented)) s) :=
 .of_wp λ prog w A R s h=>by obtain⟨hp,g,d,tk,os⟩:=s;obtain⟨hl,h⟩:=h;wp_walk;exact⟨A,h⟩
theorem xF (l:j8)(items:Array c9)(n:Nat)(x:Int)(u:Tok)(dd:Option j8)(sl:Array (Option c9))(h0:¬ (decide (x < -(2^63))||decide (x ≥ 2^63))=true)(h1:¬ (items.isEmpty||x==1)=true)(h2:¬ (decide (x<=0)||items.isEmpty)=true)
  (h3:¬ (items.size:Int)*x>(2^63-1) / 8) (h4:¬ Builtin.Tuple.tupleTooMany ((items.size:Int)*x)=true) (hz:((m5 x.toNat items).foldl (λ x1 x2=>x1++x2) #[]).size<=o7) :
  Meets (Builtin.«tuple.__mul__» ⟨[.ref l,.int x u],[]⟩) (λ _ R s=>s.heap.get? l=some { cls:=.type "tuple",dict:=dd,data:=.seq items n,slots:=sl }/\R (.ok (.ret (Value.ref s.heap.objs.size))) { s with heap:=s.heap.push { cls:=Value.type "tuple",data:=Data.seq ((m5 x.toNat items).foldl (λ x1 x2=>x1++x2) #[]) },toks:=s.toks }) :=
 .of_wp λ prog w A R s h=>by
  obtain⟨hp,g,d,tk,os⟩:=s;obtain⟨hl,h⟩:=h;have f1:=AutoSeq1.idx_int;have f2:=AutoSeq1.sub_tuple_tuple
  wp_walk using uc3 hl
  refine wpAny_ite_false (ug5 h0) ?_
  wp_walk using uc3 hl
  refine wpAny_ite_false (ug5 h3) ?_
  wp_walk
  first | exact⟨A,h⟩ | (refine wpAny_ite_false (ug5 (Nat.not_lt.mpr hz)) ?_;wp_walk;exact⟨A,h⟩)
theorem za7 (xs:Array c9):∀ (k:Nat)(acc:Array c9),(ufp (λ x1 x2=>x1++x2) acc (m5 k xs)).size=acc.size+k*xs.size:=AutoListH.size_joined xs
section
variable {prog:n0}{w:uak}{A:uaj}{E:c9->d8->Prop}{s:d8}
theorem zD {l:j8}{items:Array c9}{x:Int}{u:Tok}{Q:c9->d8->Prop}(hl:IsTup s.heap l items)(hx:2<=x)(hx2:x<=1000)(hne:items.size≠0)(hz:items.size*x.toNat<=1000)
  (h:Q (.ref s.heap.objs.size) { s with heap:=s.heap.push { cls:=Value.type "tuple",data:=Data.seq ((m5 x.toNat items).foldl (λ x1 x2=>x1++x2) #[]) } }):j7 (p9 prog w) A (binaryOp .Mult (.ref l) (.int x u)) Q E s:=by
 obtain⟨⟨cls,dd,data,sl⟩,ho,hc,n,hd⟩:=id hl;simp only at hc hd;subst hc hd;have em:items.isEmpty=false:=by
  rw[Array.isEmpty];exact ug5 hne
 have big:(items.size:Int)*x<=1000:=by
  have:((items.size*x.toNat:Nat):Int)<=1000:=by exact_mod_cast hz
  rw[Int.natCast_mul,uao (by left)] at this;exact this
 have line:(1000:Int)<=(o7:Int):=by decide
 refine ueo (T:="tuple") (U:="int") (by decide) ⟨_,ho,rfl⟩ (λ s'=>uet s' x u) kZ ugu udu lG ugc.lookup
  (udr udu (uet s x u) ugf (uf7 _ _) (lB x u l items n dd sl)
   ⟨ho,rfl,⟨_,ho,rfl⟩,udr uew ⟨_,ho,rfl⟩ F.entry_tuple_mul (F.args_tuple_mul_2 _ _) (xF l items n x u dd sl ?_ ?_ ?_ ?_ ?_ ?_) ⟨ho,h⟩⟩)
 ·rw[ug5 (by left),ug5 (by left)];exact j9
 ·rw[em,Bool.false_or];simp;left
 ·rw[em,ug5 (by left)];exact j9
 ·left
 ·unfold Builtin.Tuple.tupleTooMany;rw[ug5 (by left)];exact j9
 ·rw[za7];show 0+x.toNat*items.size<=o7;rw[Nat.mul_comm];exact o8 (by left) (by decide:1000<=o7)
end
end HT
namespace L3
open PySem PySem.Spec PyProof.Rows L2
def capO (roof:Int):Option Int->Int
 | none=>roof
 | some x=>if roof<x then roof else x
def IntT (H:Hp)(p:j8)(hs:List Int):Prop:=H p=some (.tup (hs.map V.int))/\hs.length<=1000
def AllI (xs:List V):Prop:=∃ ns:List Int,xs=ns.map V.int
theorem jG:∀ hs:List Int,PyData.canLayAll0 (hs.map .int)=true
 | []=>rfl
 | t::r=>by
  show (PyData.canLay0 (.int t)&&PyData.canLayAll0 (r.map .int))=true;rw[jG r];rfl
theorem mY:∀ hs:List Int,ufw (hs.map .int)<=1
 | []=>x8 _
 | t::r=>by
  show max (ufh (.int t)) (ufw (r.map .int))<=1;have h1:=mY r;have h2:ufh (.int t)<=1:=o8 (ubi (by rfl:ufh (.int t)=0)) (by decide);left
section
variable {g:TG}{te:TE}{own:List Str}{js:List Nat}{σ:L2.St}{H1:Hp}{Q:VK}
end
inductive rRepT_i  (x:V) (y:V) (H:Hp) (Q:VK):Prop
 | mk:∀ a k xs,(x=.ref a)->(y=.int k)->(H a=some (.tup xs))->(2<=k)->(k<=1000)->(xs.length*k.toNat<=1000)->(xs≠[])->(∀ p H',Same H H'->H' p=some (.tup (m5 k.toNat xs).flatten)->Q (.ref p) H')->rRepT_i x y H Q
def rRepT :R2:=λ x y H Q=>rRepT_i x y H Q
theorem zdd {X:Cx}:OpR X (binaryOp .Mult) rRepT:=by
 intro pins s σ H x y v u Q I rx ry h;obtain⟨a,k,xs,rfl,rfl,ha,k2,k3,hz,hne,q⟩:=h;cases rx;obtain⟨t,rfl⟩:=ry;obtain⟨its,rv,pt,hzz⟩:=I.tuple (SqT.of ha);have hl:=rv.length;have fr:H s.heap.objs.size=none:=I.hok.fresh (i6 _);have enew:ufp (λ x1 x2=>x1++x2) #[] (m5 k.toNat its.toArray)=(m5 k.toNat its).flatten.toArray:=by
  have:=iV its k.toNat [];rw[List.nil_append] at this;exact this
 refine HT.zD pt k2 k3 ?_ ?_ ?_
 ·rw[j5,← hl];exact λ z=>hne (uc4 z)
 ·rw[j5,← hl];exact hz
 ·rw[enew];refine⟨.ref s.heap.objs.size,_,I.laid (t':=s.toks) (o:=.tup (m5 k.toNat xs).flatten) (λ b ob q=>a9 _ q) (i6 _) ⟨?_,_,rv.rep k.toNat,⟨_,i7 _ rfl,rfl,⟨_,rfl⟩,rfl⟩⟩,rfl,q _ _ (aP fr) aM⟩;rw[pV,Nat.mul_comm];exact o8 hz (by decide)
section
variable {J:It}{g:TG}{tt:TT}{te:TE}{own:List Str}{js:List Nat}{σ:L2.St}{H1:Hp}{Q:VK}
theorem oV (n:Nat)(Sg:L2.St->Prop)(sel:Nat->Option V)(hn:n<=1000)(h0:Sg (start3 own js σ))
  (go:∀ i H',i<n->Same H1 H'->J.go i H') (stop:∀ H',Same H1 H'->J.stop n H')
  (step:∀ i x σ' H' H2,i<n->Same H1 H'->J.yld i H' x H2->Sg σ'->∀ (C:L2.St->V->Hp->Prop)(L:L2.St->Hp->Prop),(∀ σ3 v H5,Sg σ3->Same H' H5->sel i=some v->C σ3 v H5)->(∀ σ3 H5,Sg σ3->Same H' H5->sel i=none->L σ3 H5) ->
   g x σ' H2 λ σ3 H3=>tt σ3 H3 λ b H4=>if b=true then te σ3 H4 λ v H5=>C σ3 v H5 else L σ3 H4)
  (fin:∀ D H',H1 D=none->Same H1 H'->H' D=some (.lst ((d7 n).filterMap sel))->Q (.ref D) H'):CompGo own js g tt te σ Q J H1:=by
 intro D hD;refine⟨λ i m ys σ' H'=>m=n-i/\i<=n/\Sg σ'/\Same H1 H'/\ys=(d7 i).filterMap sel,⟨n,rfl,x8 _,h0,aP hD,rfl⟩,?_⟩;rintro i m ys σ' H' ⟨rfl,hi,sg,sm,rfl⟩ hd;have len:((d7 i).filterMap sel).length<=i:=by have:=ugw sel (d7 i);rw[t5] at this;exact this
 by_cases hlt:i<n
 ·refine .inr ⟨go i H' hlt sm,λ x H2 hy=>?_⟩;refine step i x σ' H' H2 hlt sm hy sg
   (λ σ3 v H5=>H5 D=some (.lst ((d7 i).filterMap sel))/\((d7 i).filterMap sel).length<o7/\∃ m',m'<n-i/\(m'=n-(i+1)/\i+1<=n/\Sg σ3/\Same H1 (upd H5 D (.lst ((d7 i).filterMap sel++[v])))/\(d7 i).filterMap sel++[v]=(d7 (i+1)).filterMap sel))
   (λ σ3 H5=>H5 D=some (.lst ((d7 i).filterMap sel))/\∃ m',m'<n-i/\(m'=n-(i+1)/\i+1<=n/\Sg σ3/\Same H1 H5/\(d7 i).filterMap sel=(d7 (i+1)).filterMap sel)) (λ σ3 v H5 sg3 s5 e=>?_) (λ σ3 H5 sg3 s5 e=>?_)
  ·refine⟨s5 _ _ hd,ubn (by left:((d7 i).filterMap sel).length<=1000) (by decide),n-(i+1),by left,rfl,hlt,sg3,λ b o z=>?_,?_⟩
   ·rw[aJ (aY z hD)];exact s5 _ _ (sm _ _ z)
   ·rw[uba,ua6];simp [e]
  ·refine⟨s5 _ _ hd,n-(i+1),by left,rfl,hlt,sg3,sm.trans s5,?_⟩;rw[uba,ua6];simp [e]
 ·have e:i=n:=by left
  subst e;exact .inl ⟨stop H' sm,fin D H' hD sm hd⟩
theorem nA {t:Bool}{K:b9}{a:j8}{xs:List V}(hx:H1 a=some (if t=true then .tup xs else .lst xs))(Sg:L2.St->Prop)(sel:Nat->Option V)(hn:xs.length<=1000)(h0:Sg (start3 own js σ))
  (step:∀ i x T σ' H',xs[i]?=some x->Same H1 H'->H' T=none->Sg σ'->∀ (C:L2.St->V->Hp->Prop)(L:L2.St->Hp->Prop),(∀ σ3 v H5,Sg σ3->Same H' H5->sel i=some v->C σ3 v H5)->(∀ σ3 H5,Sg σ3->Same H' H5->sel i=none->L σ3 H5) ->
   g (.ref T) σ' (upd H' T (.tup [.int (i:Nat),x])) λ σ3 H3=>tt σ3 H3 λ b H4=>if b=true then te σ3 H4 λ v H5=>C σ3 v H5 else L σ3 H4)
  (fin:∀ D H',H1 D=none->Same H1 H'->H' D=some (.lst ((d7 xs.length).filterMap sel))->Q (.ref D) H'):CompGo own js g tt te σ Q (Itn t K a) H1:=by
 have s1:∀ H',Same H1 H'->SqX t K H' a xs:=λ H' s=>SqX.of (s _ _ hx);refine oV xs.length Sg sel hn h0 (λ i H' hi s=>⟨xs,xs[i],s1 H' s,by simp [hi]⟩) (λ H' s=>⟨xs,s1 H' s,i6 _⟩) (λ i x σ' H' H2 hi s hy sg C L hC hL=>?_) fin;obtain⟨T,y,hT,rfl,rfl,e⟩:=hy;exact step i y T σ' H' (e _ (s1 H' s)) s hT sg C L hC hL
end
end L3
namespace Far
variable {A:List (Nat × Nat × Int)}{s:Nat}
theorem Walk.trans {u v:Nat}{x y:Int}(h:Walk A s u x)(k:Walk A u v y):Walk A s v (x+y):=by
 induction k with
 | nil=>rw[Int.add_zero];exact h
 | snoc _ m ih=>rw[← Int.add_assoc];exact .snoc ih m
def Con (A:List (Nat × Nat × Int))(s v:Nat):Prop:=∃ x,Walk A s v x
noncomputable def rB (A:List (Nat × Nat × Int))(s v:Nat):Bool:=@decide (Con A s v) (Classical.propDecidable _)
theorem Con.symm (S:Sym A){v:Nat}(h:Con A s v):Con A v s:=let ⟨x,w⟩:=h;⟨x,w.back S⟩
end Far
namespace L3
open PySem PySem.Spec PyProof.Rows L2
def natV (ns:List Nat):List V:=ns.map λ v:Nat=>V.int (v:Int)
def pieceD (ns:List Nat):r8:=.tuple ((keepI ns).map .int)
def piecesD (pp:List (List Nat)):r8:=.tuple (pp.map pieceD)
theorem bM (ns:List Nat):natV ns=(keepI ns).map V.int:=by unfold natV keepI;rw[ua5];rfl
theorem oJ {K:b9}{H:Hp}{t:j8}{ns:List Nat}(h:H t=some (.tup (natV ns))):Is K H (pieceD ns) (.ref t):=⟨t,A,h,by rw[bM];exact IsAll.ints _⟩
theorem lJ {K:b9}{H:Hp}{ns:List Nat}{v:V}(h:Is K H (pieceD ns) v):∃ t,v=.ref t/\H t=some (.tup (natV ns)):=by
 obtain⟨p,e,hp⟩:=iN (ks:=ns) h;exact⟨p,e,by rw[hp,bM]⟩
theorem yJ (ns:List Nat):tupD (pieceD ns)=true:=zar ns
theorem eT:∀ pp:List (List Nat),tupAll (pp.map pieceD)=true
 | []=>rfl
 | p::r=>by
  show (tupD (pieceD p)&&tupAll (r.map pieceD))=true;rw[yJ,eT r];rfl
theorem gN (p:Nat->Bool):∀ is:List Nat,is.filterMap (λ i=>if p i=true then some (V.int (i:Int)) else none)=natV (is.filter p)
 | []=>rfl
 | i::r=>by
  rw[ua2,uf0];cases e:p i with
  | true=>rw[ug7 rfl,ug7 rfl,gN p r];rfl
  | false=>rw[ug8 j9,ug8 j9,gN p r]
theorem IsAll.snoc {K:b9}{H:Hp}{d:r8}{v:V}(hv:Is K H d v):∀ {ds:List r8}{vs:List V},IsAll K H ds vs->IsAll K H (ds++[d]) (vs++[v])
 | [],_,h=>by
  have e:_=[]:=h;subst e;exact⟨v,[],rfl,hv,rfl⟩
 | _::_,_,⟨u,r,e,h1,h2⟩=>by
  subst e;exact⟨u,r++[v],rfl,h1,IsAll.snoc hv h2⟩
theorem gY {a:Int}(h:0<=a)(ns:List Nat):inV (.int a) (natV ns)=decide (a.toNat∈ns):=by
 unfold inV natV;rw[List.any_map,uci,ucn,decide_eq_true_iff];constructor
 ·rintro ⟨v,hv,e⟩;have e':((v:Int)==a)=true:=e;have:(v:Int)=a:=by simpa using e'
  have e2:a.toNat=v:=by left
  rw[e2];exact hv
 ·intro m;exact⟨_,m,show (((a.toNat:Nat):Int)==a)=true by rw[uao h];simp⟩
theorem gQ (ns:List Nat):(natV ns).all flatV=true:=by
 unfold natV;rw[ucp];exact uas.mpr λ _ _=>rfl
end L3
namespace Srt
open PySem PySem.Spec PyProof.Rows PySem.W
section
variable {prog:n0}{w:uak}{A:uaj}{E:c9->d8->Prop}{s:d8}
end
end Srt
namespace HT
open PySem PyProof.Rows
section
variable {prog:n0}{w:uak}{A:uaj}{E:c9->d8->Prop}{s:d8}
theorem wQ {Q:List c9->d8->Prop}{r:j8}{a b c:Int}{t u v:Tok}{n:Nat}(hh:A.handled=none)(hr:IsRange s.heap r a b c t u v)(hsmall:Builtin.Range.small a b c=true)
  (hn:Builtin.Range.rangeSize a b c=n) (hlen:n<=2^24)
  (hQ:∀ h' tk acc',(∀ b o,s.heap.get? b=some o->h'.get? b=some o)->ItemsOf (λ i v=>∃ t,v=.int (a+i*c) t) acc' n->Q acc'.toList { s with heap:=h',toks:=tk }) :
  j7 (p9 prog w) A (collect (.ref r)) Q E s:=by
 unfold collect;refine a8 (ufk (uaz uft ?_));rw[Around.under_plainId ufs _];show j7 _ A.in1 (newList [] >>= λ l=>again (.builtin "list.__iadd__" ⟨[l,.ref r],[]⟩)) _ _ s;refine a8 (v8 ?_);refine c8 ⟨ubq udk _,uaz uge ?_⟩;rw[Around.under_plainId udk _];show j7 _ A.in1 (Builtin.List.listExtendWith (.ref s.heap.objs.size) (.ref r) (.ref s.heap.objs.size)) _ _ _;have hS:(s.heap.push { cls:=.type "list",data:=.seq ([]:List c9).toArray }).get? s.heap.objs.size=some { cls:=.type "list",data:=.seq #[] }:=i7 _ rfl;have fin' : ∀ (h' : Heap)(tk : Nat)(acc' : Array c9)(c' : Nat), (∀ b o, s.heap.get? b = some o → h'.get? b = some o) → h'.get? s.heap.objs.size = some { cls := .type "list", dict := none, data := .seq acc' c', slots := #[] } → ItemsOf (λ i v => ∃ t, v = .int (a+i*c) t) acc' n →
     j7 (p9 prog w) A (load s.heap.objs.size >>= λ o=>match o.data with | .seq xs _=>pure xs.toList | _=>unsupported "internal:collect") Q E { s with heap:=h',toks:=tk }:=λ h' tk acc' c' hk hS' hacc=>a8 (wpAny_load hS' (c8 (hQ h' tk acc' hk hacc)))
 refine ua9 (wpAny_extend_range (A:=A) (R:=λ r s'=>r=.ok (.ret (.ref s.heap.objs.size))/\∃ (h':Heap)(tk:Nat)(acc':Array c9)(c':Nat),s'={ s with heap:=h',toks:=tk }/\(∀ b o,s.heap.get? b=some o->h'.get? b=some o)/\h'.get? s.heap.objs.size=some { cls:=.type "list",dict:=none,data:=.seq acc' c',slots:=#[] }/\ItemsOf (λ i v=>∃ t,v=.int (a+i*c) t) acc' n)
  (s:={ s with heap:=s.heap.push { cls:=.type "list",data:=.seq ([]:List c9).toArray } }) hh (a9 _ hr) hsmall hn hlen s.heap.objs.size (.ref s.heap.objs.size) 0 hS λ h' tk acc' c' hk hS' hacc=>⟨rfl,h',tk,acc',c',rfl,λ b o e=>hk b o (l6 (i9 e)) (a9 _ e),hS',hacc⟩) (λ fin s' h=>?_) (λ e s' h=>?_)
 ·cases fin with
  | done f =>
   obtain⟨e,h',tk,acc',c',rfl,h1,h2,h3⟩:=h;cases e;exact fin' h' tk acc' c' h1 h2 h3
  | again c'=>exact⟨h.1,udf h.2 λ r s'' hr=>by obtain⟨rfl,h',tk,acc',c',rfl,h1,h2,h3⟩:=hr;exact fin' h' tk acc' c' h1 h2 h3⟩
 ·exact absurd h.1 (by simp)
end
theorem rW (r:j8)(a b c:Int)(t u v:Tok)(n:Nat)(hsmall:Builtin.Range.small a b c=true)(hn:Builtin.Range.rangeSize a b c=n)(hlen:n<=1000) :
  Meets (Builtin.«tuple.__new__» ⟨[.type "tuple",.ref r],[]⟩)
   (λ A R s=>A.handled=none/\IsRange s.heap r a b c t u v/\∀ (h':Heap)(tk:Nat)(acc':Array c9),(∀ b o',s.heap.get? b=some o'->h'.get? b=some o')->ItemsOf (λ i v=>∃ t,v=.int (a+i*c) t) acc' n->R (.ok (.ret (.ref h'.objs.size))) { s with heap:=h'.push { cls:=.type "tuple",data:=.seq acc' },toks:=tk }) :=
 .of_wp λ prog w A R s h=>by
  obtain⟨hp,g,d,tk,os⟩:=s;obtain⟨hh,hr,h⟩:=h;have hsub:=sub_tuple_self;have hinit:=init_tuple_lookup;have hmh:=madeHere_tuple;have hT:Shared.TypeIs ⟨hp,g,d,tk,os⟩ (.ref r) "range":=⟨_,hr,rfl⟩
  wp_walk using uc5 hT,wQ (A:=A.in1) hh hr hsmall hn (o8 hlen (by decide))
  intro h' tk' acc' hk hacc;show j7 _ _ (Builtin.Tuple.tupleExact acc'.toList.toArray >>= λ v=>ret v) _ _ _;unfold Builtin.Tuple.tupleExact;have sz:acc'.size=n:=hacc.1;refine a8 (v8 ?_ (by show acc'.toList.toArray.size<=o7;rw[show acc'.toList.toArray=acc' by simp,sz,ucm];left));refine c8 ⟨A,?_⟩;have e:acc'.toList.toArray=acc':=by simp
  rw[e];exact h h' tk' acc' hk hacc
section
variable {prog:n0}{w:uak}{A:uaj}{E:c9->d8->Prop}{s:d8}
theorem sI {Q:c9->d8->Prop}{r:j8}{a b c:Int}{t u v:Tok}{n:Nat}(hh:A.handled=none)(hr:IsRange s.heap r a b c t u v)(hsmall:Builtin.Range.small a b c=true)
  (hn:Builtin.Range.rangeSize a b c=n) (hlen:n<=1000)
  (hQ:∀ (h':Heap)(tk:Nat)(acc':Array c9),(∀ b o,s.heap.get? b=some o->h'.get? b=some o)->ItemsOf (λ i v=>∃ t,v=.int (a+i*c) t) acc' n->Q (.ref h'.objs.size) { s with heap:=h'.push { cls:=.type "tuple",data:=.seq acc' },toks:=tk }) :
  j7 (p9 prog w) A (call (.type "tuple") [.ref r]) Q E s :=
 callType_new PySem.F.called_tuple (by decide) (PySem.F.typeCall_tuple_1 _) (PySem.F.newCall_tuple_1 _) (λ obj=>PySem.F.args_object_init_2 obj _) PySem.F.entry_tuple_new
  (rW r a b c t u v n hsmall hn hlen) ⟨hh,hr,λ h' tk acc' hk hacc=>⟨⟨_,i7 _ rfl,rfl⟩,hQ h' tk acc' hk hacc⟩⟩
end
end HT
namespace L3
open PySem PySem.Spec PyProof.Rows L2
section
variable {X:Cx}
inductive call_tuple_rng_i  (xs:List V) (H:Hp) (Q:VK):Prop
 | mk:∀ (p:j8)(j:Int),(xs=[.ref p])->(H p=some (.rng 0 j))->(0<=j)->(j<=1000)->(∀ l H',Same H H'->H l=none->H' l=some (.tup (natV (d7 j.toNat)))->Q (.ref l) H')->call_tuple_rng_i xs H Q
theorem fZ (hh:X.calm=true):CallR X (.type "tuple") (call_tuple_rng_i):=by
 intro pins s σ H xs us Q I r h;obtain⟨p,j,rfl,hp,hj0,hj,q⟩:=h;obtain⟨u,rfl,rx⟩:=vals1 r;cases rx;obtain⟨t,u,v,e⟩:=(show ObjOk X.prog X.w H s.heap p (.rng 0 j) from I.hok p _ hp);refine HT.sI (n:=j.toNat) (I.ok.hd hh) (show IsRange s.heap p 0 j 1 t u v from e) (small_one (by left) (by left) (by left) (by left)) (by rw[rangeSize_one];split <;> left) (by left) λ h' tk acc hk hacc=>?_;have I1:Inv X pins σ H { s with heap:=h',toks:=tk }:=I.kept (t':=tk) hk;have fr:H h'.objs.size=none:=I1.hok.fresh (i6 _);refine⟨.ref h'.objs.size,upd H h'.objs.size (.tup (natV (d7 j.toNat))),I1.laid (t':=tk) (o:=.tup (natV (d7 j.toNat))) (λ b o e=>a9 _ e) (i6 _) ⟨?_,acc.toList,?_,(by rw[show acc.toList.toArray=acc by simp];exact⟨_,i7 _ rfl,rfl,⟨A⟩,rfl⟩)⟩,rfl,q _ _ (aP fr) fr aM⟩
 ·unfold natV;rw[i5,t5,ucm];left
 ·have go:∀ (n:Nat)(l:List c9),l.length=n->(∀ (k:Nat)(v:c9),l[k]?=some v->∃ t,v=Value.int (0+(k:Int)*1) t)->Vals ((d7 n).map λ i:Nat=>V.int (i:Int)) l:=by
   intro n l hl hv;have gen:∀ (l:List c9)(o:Nat),(∀ (k:Nat)(v:c9),l[k]?=some v->∃ t,v=Value.int ((o+k:Nat):Int) t)->Vals ((List.range' o l.length).map λ i:Nat=>V.int (i:Int)) l:=by
    intro l;induction l with
    | nil=>intro o _;exact .nil
    | cons x r ih =>
     intro o h;rw[ubs,List.range'_succ,ua8];obtain⟨t,ht⟩:=h 0 x rfl;refine .cons ⟨t,by simpa using ht⟩ (ih (o+1) λ k v hk=>?_);obtain⟨t,ht⟩:=h (k+1) v (by simpa using hk);exact⟨t,by rw[ht];congr 1;left⟩
   have:=gen l 0 λ k v hk=>by
    obtain⟨t,ht⟩:=hv k v hk;exact⟨t,by rw[ht];congr 1;left⟩
   rw[hl,← List.range_eq_range'] at this;exact this
  exact go j.toNat acc.toList (by rw[ua7];exact hacc.1) λ k v hv=>hacc.2 k v (by simpa using hv)
end
section
variable {g:TG}{tt:TT}{te:TE}{own:List Str}{js:List Nat}{σ:L2.St}{H1:Hp}{Q:VK}
theorem mZ {K:b9}{a:j8}{xs:List V}(hx:H1 a=some (.tup xs))(Sg:L2.St->Prop)(sel:Nat->Option V)(hn:xs.length<=1000)(h0:Sg (start3 own js σ))
  (step:∀ i x σ' H',xs[i]?=some x->Same H1 H'->Sg σ'->∀ (C:L2.St->V->Hp->Prop)(L:L2.St->Hp->Prop),(∀ σ3 v H5,Sg σ3->Same H' H5->sel i=some v->C σ3 v H5)->(∀ σ3 H5,Sg σ3->Same H' H5->sel i=none->L σ3 H5) ->
   g x σ' H' λ σ3 H3=>tt σ3 H3 λ b H4=>if b=true then te σ3 H4 λ v H5=>C σ3 v H5 else L σ3 H4)
  (fin:∀ D H',H1 D=none->Same H1 H'->H' D=some (.lst ((d7 xs.length).filterMap sel))->Q (.ref D) H'):CompGo own js g tt te σ Q (Itt K a) H1:=by
 refine oV xs.length Sg sel hn h0 (λ i H' hi s=>⟨xs,xs[i],SqT.of (s _ _ hx),by simp [hi]⟩) (λ H' s=>⟨xs,SqT.of (s _ _ hx),i6 _⟩) (λ i x σ' H' H2 hi s hy sg C L hC hL=>?_) fin;obtain⟨rfl,hy⟩:=hy;exact step i x σ' _ (hy xs (SqT.of (s _ _ hx))) s sg C L hC hL
end
def outs (m:Nat)(ks:List Nat):List Nat:=(d7 m).filter λ k=>decide (k∉ks)
noncomputable def gO (ts:List Tie)(ks:List Nat)(k:Nat):Option Int :=
 @dite (Option Int) (∃ o,Far.Dst (arcs ts ks) (tieAt ts k).1.toNat (tieAt ts k).2.1.toNat o) (Classical.propDecidable _) (λ h=>Classical.choose h) λ _=>none
def spWhole (K:b9):Sp:=λ vs H Q _=>∃ n ts v,vs=[v]/\Is K H (webD n ts) v/\ts.length<=60/\∀ l H',Same H H'->H l=none->H' l=some (.tup (natV (d7 ts.length)))->Q (.ref l) H'
def spOuts (K:b9):Sp:=λ vs H Q _=>∃ n ts ks wv kv,vs=[wv,kv]/\WK K H n ts ks wv kv/\∀ l H',Same H H'->H l=none->H' l=some (.lst (natV (outs ts.length ks)))->Q (.ref l) H'
theorem eN {ns:List Nat}{i:Nat}{x:V}(h:(natV ns)[i]?=some x):∃ k,ns[i]?=some k/\x=.int (k:Int):=by
 rw[bM] at h;exact pW h
end L3
namespace Far
variable {A:List (Nat × Nat × Int)}{s:Nat}
structure Ahd (A:List (Nat × Nat × Int))(s:Nat)(cs:List (Option (Int × Int)))(as:List (Option Nat)):Prop where
 len:as.length=cs.length
 root:get as s=none
 has:∀ v c,get cs v=some c->v≠s->get as v≠none
 arc:∀ v u,get as v=some u->∃ l cu cv,(u,v,l)∈A/\get cs u=some cu/\get cs v=some cv/\cu.1+l<=cv.1
inductive Tr (A:List (Nat × Nat × Int))(a:Nat):List Nat->Nat->Int->Prop
 | one:Tr A a [a] a 0
 | snoc {ws:List Nat} {u v:Nat} {x l:Int}:Tr A a ws u x->(u,v,l)∈A->Tr A a (ws++[v]) v (x+l)
end Far
namespace L3
open PySem PySem.Spec PyProof.Rows L2
def oa:Option Nat->V
 | none=>.non
 | some u=>.int (u:Int)
structure RA (H J:Hp)(lw lc la:j8)(ws:List V)(cs:List (Option (Int × Int)))(as:List (Option Nat)):Prop where
 same:Same H J
 fc:H lc=none
 fa:H la=none
 nwc:lw≠lc
 nwa:lw≠la
 nca:lc≠la
 wl:J lw=some (.lst ws)
 co:∃ cvs,J lc=some (.lst cvs)/\CostL J cvs cs
 ah:J la=some (.lst (as.map oa))
section
variable {H H' J J':Hp}{vs cvs ws:List V}{cs:List (Option (Int × Int))}{as:List (Option Nat)}{lw lc la t:j8}{k:Nat}{x y:Int}
theorem RA.step (h:RA H J lw lc la ws cs as)(s:Same J J'):RA H J' lw lc la ws cs as :=
 ⟨h.same.trans s,h.fc,h.fa,h.nwc,h.nwa,h.nca,s _ _ h.wl,let ⟨c,e,z⟩:=h.co;⟨c,s _ _ e,z.keep (pG s)⟩,s _ _ h.ah⟩
theorem RA.put (h:RA H J lw lc la ws cs as)(hc:J lc=some (.lst cvs))(hk:k<cvs.length)(ht:J t=some (.tup [.int x,.int y])):RA H (upd J lc (.lst (cvs.set k (.ref t)))) lw lc la ws (cs.set k (some (x,y))) as:=by
 obtain⟨c,e,z⟩:=h.co;rw[hc] at e;cases e;refine⟨λ b o eb=>?_,h.fc,h.fa,h.nwc,h.nwa,h.nca,?_,⟨_,aM,CostL.set (z.keep (fS hc)) hk ⟨t,rfl,fS hc _ _ ht⟩⟩,?_⟩
 ·rw[aJ (aY eb h.fc)];exact h.same _ _ eb
 ·rw[aJ h.nwc];exact h.wl
 ·rw[aJ h.nca.symm];exact h.ah
theorem RA.mark {u:Nat}(h:RA H J lw lc la ws cs as):RA H (upd J la (.lst ((as.map oa).set k (.int (u:Int))))) lw lc la ws cs (as.set k (some u)):=by
 obtain⟨c,e,z⟩:=h.co;refine⟨λ b o eb=>?_,h.fc,h.fa,h.nwc,h.nwa,h.nca,?_,⟨c,?_,z.keep (fS h.ah)⟩,?_⟩
 ·rw[aJ (aY eb h.fa)];exact h.same _ _ eb
 ·rw[aJ h.nwa];exact h.wl
 ·rw[aJ h.nca];exact e
 ·rw[aM,List.map_set];rfl
end
theorem rM {D:List (Option Nat)}{i:Nat}(h:i<D.length):(D.map oa)[i]?=some (oa (Far.get D i)):=by
 rw[l7,c7 h];unfold Far.get;rw[f9,c7 h];rfl
def WayV (H:Hp)(A:List (Nat × Nat × Int))(a b:Nat)(v:V):Prop:=(v=.non/\Far.Dst A a b none)\/∃ t ws x,v=.ref t/\H t=some (.tup (natV ws))/\ws.length<=24/\Far.Tr A a ws b x/\Far.Dst A a b (some x)
def isTB (ts:List Tie)(u v:Nat)(k:Nat):Bool:=decide ((tieAt ts k).1=min (u:Int) v)&&decide ((tieAt ts k).2.1=max (u:Int) v)
def tbN (ts:List Tie)(u v:Nat):Option Nat:=(d7 ts.length).find? (isTB ts u v)
def tlen (ts:List Tie)(u v:Nat):Int:=(tieAt ts ((tbN ts u v).getD 0)).2.2
def wl (ts:List Tie):List Nat->Int
 | u::v::r=>tlen ts u v+wl ts (v::r)
 | _=>0
def linked (ts:List Tie):List Nat->Prop
 | u::v::r=>(∃ k,tbN ts u v=some k/\k<ts.length)/\linked ts (v::r)
 | _=>True
def spTB (K:b9):Sp:=λ vs H Q _=>∃ (n:Int)(ts:List Tie)(wv:V)(u v:Nat),vs=[wv,.int (u:Int),.int (v:Int)]/\Is K H (webD n ts) wv/\ts.length<=60/\∀ H',Same H H'->Q (oa (tbN ts u v)) H'
theorem zbg (a b x y:Int):PyData.eqv (.tuple (([a,b]:List Int).map .int)) (.tuple (([x,y]:List Int).map .int))=(decide (a=x)&&decide (b=y)):=by
 show (_&&(_&&true))=_;rw[Bool.and_true];rfl
def but (ks:List Nat)(k:Nat):List Nat:=ks.filter λ j=>decide (j≠k)
def withinB (t l:Int):Option Int->Bool
 | none=>false
 | some x=>decide (x<=t*l)
end L3
namespace Far
def sumP:List Nat->Nat
 | []=>0
 | k::r=>2^k+sumP r
theorem gF {S S':List Nat}(h:S.Perm S'):sumP S=sumP S':=by
 induction h with
 | nil=>rfl
 | cons x _ ih=>show _+_=_+_;rw[ih]
 | swap x y l=>show 2^y+(2^x+sumP l)=2^x+(2^y+sumP l);left
 | trans _ _ h1 h2=>exact h1.trans h2
theorem vU (S:List Nat):∀ T:List Nat,sumP (S++T)=sumP S+sumP T:=by
 intro T;induction S with
 | nil=>show sumP T=0+sumP T;left
 | cons k r ih=>show 2^k+sumP (r++T)=2^k+sumP r+sumP T;rw[ih];left
theorem gT:∀ (m:Nat){S:List Nat},S.Nodup->(∀ k∈S,k<m)->sumP S<2^m
 | 0,S,_,h=>by
  cases S with
  | nil=>exact Nat.zero_lt_one
  | cons k r=>exact absurd (h k j3) (ud8 _)
 | m+1,S,nd,h=>by
  have e:2^(m+1)=2^m+2^m:=by rw[Nat.pow_succ];left
  by_cases c:m∈S
  ·have p:=udd c;have nd':(m::S.erase m).Nodup:=p.nodup_iff.mp nd;have:=gT m (S:=S.erase m) (ub1.mp nd').2 λ k hk=>by
    have h1:=h k (uex hk);have h2:k≠m:=λ z=>(ub1.mp nd').1 (z ▸ hk);left
   rw[gF p,e];show 2^m+sumP (S.erase m)<_;left
  ·have:=gT m nd λ k hk=>by
    have h1:=h k hk;have h2:k≠m:=λ z=>c (z ▸ hk);left
   left
theorem iZ:∀ (m:Nat){S S':List Nat},S.Nodup->S'.Nodup->(∀ k∈S,k<m)->(∀ k∈S',k<m)->sumP S=sumP S'->∀ k,k∈S->k∈S'
 | 0,S,S',_,_,h,_,_,k,hk=>absurd (h k hk) (ud8 _)
 | m+1,S,S',nd,nd',h,h',e,k,hk=>by
  have lower:∀ {T:List Nat},T.Nodup->(∀ k∈T,k<m+1)->m∉T->sumP T<2^m:=λ {T} n1 n2 n3=>gT m n1 λ j hj=>by
   have h1:=n2 j hj;have h2:j≠m:=λ z=>n3 (z ▸ hj);left
  by_cases c:m∈S
  ·have p:=udd c;have ndp:(m::S.erase m).Nodup:=p.nodup_iff.mp nd;have e1:sumP S=2^m+sumP (S.erase m):=gF p;by_cases c':m∈S'
   ·have p':=udd c';have ndp':(m::S'.erase m).Nodup:=p'.nodup_iff.mp nd';have e2:sumP S'=2^m+sumP (S'.erase m):=gF p';by_cases z:k=m
    ·rw[z];exact c'
    ·have lt:∀ {T:List Nat},(m::T.erase m).Nodup->(∀ k∈T,k<m+1)->∀ j∈T.erase m,j<m:=λ {T} n1 n2 j hj=>by
      have h1:=n2 j (uex hj);have h2:j≠m:=λ y=>(ub1.mp n1).1 (y ▸ hj);left
     have:=iZ m (ub1.mp ndp).2 (ub1.mp ndp').2 (lt ndp h) (lt ndp' h') (by left) k ((List.mem_erase_of_ne z).mpr hk);exact uex this
   ·have:=lower nd' h' c';left
  ·by_cases c':m∈S'
   ·have e2:sumP S'=2^m+sumP (S'.erase m):=gF (udd c');have:=lower nd h c;left
   ·have lt:∀ {T:List Nat},(∀ k∈T,k<m+1)->m∉T->∀ j∈T,j<m:=λ {T} n1 n2 j hj=>by
     have h1:=n1 j hj;have h2:j≠m:=λ y=>n2 (y ▸ hj);left
    exact iZ m nd nd' (lt h c) (lt h' c') e k hk
abbrev Arc:=Nat × Nat × Int × Nat
inductive Rt (B:List Arc)(a:Nat):List Nat->List Nat->Nat->Int->Int->Prop
 | one:Rt B a [a] [] a 0 0
 | snoc {ws S:List Nat} {u v:Nat} {x y l:Int} {k:Nat}:Rt B a ws S u x y->(u,v,l,k)∈B->v∉ws->Rt B a (ws++[v]) (S++[k]) v (x+l) (y+2^k)
structure Keys (B:List Arc):Prop where
 sym:∀ u v l k,(u,v,l,k)∈B->(v,u,l,k)∈B
 key:∀ u v l u' v' l' k,(u,v,l,k)∈B->(u',v',l',k)∈B->l'=l/\((u'=u/\v'=v)\/(u'=v/\v'=u))
 ne:∀ u v l k,(u,v,l,k)∈B->u≠v
 pos:∀ u v l k,(u,v,l,k)∈B->1<=l
 few:∀ u v l k,(u,v,l,k)∈B->k<60
variable {B:List Arc}{a b:Nat}{ws S:List Nat}{x y:Int}
theorem Rt.last (h:Rt B a ws S b x y):b∈ws:=by
 cases h with
 | one=>exact l8.mpr rfl
 | snoc _ _ _=>exact r6 _ (l8.mpr rfl)
theorem Rt.ends (K:Keys B)(h:Rt B a ws S b x y):∀ k∈S,∃ u v l,(u,v,l,k)∈B/\u∈ws/\v∈ws:=by
 induction h with
 | one=>intro k hk;cases hk
 | @snoc ws S u v x y l k r m nv ih =>
  intro j hj;rcases w8.mp hj with hj | hj
  ·obtain⟨p,q,l',h1,h2,h3⟩:=ih j hj;exact⟨p,q,l',h1,ubg _ h2,ubg _ h3⟩
  ·rw[l8.mp hj];exact⟨u,v,l,m,ubg _ r.last,r6 _ (l8.mpr rfl)⟩
theorem Rt.fresh (K:Keys B)(h:Rt B a ws S b x y){u v:Nat}{l:Int}{k:Nat}(m:(u,v,l,k)∈B)(nv:v∉ws):k∉S:=λ hk=>by
 obtain⟨p,q,l',m',hp,hq⟩:=h.ends K k hk;rcases (K.key _ _ _ _ _ _ _ m m').2 with ⟨e1,e2⟩ | ⟨e1,e2⟩
 ·exact nv (e2 ▸ hq)
 ·exact nv (e1 ▸ hp)
theorem Rt.nodup (K:Keys B)(h:Rt B a ws S b x y):S.Nodup:=by
 induction h with
 | one=>exact List.nodup_nil
 | @snoc ws S u v x y l k r m nv ih =>
  refine ufo.mpr ⟨ih,by simp,λ p hp q hq z=>?_⟩;rw[l8.mp hq] at z;exact r.fresh K m nv (z ▸ hp)
theorem Rt.small (K:Keys B)(h:Rt B a ws S b x y):∀ k∈S,k<60:=λ k hk=>let ⟨u,v,l,m,_⟩:=h.ends K k hk;K.few u v l k m
theorem Rt.sum (h:Rt B a ws S b x y):y=(sumP S:Nat):=by
 induction h with
 | one=>rfl
 | @snoc ws S u v x y l k r m nv ih =>
  rw[vU,ih];show ((sumP S:Nat):Int)+2^k=((sumP S+(2^k+0):Nat):Int);have:((2^k:Nat):Int)=(2:Int)^k:=by norm_cast
  left
theorem Rt.lt (K:Keys B)(h:Rt B a ws S b x y):0<=y/\y<2^60:=by
 have e:=h.sum;have:=gT 60 (h.nodup K) (h.small K);have e2:((2^60:Nat):Int)=(2:Int)^60:=by norm_cast
 left
theorem Rt.unique (K:Keys B)(h:Rt B a ws S b x y):∀ {ws' S':List Nat}{x':Int},Rt B a ws' S' b x' y->ws'=ws/\x'=x:=by
 induction h with
 | one =>
  intro ws' S' x' r;generalize ey:(0:Int)=yy at r;cases r with
  | one=>exact⟨P⟩
  | @snoc ws0 S0 u _ x0 y0 l k r m nv =>
   have p:=r.lt K;have:(0:Int)<2^k:=Int.pow_pos (by decide);left
 | @snoc ws0 S0 u v x0 y0 l k r m nv ih =>
  intro ws' S' x' r';have full:Rt B a (ws0++[v]) (S0++[k]) v (x0+l) (y0+2^k):=.snoc r m nv;have se:sumP S'=sumP (S0++[k]):=by
   have e1:=r'.sum;have e2:=full.sum;left
  have sub:=iZ 60 (r'.nodup K) (full.nodup K) (r'.small K) (full.small K) se;generalize ey:y0+2^k=yy at r';cases r' with
  | one =>
   have p:=r.lt K;have:(0:Int)<2^k:=Int.pow_pos (by decide);left
  | @snoc ws1 S1 u1 _ x1 y1 l1 k1 r1 m1 nv1 =>
   have in1:=sub k1 (r6 _ (l8.mpr rfl));have k1k:k1=k:=by
    rcases w8.mp in1 with z | z
    ·exact absurd z (r.fresh K m1 nv)
    ·exact l8.mp z
   subst k1k;obtain⟨el,eu⟩:=K.key _ _ _ _ _ _ _ m m1;have uu:u1=u:=by
    rcases eu with ⟨e,_⟩ | ⟨e,e'⟩
    ·exact e
    ·exact absurd e' (K.ne _ _ _ _ m).symm
   subst uu;have yy1:y1=y0:=by left
   subst yy1;obtain⟨e1,e2⟩:=ih r1;exact⟨by rw[e1],by rw[e2,el]⟩
theorem Rt.cons (K:Keys B){u:Nat}{l:Int}{k:Nat}(m:(u,a,l,k)∈B)(h:Rt B a ws S b x y):u∉ws->Rt B u (u::ws) (k::S) b (x+l) (y+2^k):=by
 induction h with
 | one =>
  intro nu;have:Rt B u ([u]++[a]) ([]++[k]) a (0+l) (0+2^k):=.snoc .one m (λ z=>nu (by rw[l8] at z ⊢;exact z.symm));exact this
 | @snoc ws S w v x y l' k' r m' nv ih =>
  intro nu;have r2:=ih λ z=>nu (ubg _ z);have:Rt B u ((u::ws)++[v]) ((k::S)++[k']) v (x+l+l') (y+2^k+2^k'):=.snoc r2 m' λ z=>by
   rcases j4.mp z with z | z
   ·exact nu (r6 _ (l8.mpr z.symm))
   ·exact nv z
  rw[ufj x l l',ufj y] at this;exact this
theorem Rt.back (K:Keys B)(h:Rt B a ws S b x y):Rt B b ws.reverse S.reverse a x y:=by
 induction h with
 | one=>exact .one
 | @snoc ws S u v x y l k r m nv ih =>
  rw[List.reverse_append,List.reverse_append];exact ih.cons K (K.sym _ _ _ _ m) (λ z=>nv (List.mem_reverse.mp z))
end Far
namespace Far
structure Best (B:List Arc)(n s:Nat)(cs:List (Option (Int × Int)))(as:List (Option Nat)):Prop where
 len:cs.length=n
 alen:as.length=n
 start:get cs s=some (0,0)
 root:get as s=none
 has:∀ v c,get cs v=some c->v≠s->get as v≠none
 nn:∀ v c,get cs v=some c->0<=c.1
 stab:∀ u v l k c,(u,v,l,k)∈B->get cs u=some c->∃ c',get cs v=some c'/\¬ lt2 (c.1+l,c.2+2^k) c'
 arc:∀ v u,get as v=some u->∃ l k cu,(u,v,l,k)∈B/\get cs u=some cu/\get cs v=some (cu.1+l,cu.2+2^k)
inductive TPw (as:List (Option Nat))(s:Nat):List Nat->Nat->Prop
 | root:TPw as s [s] s
 | step {ws:List Nat} {u v:Nat}:get as v=some u->TPw as s ws u->TPw as s (ws++[v]) v
section
variable {B:List Arc}{n s:Nat}{cs:List (Option (Int × Int))}{as:List (Option Nat)}
theorem Best.route (K:Keys B)(h:Best B n s cs as):∀ (m:Nat)(v:Nat)(c:Int × Int),get cs v=some c->c.1.toNat<=m->∃ ws S,Rt B s ws S v c.1 c.2/\TPw as s ws v/\∀ w∈ws,∃ cw,get cs w=some cw/\cw.1<=c.1:=by
 intro m;induction m using ugh with
 | ind m ih =>
  intro v c e hm;by_cases vs:v=s
  ·subst vs;rw[h.start] at e;cases e;exact⟨[v],[],.one,.root,λ w hw=>by rw[l8.mp hw];exact⟨_,h.start,uau _⟩⟩
  ·cases ea:get as v with
   | none=>exact absurd ea (h.has v c e vs)
   | some u =>
    obtain⟨l,k,cu,ma,eu,ev⟩:=h.arc v u ea;rw[e] at ev;cases ev;have l1:=K.pos _ _ _ _ ma;have c0:=h.nn _ _ eu;simp only at hm;obtain⟨ws,S,r,tp,all⟩:=ih cu.1.toNat (by left) u cu eu (i6 _);have nv:v∉ws:=λ z=>by
     obtain⟨cw,e1,h1⟩:=all v z;rw[e] at e1;cases e1;simp only at h1;left
    refine⟨ws++[v],S++[k],.snoc r ma nv,.step ea tp,λ w hw=>?_⟩;rcases w8.mp hw with hw | hw
    ·obtain⟨cw,e1,h1⟩:=all w hw;exact⟨cw,e1,by show cw.1<=cu.1+l;left⟩
    ·rw[l8.mp hw];exact⟨_,e,uau _⟩
theorem Best.small (K:Keys B)(h:Best B n s cs as){v:Nat}{c:Int × Int}(e:get cs v=some c):0<=c.2/\c.2<2^60:=by
 obtain⟨ws,S,r,_⟩:=h.route K _ v c e (i6 _);exact r.lt K
theorem Best.tree (K:Keys B)(h:Best B n s cs as){u v:Nat}{l:Int}{k:Nat}{cu:Int × Int}(m:(u,v,l,k)∈B)(eu:get cs u=some cu)(ev:get cs v=some (cu.1+l,cu.2+2^k)):get as v=some u:=by
 have l1:=K.pos _ _ _ _ m;have c0:=h.nn _ _ eu;have vs:v≠s:=λ z=>by
  rw[z,h.start] at ev;have:(0:Int)=cu.1+l:=congrArg (λ o:Option (Int × Int)=>(o.getD (0,0)).1) ev;left
 cases ea:get as v with
 | none=>exact absurd ea (h.has v _ ev vs)
 | some u0 =>
  obtain⟨l0,k0,c0',m0,e0,ev0⟩:=h.arc v u0 ea;have mk:∀ {u:Nat}{l:Int}{k:Nat}{cu:Int × Int},(u,v,l,k)∈B->get cs u=some cu->get cs v=some (cu.1+l,cu.2+2^k)->∃ r S,Rt B s (r++[u]++[v]) S v (cu.1+l) (cu.2+2^k):=λ {u l k cu} m eu ev=>by
   obtain⟨ws,S,r,tp,all⟩:=h.route K _ u cu eu (i6 _);have nv:v∉ws:=λ z=>by
    obtain⟨cw,e1,h1⟩:=all v z;rw[ev] at e1;cases e1;have:=K.pos _ _ _ _ m;simp only at h1;left
   obtain⟨q,rfl⟩:∃ q,ws=q++[u]:=by
    cases tp with
    | root=>exact⟨[],rfl⟩
    | step _ _=>exact⟨A⟩
   exact⟨q,_,.snoc r m nv⟩
  obtain⟨r1,S1,t1⟩:=mk m eu ev;obtain⟨r2,S2,t2⟩:=mk m0 e0 ev0;have e2:c0'.2+2^k0=cu.2+2^k:=congrArg (λ o:Option (Int × Int)=>(o.getD (0,0)).2) (ev0.symm.trans ev);rw[e2] at t2;have:=(t1.unique K t2).1;have z1:(r2++[u0])=(r1++[u]):=List.append_cancel_right this;have z2:=congrArg List.getLast? z1;simp at z2;rw[z2]
end
def comb (c:Int × Int):Int:=c.1*2^61+c.2
def arcsC (B:List Arc):List (Nat × Nat × Int):=B.map λ b=>(b.1,b.2.1,b.2.2.1*2^61+2^b.2.2.2)
theorem arcsC_mem {B:List Arc}{u v:Nat}{L:Int}:(u,v,L)∈arcsC B↔∃ l k,(u,v,l,k)∈B/\L=l*2^61+2^k:=by
 unfold arcsC;rw[ubx];constructor
 ·rintro ⟨⟨a,b,l,k⟩,h,e⟩;cases e;exact⟨l,k,h,rfl⟩
 ·rintro ⟨l,k,h,rfl⟩;exact⟨(u,v,l,k),h,rfl⟩
section
variable {B:List Arc}{n s:Nat}{cs:List (Option (Int × Int))}{as:List (Option Nat)}
theorem pF (k:Nat):(1:Int)<=2^k:=Int.pow_pos (by decide)
theorem zaj (K:Keys B):Sym (arcsC B):=λ u v L h=>by
 obtain⟨l,k,m,rfl⟩:=arcsC_mem.mp h;exact arcsC_mem.mpr ⟨l,k,K.sym _ _ _ _ m,rfl⟩
theorem Best.dst (K:Keys B)(h:Best B n s cs as)(v:Nat):Dst (arcsC B) s v ((get cs v).map comb):=by
 refine⟨λ y e=>?_,λ L w=>?_⟩
 ·cases ec:get cs v with
  | none=>rw[ec] at e;cases e
  | some c =>
   rw[ec] at e;cases e;obtain⟨ws,S,r,_⟩:=h.route K _ v c ec (i6 _);have go:∀ {ws S:List Nat}{v:Nat}{x y:Int},Rt B s ws S v x y->Walk (arcsC B) s v (comb (x,y)):=by
    intro ws S v x y r;induction r with
    | one=>exact .nil
    | @snoc ws S u v x y l k r m nv ih =>
     have:=Walk.snoc ih (arcsC_mem.mpr ⟨l,k,m,rfl⟩);have e:comb (x+l,y+2^k)=comb (x,y)+(l*2^61+2^k):=by unfold comb;simp only;left
     rw[e];exact this
   exact go r
 ·have:∃ c,get cs v=some c/\comb c<=L:=by
   induction w with
   | nil=>exact⟨_,h.start,by decide⟩
   | @snoc u v l x w m ih =>
    obtain⟨c,e,hc⟩:=ih;obtain⟨l',k,m',rfl⟩:=arcsC_mem.mp m;obtain⟨c',e',hc'⟩:=h.stab _ _ _ _ _ m' e;refine⟨c',e',?_⟩;have s1:=h.small K e;have s2:=h.small K e';have:=pF k;unfold comb at *;unfold lt2 at hc';simp only at hc';left
  obtain⟨c,e,hc⟩:=this;exact⟨comb c,by rw[e];rfl,hc⟩
theorem zca {c d:Int × Int}(hc:0<=c.2/\c.2<2^61)(hd:0<=d.2/\d.2<2^61)(e:comb c=comb d):c=d:=by
 unfold comb at e;exact Prod.ext (by left) (by left)
end
end Far
namespace Far
variable {B:List Arc}{A:List (Nat × Nat × Int)}{n s:Nat}
structure Run (B:List Arc)(s:Nat)(cs:List (Option (Int × Int)))(as:List (Option Nat)):Prop where
 len:as.length=cs.length
 start:get cs s=some (0,0)
 root:get as s=none
 has:∀ v c,get cs v=some c->v≠s->get as v≠none
 arc:∀ v u,get as v=some u->∃ l k cu cv,(u,v,l,k)∈B/\get cs u=some cu/\get cs v=some cv/\¬ lt2 cv (cu.1+l,cu.2+2^k)
theorem Run.step {u v:Nat}{l:Int}{k:Nat}{cs:List (Option (Int × Int))}{as:List (Option Nat)}{c:Int × Int}(P:Pos A)(g:Good A n s cs)(a:Run B s cs as)(m:(u,v,l)∈A)(mB:(u,v,l,k)∈B)(hv:v<n)(hu:get cs u=some c)
  (h:get cs v=none\/∃ c',get cs v=some c'/\lt2 (c.1+l,c.2+2^k) c'):Run B s (cs.set v (some (c.1+l,c.2+2^k))) (as.set v (some u)):=by
 have hc:v<cs.length:=by rw[g.len];exact hv
 have ha:v<as.length:=by rw[a.len];exact hc
 have l1:=P _ _ _ m;have c0:=(g.walk _ _ hu).nonneg P;have vs:v≠s:=λ z=>by
  rw[z] at h;rcases h with h | ⟨c',h,hl⟩
  ·rw[a.start] at h;cases h
  ·rw[a.start] at h;cases h;unfold lt2 at hl;simp only at hl;left
 have uv:u≠v:=λ z=>by
  rcases h with h | ⟨c',h,hl⟩
  ·rw[← z,hu] at h;cases h
  ·rw[← z,hu] at h;cases h;unfold lt2 at hl;simp only at hl;left
 refine⟨by rw[ub3,ub3];exact a.len,by rw[bF hc,ug8 (Ne.symm vs)];exact a.start,?_,λ x d e hx=>?_,λ x y e=>?_⟩
 ·rw[bF ha,ug8 (Ne.symm vs)];exact a.root
 ·rw[bF ha];split
  ·exact λ z=>by cases z
  ·rename_i xv;rw[bF hc,ug8 xv] at e;exact a.has x d e hx
 ·rw[bF ha] at e;split at e
  ·rename_i z;subst z;cases e;refine⟨l,k,c,_,mB,by rw[bF hc,ug8 uv];exact hu,by rw[bF hc,ug7 rfl],λ z=>?_⟩;unfold lt2 at z;left
  ·rename_i xv;obtain⟨l',k',cu,cv,m',e1,e2,hle⟩:=a.arc x y e;by_cases yv:y=v
   ·subst yv;refine⟨l',k',_,cv,m',by rw[bF hc,ug7 rfl],by rw[bF hc,ug8 xv];exact e2,λ z=>?_⟩;rcases h with h | ⟨c',h,hl⟩
    ·rw[h] at e1;cases e1
    ·rw[h] at e1;cases e1;unfold lt2 at hl hle z;simp only at hl hle z;left
   ·exact⟨l',k',cu,cv,m',by rw[bF hc,ug8 yv];exact e1,by rw[bF hc,ug8 xv];exact e2,hle⟩
theorem Run.first (hs:s<n):Run B s ((m5 n none).set s (some (0,0))) (m5 n none):=by
 have hl:s<(m5 n (none:Option (Int × Int))).length:=by rw[ua1];exact hs
 refine⟨by rw[ub3,ua1,ua1],by rw[bF hl,ug7 rfl],eI _ _,λ v c e hv=>?_,λ v u e=>?_⟩
 ·rw[bF hl,ug8 hv,eI] at e;cases e
 ·rw[eI] at e;cases e
def Stab2 (B:List Arc)(cs:List (Option (Int × Int))):Prop:=∀ u v l k c,(u,v,l,k)∈B->get cs u=some c->∃ c',get cs v=some c'/\¬ lt2 (c.1+l,c.2+2^k) c'
def PS2 (c0:List (Option (Int × Int)))(R:Arc->Prop)(cs:List (Option (Int × Int)))(ag:Bool):Prop :=
 (ag=false/\cs=c0/\∀ u v l k c,R (u,v,l,k)->get c0 u=some c->∃ c',get c0 v=some c'/\¬ lt2 (c.1+l,c.2+2^k) c')\/(ag=true/\mu cs<mu c0)
def plusA (R:Arc->Prop)(a:Arc):Arc->Prop:=λ b=>R b\/b=a
section
variable {c0 cs:List (Option (Int × Int))}{R R':Arc->Prop}{ag:Bool}{u v k:Nat}{l:Int}
theorem PS2.less (h:PS2 c0 R cs ag)(z:∀ a,R' a->R a):PS2 c0 R' cs ag:=h.elim (λ ⟨a,b,c⟩=>.inl ⟨a,b,λ u v l k c' y=>c u v l k c' (z _ y)⟩) .inr
theorem PS2.no (h:PS2 c0 R cs ag)(hu:get cs u=none):PS2 c0 (plusA R (u,v,l,k)) cs ag:=by
 rcases h with ⟨a,b,c⟩ | h
 ·refine .inl ⟨a,b,λ u' v' l' k' c' z e=>?_⟩;rcases z with z | z
  ·exact c _ _ _ _ _ z e
  ·cases z;rw[← b,hu] at e;cases e
 ·exact .inr h
theorem PS2.old (h:PS2 c0 R cs ag){c d:Int × Int}(hu:get cs u=some c)(hv:get cs v=some d)(hn:¬ lt2 (c.1+l,c.2+2^k) d):PS2 c0 (plusA R (u,v,l,k)) cs ag:=by
 rcases h with ⟨a,b,z⟩ | h
 ·refine .inl ⟨a,b,λ u' v' l' k' c' y e=>?_⟩;rcases y with y | y
  ·exact z _ _ _ _ _ y e
  ·cases y;subst b;rw[hu] at e;cases e;exact⟨d,hv,hn⟩
 ·exact .inr h
theorem PS2.put (h:PS2 c0 R cs ag){cs':List (Option (Int × Int))}(hm:mu cs'<mu cs):PS2 c0 (plusA R (u,v,l,k)) cs' true:=by
 rcases h with ⟨a,b,c⟩ | h
 ·exact .inr ⟨rfl,by rw[← b];exact hm⟩
 ·exact .inr ⟨rfl,ue2 hm h.2⟩
end
theorem Run.best {cs:List (Option (Int × Int))}{as:List (Option Nat)}(P:Pos A)(g:Good A n s cs)(r:Run B s cs as)(st:Stab2 B cs):Best B n s cs as:=by
 refine⟨g.len,by rw[r.len];exact g.len,r.start,r.root,r.has,λ v c e=>(g.walk v c e).nonneg P,st,λ v u e=>?_⟩;obtain⟨l,k,cu,cv,m,e1,e2,n1⟩:=r.arc v u e;obtain⟨c',e3,n2⟩:=st _ _ _ _ _ m e1;rw[e2] at e3;cases e3;refine⟨l,k,cu,m,e1,?_⟩;rw[e2];congr 1;unfold lt2 at n1 n2;simp only at n1 n2;exact Prod.ext (by show cv.1=cu.1+l;left) (by show cv.2=cu.2+2^k;left)
end Far
namespace Far
def arcsF (B:List Arc):List (Nat × Nat × Int):=B.map λ b=>(b.1,b.2.1,b.2.2.1)
theorem arcsF_mem {B:List Arc}{u v:Nat}{l:Int}:(u,v,l)∈arcsF B↔∃ k,(u,v,l,k)∈B:=by
 unfold arcsF;rw[ubx];constructor
 ·rintro ⟨⟨a,b,l',k⟩,h,e⟩;cases e;exact⟨k,h⟩
 ·rintro ⟨k,h⟩;exact⟨(u,v,l,k),h,rfl⟩
section
variable {B:List Arc}{n s:Nat}{cs:List (Option (Int × Int))}{as:List (Option Nat)}{a b:Nat}{ws S:List Nat}{x y:Int}
structure Uni (B:List Arc)(a b:Nat)(ws S:List Nat)(x y:Int):Prop where
 rt:Rt B a ws S b x y
 least:∀ ws' S' x' y',Rt B a ws' S' b x' y'->¬ lt2 (x',y') (x,y)
end
end Far
namespace L3
open PySem PySem.Spec PyProof.Rows L2
def arcs2B (t:Tie)(k:Nat):List Far.Arc:=[(t.1.toNat,t.2.1.toNat,t.2.2,k),(t.2.1.toNat,t.1.toNat,t.2.2,k)]
def arcsB (ts:List Tie)(ks:List Nat):List Far.Arc:=ks.flatMap λ k=>arcs2B (tieAt ts k) k
theorem arcsB_mem {ts:List Tie}{ks:List Nat}{a:Far.Arc}:a∈arcsB ts ks↔∃ k,k∈ks/\a∈arcs2B (tieAt ts k) k:=by
 unfold arcsB;rw[ufz]
theorem arcs2B_mem {t:Tie}{k:Nat}{a:Far.Arc}:a∈arcs2B t k↔a=(t.1.toNat,t.2.1.toNat,t.2.2,k)\/a=(t.2.1.toNat,t.1.toNat,t.2.2,k):=by
 unfold arcs2B;simp
theorem yD {ts:List Tie}{ks:List Nat}{i k:Nat}(h:ks[i]?=some k){a:Far.Arc}(m:a∈arcsB ts (ks.take (i+1))):a∈arcsB ts (ks.take i)\/a∈arcs2B (tieAt ts k) k:=by
 obtain⟨j,hj,m⟩:=arcsB_mem.mp m;rw[iR h] at hj;rcases w8.mp hj with hj | hj
 ·exact .inl (arcsB_mem.mpr ⟨j,hj,m⟩)
 ·rw[l8.mp hj] at m;exact .inr m
theorem iQ {n:Int}{ts:List Tie}{ks:List Nat}(ok:WebOk n ts)(ko:KeepOk ts.length ks):Far.Keys (arcsB ts ks):=by
 have at_:∀ {u v l k},(u,v,l,k)∈arcsB ts ks->k<ts.length/\((u=(tieAt ts k).1.toNat/\v=(tieAt ts k).2.1.toNat)\/(u=(tieAt ts k).2.1.toNat/\v=(tieAt ts k).1.toNat))/\l=(tieAt ts k).2.2/\k∈ks:=λ {u v l k} h=>by
  obtain⟨j,hj,m⟩:=arcsB_mem.mp h;rcases arcs2B_mem.mp m with e | e <;> cases e
  ·exact⟨ko.2 _ hj,.inl ⟨P⟩,rfl,hj⟩
  ·exact⟨ko.2 _ hj,.inr ⟨P⟩,rfl,hj⟩
 refine⟨λ u v l k h=>?_,λ u v l u' v' l' k h h'=>?_,λ u v l k h=>?_,λ u v l k h=>?_,λ u v l k h=>?_⟩
 ·obtain⟨_,e,rfl,hk⟩:=at_ h;refine arcsB_mem.mpr ⟨k,hk,arcs2B_mem.mpr ?_⟩;rcases e with ⟨rfl,rfl⟩ | ⟨rfl,rfl⟩
  ·exact .inr rfl
  ·exact .inl rfl
 ·obtain⟨_,e,rfl,_⟩:=at_ h;obtain⟨_,e',rfl,_⟩:=at_ h';refine⟨rfl,?_⟩;rcases e with ⟨rfl,rfl⟩ | ⟨rfl,rfl⟩ <;> rcases e' with ⟨rfl,rfl⟩ | ⟨rfl,rfl⟩
  ·exact .inl ⟨P⟩
  ·exact .inr ⟨P⟩
  ·exact .inr ⟨P⟩
  ·exact .inl ⟨P⟩
 ·obtain⟨hk,e,_,_⟩:=at_ h;have:=ok.tie _ (dB hk).2;rcases e with ⟨rfl,rfl⟩ | ⟨rfl,rfl⟩ <;> left
 ·obtain⟨hk,_,e,_⟩:=at_ h;have:=ok.tie _ (dB hk).2;left
 ·obtain⟨hk,_⟩:=at_ h;have:=ok.few;left
theorem pD {n:Int}{ts:List Tie}{ks:List Nat}(ok:WebOk n ts)(ko:KeepOk ts.length ks){u v k:Nat}{l:Int}(h:(u,v,l,k)∈arcsB ts ks):u<n.toNat/\v<n.toNat:=by
 obtain⟨j,hj,m⟩:=arcsB_mem.mp h;have:=ok.tie _ (dB (ko.2 j hj)).2;rcases arcs2B_mem.mp m with e | e <;> cases e <;> left
def spReachedB (K:b9):Sp:=λ vs H Q _=>∃ n ts ks wv kv r,vs=[wv,kv,.int r]/\WK K H n ts ks wv kv/\0<=r/\r<n /\
 ∀ (p lc la:j8)(cvs:List V)(as:List (Option Nat))(cs:List (Option (Int × Int)))(H':Hp),Same H H'->H' p=some (.tup [.ref lc,.ref la])->H' lc=some (.lst cvs)->H' la=some (.lst (as.map oa))->CostL H' cvs cs->Far.Best (arcsB ts ks) n.toNat r.toNat cs as->Q (.ref p) H'
def spTreeB (K:b9):Sp:=λ vs H Q _=>∃ n ts ks wv kv r,vs=[wv,kv,.int r]/\WK K H n ts ks wv kv/\0<=r/\r<n /\
 ∀ (p:j8)(as:List (Option Nat))(cs:List (Option (Int × Int)))(H':Hp),Same H H'->H' p=some (.tup (as.map oa))->Far.Best (arcsB ts ks) n.toNat r.toNat cs as->Q (.ref p) H'
def oaD:Option Nat->r8
 | none=>.none
 | some u=>.int (u:Int)
theorem kF {K:b9}{H:Hp}:∀ as:List (Option Nat),IsAll K H (as.map oaD) (as.map oa)
 | []=>rfl
 | none::r=>⟨_,_,rfl,rfl,kF r⟩
 | some u::r=>⟨_,_,rfl,rfl,kF r⟩
end L3
namespace HT
open PySem PyProof.Rows
section
variable {prog:n0}{w:uak}{A:uaj}{E:c9->d8->Prop}{s:d8}
abbrev setS (ns:List Int)(m:Nat):Int->Bool:=λ x=>(firstMet (λ i=>ns.getD i 0) m).any λ y=>y==x
abbrev setN (ns:List Int)(m:Nat):Nat:=(firstMet (λ i=>ns.getD i 0) m).length
theorem zap {h:Heap}{t:j8}{xs:Array c9}(it:h.IsTuple t xs)(o:Obj):(h.push o).IsTuple t xs:=let ⟨ob,e,r⟩:=it;⟨ob,a9 _ e,r⟩
abbrev seto (led:Bool):Obj:={ cls:=.type "set",dict:=none,data:=.set #[] 0 (.fresh 0 0 led) }
theorem vG {t:j8}{xs:Array c9}{ns:List Int}{Q:c9->d8->Prop}(hh:A.handled=none)(ht:s.heap.IsTuple t xs)(hi:IntsAre xs.toList ns)(hb:xs.size+1<scanBound)
  (h:∀ (h':Heap)(tk:Nat),h'.SetOf (intKind prog w) s.heap.objs.size (setS ns xs.size) (setN ns xs.size)->(∀ b o,b<s.heap.objs.size->s.heap.get? b=some o->h'.get? b=some o)->Q (.ref s.heap.objs.size) { s with heap:=h',toks:=tk }) :
  j7 (p9 prog w) A (call (.type "set") [.ref t]) Q E s:=by
 obtain⟨c,tl,hmro⟩:=uam.mro;have hmade:=uam.made;have hsub:=uam.sub;refine ufd (codeAny_of_tree ?_);show j7 _ _ (callAny (.type "set") _) _ _ _;refine c8 ⟨Code.quiet_builtin _ (by symm),uaz ugd ?_⟩;rw[Around.under_plain (uf2 "set" [.ref t] []) rfl];have h1:=uam.notType;have h2:=uam.canCreate;have hct:=ugm (.ref t)
 repeat (any_goals (first | assumption | wp_step))
 refine udf (PySem.code_set_new_1 (.ref t) (E:=E) (Q₁:=λ obj s₁=>∃ led:Bool,obj=.ref s.heap.objs.size/\s₁={ s with heap:=s.heap.push (seto led) }) λ led=>⟨led,rfl,rfl⟩) λ r s₁ hr=>?_
 match r,hr with
 | .error e,hr=>exact hr
 | .ok .next,hr=>exact hr.elim
 | .ok .brk,hr=>exact hr.elim
 | .ok .cont,hr=>exact hr.elim
 | .ok (.ret obj),hr =>
  obtain⟨led,rfl,rfl⟩:=hr;have gS:(s.heap.push (seto led)).get? s.heap.objs.size=some (seto led):=i7 _ rfl;have hT:Shared.TypeIs { s with heap:=s.heap.push (seto led) } (.ref s.heap.objs.size) "set":=⟨_,gS,rfl⟩;have hli:=uam.init.lookup;have hbi:=uam.init.bind (.ref s.heap.objs.size)
  repeat (any_goals (first | assumption | wp_step))
  refine udf (ud9 (R:=wants (λ r s₂=>r=.none/\∃ h' tk,s₂={ s with heap:=h',toks:=tk }/\h'.SetOf (intKind prog w) s.heap.objs.size (setS ns xs.size) (setN ns xs.size)/\(∀ b o,b<s.heap.objs.size->s.heap.get? b=some o->h'.get? b=some o)) E) uam.init.plain ugn (ugy hT ?_)) λ r₂ s₂ hr₂=>?_
  ·obtain⟨ot,ho,hc,m,hd⟩:=id ht;obtain⟨ocls,odict,odata,oslots⟩:=ot;simp only at hc hd;subst hc hd;have ho':(s.heap.push (seto led)).get? t=some { cls:=.type "tuple",dict:=odict,data:=.seq xs m,slots:=oslots }:=a9 _ ho;have f1:=PySem.F.sub_tuple_set;have f2:=PySem.F.sub_tuple_frozenset;have f3:(Value.type "tuple"==Value.type "dict")=false:=by decide
   have it1:(s.heap.push (seto led)).IsTuple t xs:=⟨_,ho',rfl,m,rfl⟩;unfold Builtin.«set.__init__» noKeywords Builtin.Frozenset.updateFrom;generalize hPI:pyIter=PI
   wp_walk;subst hPI
   refine uem it1 (a8 (ufk ?_));have lt:t<s.heap.objs.size:=i9 ho;have hh3:A.in1.in1.in1.handled=none:=by simp [hh]
   have sz1:(s.heap.push (seto led)).objs.size=s.heap.objs.size+1:=uaq ..;have tI:t≠(s.heap.push (seto led)).objs.size:=by rw[sz1];exact l6 (ubf lt)
   have Sfp:s.heap.objs.size∉[(s.heap.push (seto led)).objs.size,t]:=by
    rw[sz1];simp only [j4,m7,or_false,not_or];exact⟨l6 (ubu _),(l6 lt).symm⟩
   have vals:∀ (i:Nat)(v:c9),xs[i]?=some v->∃ u,v=.int ((λ i=>ns.getD i 0) i) u:=λ i v hv=>IntsAre.int_at hi i v (by rw[ubw];exact hv);refine codeAny_set_update_loopS ((Walks.tuple hh3 _ t tI xs).toS) s.heap.objs.size Sfp (λ i=>ns.getD i 0) vals hb (xs.size-0) 0 _ (by left) (x8 _) ?st ?s0 ?fin
   case st=>exact⟨⟨_,i7 _ rfl,P⟩,zap it1 _⟩
   case s0=>exact SetOf_congr ((setObjOf_fresh (knd:=intKind prog w) led).setOf (a9 _ gS) (by unfold scanBound;left)) (λ _=>rfl) rfl
   case fin =>
    rintro ⟨h',g',d',tk',os'⟩ hm hS';obtain rfl:g'=s.gens:=hm.gens;obtain rfl:d'=s.drawn:=hm.drawn;obtain rfl:os'=s.os:=hm.os;refine c8 (c8 ⟨rfl,h',tk',rfl,hS',λ b o hlt e=>hm.heap b o ?_ (a9 _ (a9 _ e))⟩);rw[sz1];simp only [j4,m7,or_false,not_or];exact⟨l6 hlt,l6 (ubf hlt)⟩
  ·match r₂,hr₂ with
   | .error e,hr₂=>exact hr₂
   | .ok .next,hr₂=>exact hr₂.elim
   | .ok .brk,hr₂=>exact hr₂.elim
   | .ok .cont,hr₂=>exact hr₂.elim
   | .ok (.ret v),hr₂ =>
    obtain⟨rfl,h',tk,rfl,hS',hk⟩:=hr₂
    repeat (any_goals (first | assumption | wp_step))
    exact h h' tk hS' hk
end
end HT
namespace L3
open PySem PySem.Spec PyProof.Rows L2
theorem lC (val:Nat->Int):∀ i,(firstMet val i).length=i↔((d7 i).map val).Nodup
 | 0=>by rw[firstMet_zero];simp
 | i+1=>by
  have ih:=lC val i;have le:=firstMet_length_le val i;have an:=firstMet_any val i (val i);rw[firstMet_succ,uba,ub2,ufo];unfold step_dedup;by_cases c:(firstMet val i).any (λ y=>y==val i)=true
  ·rw[ug7 c];constructor
   ·intro z;left
   ·rintro ⟨_,_,z⟩;rw[an,ucn] at c;obtain⟨y,hy,e⟩:=c;exact absurd (by simpa using e) (z y hy (val i) (by simp))
  ·rw[ug8 c,i8,k9];constructor
   ·intro z;refine⟨ih.mp (by left),by simp,λ a ha b hb e=>c ?_⟩;rw[an,ucn];have:b=val i:=by simpa using hb
    exact⟨a,ha,by rw[e,this];simp⟩
   ·rintro ⟨z,_⟩;rw[ih.mpr z]
theorem gB (ns:List Int):HT.setN ns ns.length=ns.length↔ns.Nodup:=by
 have:=lC (λ i=>ns.getD i 0) ns.length;rw[bX] at this;exact this
section
variable {X:Cx}
inductive call_setT_i  (xs:List V) (H:Hp) (Q:VK):Prop
 | mk:∀ (p:j8)(ns:List Int),(xs=[.ref p])->(H p=some (.tup (ns.map V.int)))->(ns.length<=1000)->(∀ q H',Same H H'->H q=none->H' q=some (.set (HT.setS ns ns.length) (HT.setN ns ns.length))->Q (.ref q) H')->call_setT_i xs H Q
theorem nC (hh:X.calm=true):CallR X (.type "set") (call_setT_i):=by
 intro pins s σ H xs us Q I r h;obtain⟨p,ns,rfl,hp,hl,q⟩:=h;obtain⟨u,rfl,rx⟩:=vals1 r;cases rx;obtain⟨its,rv,pt,hz⟩:=I.tuple (SqT.of hp);have hlen:=rv.length;rw[i5] at hlen;have fr:H s.heap.objs.size=none:=I.hok.fresh (i6 _);have esz:its.toArray.size=ns.length:=by rw[j5,← hlen]
 refine HT.vG (ns:=ns) (I.ok.hd hh) (show s.heap.IsTuple p its.toArray from pt) (by simpa using cW rv) (by rw[esz];unfold scanBound;left) λ h' tk hS hk=>?_;rw[esz] at hS;exact⟨.ref s.heap.objs.size,_,I.laid (a:=s.heap.objs.size) (o:=.set (HT.setS ns ns.length) (HT.setN ns ns.length)) (t':=tk) (λ b o e=>hk b o (i9 e) e) (i6 _) hS,rfl,q _ _ (aP fr) fr aM⟩
inductive call_lenS_i  (xs:List V) (H:Hp) (Q:VK):Prop
 | mk:∀ (p:j8)(S:Int->Bool)(n:Nat),(xs=[.ref p])->(H p=some (.set S n))->(Q (.int (n:Int)) H)->call_lenS_i xs H Q
theorem nE:CallR X (.builtin "len") (call_lenS_i):=by
 intro pins s σ H xs us Q I r h;obtain⟨p,S,n,rfl,hp,q⟩:=h;obtain⟨u,rfl,rx⟩:=vals1 r;cases rx;obtain⟨o,es,ep,t,ho,hex,hd,_,_,hb,hf,hn⟩:=(show ObjOk X.prog X.w H s.heap p (.set S n) from I.hok p _ hp);refine call_len_set ho hex hd hf (by unfold scanBound at hb;left) ⟨.int (n:Int),H,I.tok _,⟨s.toks+1,by rw[hn]⟩,q⟩
end
theorem pC (ts:List Tie)(ks:List Nat):Far.arcsF (arcsB ts ks)=arcs ts ks:=by
 unfold arcs Far.arcsF arcsB;rw[List.map_flatMap];rfl
theorem nK {n:Int}{ts:List Tie}{ks:List Nat}(ok:WebOk n ts)(ko:KeepOk ts.length ks):Far.Sym (arcs ts ks):=λ u v l h=>by
 rw[← pC] at h ⊢;obtain⟨k,m⟩:=Far.arcsF_mem.mp h;exact Far.arcsF_mem.mpr ⟨k,(iQ ok ko).sym _ _ _ _ m⟩
def spReachedC (K:b9):Sp:=λ vs H Q _=>∃ n ts ks wv kv r,vs=[wv,kv,.int r]/\WK K H n ts ks wv kv/\0<=r/\r<n /\
 ∀ (p lc la:j8)(cvs:List V)(as:List (Option Nat))(cs:List (Option (Int × Int)))(H':Hp),Same H H'->H' p=some (.tup [.ref lc,.ref la])->H' lc=some (.lst cvs)->H' la=some (.lst (as.map oa))->CostL H' cvs cs->Far.Best (arcsB ts ks) n.toNat r.toNat cs as->Far.Good (arcs ts ks) n.toNat r.toNat cs->Far.Stab (arcs ts ks) cs->Q (.ref p) H'
theorem yO {K:b9}(vs:List V)(H:Hp)(Q:VK)(E:XK)(h:spReachedB K vs H Q E):spReachedC K vs H Q E:=by
 obtain⟨n,ts,ks,wv,kv,r,e,wk,r0,r1,q⟩:=h;exact⟨n,ts,ks,wv,kv,r,e,wk,r0,r1,λ p lc la cvs as cs H' S h1 h2 h3 cl B _ _=>q p lc la cvs as cs H' S h1 h2 h3 cl B⟩
theorem yN {K:b9}(vs:List V)(H:Hp)(Q:VK)(E:XK)(h:spReached K vs H Q E):spReachedC K vs H Q E:=by
 obtain⟨n,ts,ks,wv,kv,r,e,wk,r0,r1,q⟩:=h;exact⟨n,ts,ks,wv,kv,r,e,wk,r0,r1,λ p lc la cvs as cs H' S h1 h2 h3 cl _ g st=>q p lc la cvs _ cs H' S h1 h2 h3 cl g st⟩
theorem zcz {ts:List Tie}{ks:List Nat}{cs:List (Option (Int × Int))}(h:Far.Stab2 (arcsB ts ks) cs):Far.Stab (arcs ts ks) cs:=λ u v l c m e=>by
 rw[← pC] at m;obtain⟨k,m⟩:=Far.arcsF_mem.mp m;obtain⟨c',e',n'⟩:=h _ _ _ _ _ m e;refine⟨c',e',?_⟩;unfold Far.lt2 at n';simp only at n';left
theorem zcu {n:Int}{ts:List Tie}{ks:List Nat}(ok:WebOk n ts)(ko:KeepOk ts.length ks){u v k:Nat}{l:Int}(h:(u,v,l,k)∈arcsB ts ks):ks.filter (isTB ts u v)=[k]:=by
 have hk:k∈ks/\isTB ts u v k=true:=by
  obtain⟨j,hj,m⟩:=arcsB_mem.mp h;have tk:=ok.tie _ (dB (ko.2 j hj)).2;unfold isTB;rcases arcs2B_mem.mp m with e | e <;> cases e
  ·exact⟨hj,by rw[ug3 (by left),ug3 (by left)];rfl⟩
  ·exact⟨hj,by rw[ug3 (by left),ug3 (by left)];rfl⟩
 have one:∀ j∈ks,isTB ts u v j=true->j=k:=λ j hj p=>by
  have q:=hk.2;have hjl:=ko.2 j hj;have hkl:=ko.2 k hk.1;unfold isTB at p q;rw[uaa] at p q;have a1:=ug4 p.1;have a2:=ug4 p.2;have b1:=ug4 q.1;have b2:=ug4 q.2;exact zaw ok hjl hkl (a1.trans b1.symm) (a2.trans b2.symm)
 have nd:ks.Nodup:=ko.1.imp λ h=>l6 h;have nf:(ks.filter (isTB ts u v)).Nodup:=nd.sublist List.filter_sublist;have mk:k∈ks.filter (isTB ts u v):=ua0.mpr hk;have all:∀ j∈ks.filter (isTB ts u v),j=k:=λ j hj=>one j (ua0.mp hj).1 (ua0.mp hj).2
 match e:ks.filter (isTB ts u v) with
 | []=>rw[e] at mk;cases mk
 | [j]=>rw[all j (by rw[e];exact j3)]
 | i::j::r =>
  rw[e] at nf all;have h1:=all i j3;have h2:=all j (l9 _ j3);exact absurd (h1.trans h2.symm) (λ z=>(ub1.mp nf).1 (by rw[z];exact j3))
section
variable {own:List Str}{js:List Nat}{g:TG}{te:TE}{σ:L2.St}{Q:VK}{H1:Hp}
end
theorem oF {ws:List Nat}{i u:Nat}(h:ws[i]?=some u):(natV ws)[i]?=some (.int (u:Int)):=by unfold natV;rw[l7,h];rfl
theorem wH {ws:List Nat}(h:ws.Nodup):(keepI ws).Nodup:=by
 unfold keepI;exact uev _ (λ a b h z=>h (by left)) h
end L3
namespace HT
open PySem PyProof.Rows
section
variable {prog:n0}{w:uak}{A:uaj}{R:Result->d8->Prop}{I:j8}{fp wr:List j8}{G:Array GenState->Array GenState->Prop}{St:Nat->d8->Prop}{its:List c9}{ns:List Int}
abbrev two8 (b:Int)(t:Tok)(c:Nat):Obj:={ cls:=.type "list",dict:=none,data:=.seq #[.int b t,.int b t] c,slots:=#[] }
def BotOf (ns:List Int)(j:Nat)(b:Int):Prop:=b∈ns/\∀ i,i<=j->i<ns.length->b<=ns.getD i 0
theorem zG (W:WalksS prog w A.in1 I fp wr G its.length (λ i v=>its[i]?=some v) St)(hI:IntsAre its ns)(S:j8)(hSf:S∉fp)(kw:List (Str × c9)):∀ (k j:Nat)(s:d8)(b:Int)(t:Tok)(c:Nat),
  its.length-(j+1)=k->j+1<=its.length->St (j+1) s->BotOf ns j b->s.heap.get? S=some (two8 b t c) ->
  (∀ (b:Int)(t:Tok)(s':d8),b∈ns->(∀ x∈ns,b<=x)->Moved (S::wr) G s s'->R (.ok (.ret (.int b t))) s')->codeAny (p9 prog w) A (.builtin "min.loop" ⟨[.ref I,.none,.ref S],kw⟩) R s:=by
 have nw:S∉wr:=λ h=>hSf (W.sub _ h);have up:∀ b∈wr,b∈S::wr:=λ b hb=>.tail _ hb;have nm:(toString "min"++toString ".loop":String)="min.loop":=by decide
 have off:∀ {b:j8},b∉S::wr->S≠b:=λ hb h=>hb (h ▸ j3);have hl:=hI.length;intro k;induction k with
 | zero =>
  intro j s b t c hk hj hst top hS hR;have hin:j+1=its.length:=by left
  refine uaz ucd ?_;rw[Around.under_plainId uah _];show j7 _ A.in1 (seqItems? (.ref S) >>= _) _ _ _;refine a8 (ua3 hS rfl ?_);show j7 _ A.in1 (tryCatch (pyNext (.ref I)) _ >>= _) _ _ _;refine a8 (ucj (W.done s _ _ (hin ▸ hst) λ s1 hm=>?_));have hS1:=hm.heap S _ nw hS;show j7 _ A.in1 (updateSeq S (λ _=>#[]) >>= _) _ _ s1;refine a8 (uc1 hS1 rfl (a8 (ucu (c8 ?_))));refine hR b t _ top.1 (λ x hx=>?_) ((hm.mono up).then_heap (tk:=s1.toks) (i6 _) λ b o hb e=>(j0 _ _ (off hb)).trans e);obtain⟨i,hi,e⟩:=ucz hx;have:=top.2 i (by left) hi;rw[f9,c7 hi] at this;rw[← e];exact this
 | succ k ih =>
  intro j s b t c hk hj hst top hS hR;have hlt:j+1<its.length:=by left
  refine uaz ucd ?_;rw[Around.under_plainId uah _];show j7 _ A.in1 (seqItems? (.ref S) >>= _) _ _ _;refine a8 (ua3 hS rfl ?_);show j7 _ A.in1 (tryCatch (pyNext (.ref I)) _ >>= _) _ _ _;refine a8 (ucj (W.item (j+1) s _ _ hlt hst λ v s1 hP hst1 hm=>?_));have hS1:=hm.heap S _ nw hS;obtain⟨u,rfl⟩:=IntsAre.int_at hI (j+1) v hP;show j7 _ A.in1 (tryCatch (holding [_,_] (richCompare .Lt _ _ >>= _)) _ >>= _) _ _ s1;refine a8 (ucj (uae (a8 (lt_int (A:=A.in1) (a8 (uae (ubl (a8 (ucu (c8 ?_))))))))));have next:∀ m,m<=ns.getD (j+1) 0->m<=b->m∈ns->BotOf ns (j+1) m:=λ m h1 h2 h3=>⟨h3,λ i hi hi2=>by
   rcases ucw i (j+1) with z | z
   ·exact uf1 h2 (top.2 i (by left) hi2)
   ·have:i=j+1:=by left
    subst this;exact h1⟩
  by_cases hb:ns.getD (j+1) 0<b
  ·rw[ug3 hb];simp only [if_true];refine a8 (uc1 hS1 rfl (a8 (ucu ?_)));rw[nm];have mem:ns.getD (j+1) 0∈ns:=by
    have:j+1<ns.length:=by left
    rw[f9,c7 this];exact ubt this
   refine c8 ⟨ubq uah _,ih (j+1) _ _ u _ (by left) hlt (W.frame _ s1 _ s1.toks hst1 (i6 _) λ b hbf o e=>(j0 _ _ (λ h:S=b=>hSf (h ▸ hbf))).trans e) (next _ (uau _) (by left) mem) (uag _ hS1 rfl) λ b' t' s2 h1 h2 hm2=>?_⟩;exact hR b' t' s2 h1 h2 (Moved.trans W.gtrans ((hm.mono up).then_heap (tk:=s1.toks) (i6 _) λ b o hb e=>(j0 _ _ (off hb)).trans e) hm2)
  ·rw[ug5 hb];simp only [ua4,if_false];refine a8 (ucu ?_);rw[nm];refine c8 ⟨ubq uah _,ih (j+1) _ b t c (by left) hlt hst1 (next b (by left) (uau _) top.1) hS1 λ b' t' s2 h1 h2 hm2=>?_⟩;exact hR b' t' s2 h1 h2 (Moved.trans W.gtrans (hm.mono up) hm2)
end
section
variable {prog:n0}{w:uak}{A:uaj}{E:c9->d8->Prop}{s:d8}
theorem zau {id:String}{b:Builtin}{args:Args}{Q:c9->d8->Prop}(hk:builtinKind id=none)(hp:plainId id=true)(hb:entryFor table id=some b)(ha:argsOk id args)
  (hc:j7 (p9 prog w) A.in1 (b args) (λ fin s'=>match fin with
   | .done f=>(match (Except.ok f:Result) with | .ok (.ret v)=>Q v s' | .ok _=>False | .error e=>E e s')
   | .again c'=>c'.quiet=true/\codeAny (p9 prog w) A c' (λ r s'=>match r with | .ok (.ret v)=>Q v s' | .ok _=>False | .error e=>E e s') s') E s):j7 (p9 prog w) A (call (.builtin id) args.pos args.kw) Q E s:=by
 refine ufd (ud9 hp hb ?_);simp only [checkBuiltinCall,hk];cases hsig:Manifest.signature? id with
 | none=>exact c8 hc
 | some sig =>
  have z:Bind.checkArgs id sig args=pure ():=by simpa only [argsOk,hsig] using ha
  simp only [z];exact c8 hc
theorem zE (a v:c9):argsOk "min" ⟨[a],[(v4 "default",v)]⟩:=by unfold argsOk;kernel_rfl
theorem zab {l:j8}{its:List c9}{ns:List Int}{d:c9}{Q:c9->d8->Prop}(hh:A.in1.handled=none)(hl:s.heap.IsList l its.toArray)(hI:IntsAre its ns)
  (h0:ns=[]->∀ (h':Heap)(tk:Nat),(∀ b o,s.heap.get? b=some o->h'.get? b=some o)->Q d { s with heap:=h',toks:=tk })
  (h1:∀ (b:Int)(t:Tok)(h':Heap)(tk:Nat),b∈ns->(∀ x∈ns,b<=x)->(∀ b o,s.heap.get? b=some o->h'.get? b=some o)->Q (.int b t) { s with heap:=h',toks:=tk }) :
  j7 (p9 prog w) A (call (.builtin "min") [.ref l] [(v4 "default",d)]) Q E s:=by
 have nm:(toString "min"++toString ".loop":String)="min.loop":=by decide
 refine zau (args:=⟨[.ref l],[(v4 "default",d)]⟩) PySem.F.kind_min PySem.F.plain_min PySem.F.entry_min (zE _ _) ?_;show j7 _ A.in1 (Builtin.Builtins.bindParams "min" ["key","default"] 0 ⟨[],[(v4 "default",d)]⟩ >>= _) _ _ s;refine a8 (ufq (show Builtin.Builtins.bindParams "min" ["key","default"] 0 ⟨[],[(v4 "default",d)]⟩=pure [none,some d] from rfl) (a8 (c8 ?_)));refine a8 (uck hl ?_);have lt:l<s.heap.objs.size:=by obtain⟨o,e,_⟩:=hl;exact i9 e
 have ne:l≠s.heap.objs.size:=l6 lt;have W:=(Walks.list (prog:=prog) (w:=w) (A:=A.in1) hh s.heap.objs.size l ne its.toArray).toS;have nS:s.heap.objs.size+1∉[s.heap.objs.size,l]:=by
  simp only [j4,m7,or_false,not_or];exact⟨ubh (ubu _),ubh (ubf lt)⟩
 have esz:its.toArray.size=its.length:=j5;rw[esz] at W;have eP:(λ (i:Nat) (v:c9)=>its.toArray[i]?=some v)=λ i v=>its[i]?=some v:=by funext i v;simp
 rw[eP] at W;refine a8 (udy ?_ (x8 _));rw[nm];have sz:∀ o:Obj,(s.heap.push o).objs.size=s.heap.objs.size+1:=λ o=>uaq ..;refine c8 ⟨ubq uah _,?_⟩;rw[sz];generalize hg:((s.heap.push { cls:=Value.type "list_iterator",data:=Data.fields #[.ref l,.int 0 0] }).push { cls:=Value.type "list",data:=Data.seq #[] })=g;have kg:∀ b o,s.heap.get? b=some o->g.get? b=some o:=λ b o e=>by rw[← hg];exact a9 _ (a9 _ e)
 have hS:g.get? (s.heap.objs.size+1)=some { cls:=.type "list",dict:=none,data:=.seq #[] 0,slots:=#[] }:=by rw[← hg,← sz];exact i7 _ rfl
 have st0:g.IsListIter s.heap.objs.size l 0/\g.IsList l its.toArray:=by
  rw[← hg];exact⟨⟨_,a9 _ (i7 _ rfl),P⟩,(hl.push _).push _⟩
 have keep:∀ {s':d8},Moved ((s.heap.objs.size+1)::[s.heap.objs.size]) (λ a b=>b=a) { s with heap:=g } s'->∀ b o,s.heap.get? b=some o->s'.heap.get? b=some o:=λ hm b o e=>by
  have lb:=i9 e;refine hm.heap b o (λ z=>?_) (kg b o e);simp only [j4,m7,or_false] at z;rcases z with z | z
  ·exact absurd lb (by rw[z];exact Nat.not_lt.mpr (ubv _))
  ·exact absurd lb (by rw[z];exact uay _)
 have hIl:=hI.length;show codeAny (p9 prog w) A (.builtin "min.loop" ⟨[.ref s.heap.objs.size,.none,.ref (s.heap.objs.size+1)],[(v4 "default",d)]⟩) _ { s with heap:=g };refine uaz ucd ?_;rw[Around.under_plainId uah _];show j7 _ A.in1 (seqItems? (.ref (s.heap.objs.size+1)) >>= _) _ _ _;refine a8 (ua3 hS rfl ?_);show j7 _ A.in1 (tryCatch (pyNext (.ref s.heap.objs.size)) _ >>= _) _ _ _;by_cases e:its.length=0
 ·refine a8 (ucj (W.done { s with heap:=g } _ _ (by rw[e];exact st0) λ s1 hm=>?_));have en:ns=[]:=ucc.mp (by left);rw[Moved.eq_with hm];refine a8 (uc2 (c8 ?_));exact h0 en _ _ (keep (hm.mono λ b hb=>.tail _ hb))
 ·refine a8 (ucj (W.item 0 { s with heap:=g } _ _ (by left) st0 λ v s1 hP hst1 hm=>?_));have nw:s.heap.objs.size+1∉[s.heap.objs.size]:=λ z=>absurd (l8.mp z) (ubh (ubu _));have hS1:=hm.heap _ _ nw hS;obtain⟨u,rfl⟩:=IntsAre.int_at hI 0 v hP;show j7 _ A.in1 (updateSeq (s.heap.objs.size+1) _ >>= _) _ _ s1;refine a8 (uc1 hS1 rfl ?_);rw[nm];have off:∀ {b:j8},b∉(s.heap.objs.size+1)::[s.heap.objs.size]->s.heap.objs.size+1≠b:=λ hb h=>hb (h ▸ j3);have mem:ns.getD 0 0∈ns:=by
   have:0<ns.length:=by left
   rw[f9,c7 this];exact ubt this
  refine c8 ⟨ubq uah _,zG W hI _ nS _ _ 0 _ (ns.getD 0 0) u _ rfl (by left) (W.frame _ s1 _ s1.toks hst1 (i6 _) λ b hbf o e=>(j0 _ _ (λ h:s.heap.objs.size+1=b=>nS (by rw[h];exact hbf))).trans e) ⟨mem,λ i hi _=>?_⟩ (uag _ hS1 rfl) λ b t s2 q1 q2 hm2=>?_⟩
  ·have:i=0:=by left
   subst this;exact uau _
  ·have hm3:=Moved.trans W.gtrans ((hm.mono λ b hb=>.tail _ hb).then_heap (tk:=s1.toks) (i6 _) λ b o hb e=>(j0 _ _ (off hb)).trans e) hm2;rw[Moved.eq_with hm3];exact h1 b t _ _ q1 q2 (keep hm3)
end
end HT
namespace L3
open PySem PySem.Spec PyProof.Rows L2
def tMinD (t tk:TA):TE:=λ σ H Q=>t σ H λ vs H1=>tk σ H1 λ ws H2=>∃ (p:j8)(ns:List Int)(y:V),vs=[.ref p]/\ws=[y]/\H2 p=some (.lst (ns.map V.int))/\(ns=[]->Q y H2)/\∀ b,b∈ns->(∀ x∈ns,b<=x)->Q (.int b) H2
theorem zdb {X:Cx}{p pos kpos:Pos}{e d:uby}{t tk:TA}(hc:X.calm=true)(hg:Gl X "min")(hm:X.mg "min"=none)(he:PA X [e] t)(hd:PK X [⟨some (v4 "default"),d,kpos⟩] tk)(hs:uav [e] X.env=[(false,eval e X.env)]:=by rfl)
  (hall:(backToKw pos (keywordEach [⟨some (v4 "default"),d,kpos⟩] X.env)).filterMap (·.1)=[v4 "default"]:=by rfl):PE X (.Call (.Name "min" p) [e] [⟨some (v4 "default"),d,kpos⟩] pos) (tMinD t tk):=by
 intro pins s σ H Q I h;refine ud0 (dQ I hg hm (u:=.builtin "min") (by symm) ?_);refine callWith_kw (e:=e) (rest:=[]) (thn (he pos pins s σ H _ I h) λ us s1 ⟨vs,H1,I1,r1,q1⟩=>?_) ?a ?b ?c ?d
 case a=>rw[hs];rfl
 case b=>rw[hs];rfl
 case c=>rfl
 case d=>rfl
 refine thn (hd pos pins s1 σ H1 _ I1 q1) λ ws s2 ⟨zs,H2,I2,r2,q2⟩=>?_;obtain⟨p,ns,y,rfl,rfl,hp,q0,q1⟩:=q2;obtain⟨u,rfl,ru⟩:=r1.one;obtain⟨v,rfl,rv⟩:=r2.one;cases ru;rw[hall];obtain⟨its,rI,pl,hz⟩:=I2.list (SqL.of hp);refine HT.zab (show X.A.in1.handled=none from I2.ok.hd hc) pl.isList (cW rI) (λ e h' tk hk=>?_) (λ b t h' tk h1 h2 hk=>?_)
 ·exact⟨y,H2,I2.kept (t':=tk) hk,rv,q0 e⟩
 ·exact⟨.int b,H2,I2.kept (t':=tk) hk,⟨t,rfl⟩,q1 b h1 h2⟩
theorem nJ (val:Nat->Int):∀ k,argBest (λ i j=>decide (val i>val j)) k<=k/\∀ i,i<=k->val i<=val (argBest (λ i j=>decide (val i>val j)) k)
 | 0=>⟨i6 _,λ i hi=>by rw[show i=0 by left];exact uau _⟩
 | k+1=>by
  obtain⟨h1,h2⟩:=nJ val k;show (if decide (val (k+1)>val (argBest _ k))=true then k+1 else argBest _ k)<=k+1/\∀ i,i<=k+1->val i<=val (if decide (val (k+1)>val (argBest _ k))=true then k+1 else argBest _ k);by_cases c:val (k+1)>val (argBest (λ i j=>decide (val i>val j)) k)
  ·rw[ug7 (ug3 c)];refine⟨i6 _,λ i hi=>?_⟩;rcases ucw i (k+1) with z | z
   ·have:=h2 i (by left);left
   ·rw[show i=k+1 by left];exact uau _
  ·rw[ug8 (λ z=>c (ug4 z))];refine⟨by left,λ i hi=>?_⟩;rcases ucw i (k+1) with z | z
   ·exact h2 i (by left)
   ·rw[show i=k+1 by left];left
inductive call_maxL_i  (xs:List V) (H:Hp) (Q:VK):Prop
 | mk:∀ (p:j8)(ns:List Int),(xs=[.ref p])->(H p=some (.lst (ns.map V.int)))->(ns≠[])->(∀ b,b∈ns->(∀ x∈ns,x<=b)->Q (.int b) H)->call_maxL_i xs H Q
theorem zac {X:Cx}(hh:X.calm=true):CallR X (.builtin "max") (call_maxL_i):=by
 intro pins s σ H xs us Q I r h;obtain⟨p,ns,rfl,hq,hne,q⟩:=h;obtain⟨u,rfl,rx⟩:=vals1 r;cases rx;obtain⟨its,rv,pl,hz⟩:=I.list (SqL.of hq);have hl:=rv.length;rw[i5] at hl;have hI:IntsAre its ns:=cW rv;have lt:p≠s.heap.objs.size:=by obtain⟨o,e,_⟩:=pl.isList;exact l6 (i9 e)
 refine call_max_walkS (uck pl.isList ?_);have W:=(Walks.list (prog:=X.prog) (w:=X.w) (A:=X.A.in1) (show X.A.in1.handled=none from I.ok.hd hh) s.heap.objs.size p lt its.toArray).toS;have npos:0<ns.length:=udj.mpr hne;have esz:its.toArray.size=ns.length:=by rw[j5,← hl]
 have hv:∀ (i:Nat)(v:c9),its.toArray[i]?=some v->∃ t,v=Value.int (ns.getD i 0) t:=λ i v hv=>IntsAre.int_at hI i v (by simpa using hv);refine⟨s.heap.objs.size,V,V,V,(λ i j=>decide (ns.getD i 0>ns.getD j 0)),rfl,W,⟨⟨_,i7 _ rfl,rfl,rfl⟩,pl.isList.push _⟩,λ b hb=>?_,by rw[esz];exact npos,CmpOf.ints_gt (λ i=>ns.getD i 0) hv,λ v s' hP hm=>?_⟩
 ·obtain⟨o,e,_⟩:=pl.isList;have hlt:p<s.heap.objs.size:=i9 e;show b<(s.heap.push _).objs.size;rw[uaq];simp only [j4,m7,or_false] at hb;rcases hb with z | z
  ·rw[z];exact ubu _
  ·rw[z];exact ubf hlt
 ·obtain⟨t,rfl⟩:=hv _ _ hP;obtain⟨b1,b2⟩:=nJ (λ i=>ns.getD i 0) (its.toArray.size-1);rw[Moved.eq_with hm];refine⟨.int _,H,I.kept (t':=s'.toks) λ b o e=>hm.heap b o (λ z=>?_) (a9 _ e),⟨t,rfl⟩,q _ ?_ λ x hx=>?_⟩
  ·have:b=s.heap.objs.size:=by simpa using z
   exact absurd (i9 e) (by rw[this];exact uay _)
  ·have:argBest (λ i j=>decide (ns.getD i 0>ns.getD j 0)) (its.toArray.size-1)<ns.length:=by left
   rw[f9,c7 this];exact ubt this
  ·obtain⟨i,hi,e⟩:=ucz hx;have:=b2 i (by left);have g:ns.getD i 0=ns[i]:=by rw[f9,c7 hi];rfl
   rw[← e,← g];exact this
theorem IsAll.at_ {K:b9}{H:Hp}:∀ {ds:List r8}{vs:List V}{i:Nat}{d:r8},IsAll K H ds vs->ds[i]?=some d->∃ v,vs[i]?=some v/\Is K H d v
 | [],vs,i,d,_,h=>by cases h
 | d0::ds,vs,0,d,⟨v,r,e,h1,_⟩,h=>by
  cases h;exact⟨v,by rw[e];rfl,h1⟩
 | d0::ds,vs,i+1,d,⟨v,r,e,_,h2⟩,h=>by
  obtain⟨u,e1,e2⟩:=IsAll.at_ (i:=i) h2 h;exact⟨u,by rw[e];exact e1,e2⟩
theorem IsAll.from_ {K:b9}{H:Hp}:∀ {ds:List r8}{vs:List V}{i:Nat}{v:V},IsAll K H ds vs->vs[i]?=some v->∃ d,ds[i]?=some d/\Is K H d v
 | [],vs,i,v,h,e=>by
  have:vs=[]:=h;rw[this] at e;cases e
 | d0::ds,vs,0,v,⟨u,r,e0,h1,_⟩,e=>by
  rw[e0] at e;cases e;exact⟨d0,rfl,h1⟩
 | d0::ds,vs,i+1,v,⟨u,r,e0,_,h2⟩,e=>by
  rw[e0] at e;exact IsAll.from_ (i:=i) h2 e
section
variable {own:List Str}{js:List Nat}{g:TG}{tt:TT}{te:TE}{σ:L2.St}{Q:VK}{H1:Hp}
theorem xT {K K':b9}{a:j8}{xs:List V}(hx:H1 a=some (.lst xs))(Sg:L2.St->Prop)(sel:Nat->Option r8)(tup:∀ i d,sel i=some d->tupD d=true)(hn:xs.length<=1000)(h0:Sg (start3 own js σ))
  (step:∀ i x T σ' H',xs[i]?=some x->Same H1 H'->H' T=none->Sg σ'->∀ (C:L2.St->V->Hp->Prop)(L:L2.St->Hp->Prop),(∀ σ3 v d H5,Sg σ3->Same H' H5->sel i=some d->Is K' H5 d v->C σ3 v H5)->(∀ σ3 H5,Sg σ3->Same H' H5->sel i=none->L σ3 H5) ->
   g (.ref T) σ' (upd H' T (.tup [.int (i:Nat),x])) λ σ3 H3=>tt σ3 H3 λ b H4=>if b=true then te σ3 H4 λ v H5=>C σ3 v H5 else L σ3 H4)
  (fin:∀ D ys H',H1 D=none->Same H1 H'->H' D=some (.lst ys)->ys.length<=xs.length->IsAll K' H' ((d7 xs.length).filterMap sel) ys->Q (.ref D) H'):CompGo own js g tt te σ Q (Itn false K a) H1:=by
 intro D hD;have s1:∀ H',Same H1 H'->SqX false K H' a xs:=λ H' s=>SqX.of (s _ _ hx);have tupI:∀ i,tupAll ((d7 i).filterMap sel)=true:=λ i=>by
  have go:∀ is:List Nat,tupAll (is.filterMap sel)=true:=λ is=>by
   induction is with
   | nil=>rfl
   | cons j r ih =>
    rw[ua2];cases e:sel j with
    | none=>exact ih
    | some d=>show (tupD d&&tupAll (r.filterMap sel))=true;rw[tup j d e,ih];rfl
  exact go _
 refine⟨λ i m ys σ' H'=>m=xs.length-i/\i<=xs.length/\Sg σ'/\Same H1 H'/\ys.length<=i/\IsAll K' H' ((d7 i).filterMap sel) ys,⟨xs.length,rfl,x8 _,h0,aP hD,i6 _,rfl⟩,?_⟩;rintro i m ys σ' H' ⟨rfl,hi,sg,sm,ly,ia⟩ hd;by_cases hlt:i<xs.length
 ·refine .inr ⟨⟨xs,xs[i],s1 H' sm,by simp [hlt]⟩,λ x H2 hy=>?_⟩;obtain⟨T,y,hT,rfl,rfl,e⟩:=hy;refine step i y T σ' H' (e _ (s1 H' sm)) sm hT sg
   (λ σ3 v H5=>H5 D=some (.lst ys)/\ys.length<o7/\∃ m',m'<xs.length-i/\(m'=xs.length-(i+1)/\i+1<=xs.length/\Sg σ3/\Same H1 (upd H5 D (.lst (ys++[v])))/\(ys++[v]).length<=i+1/\IsAll K' (upd H5 D (.lst (ys++[v]))) ((d7 (i+1)).filterMap sel) (ys++[v])))
   (λ σ3 H5=>H5 D=some (.lst ys)/\∃ m',m'<xs.length-i/\(m'=xs.length-(i+1)/\i+1<=xs.length/\Sg σ3/\Same H1 H5/\ys.length<=i+1/\IsAll K' H5 ((d7 (i+1)).filterMap sel) ys)) (λ σ3 v d H5 sg3 s5 e hv=>?_) (λ σ3 H5 sg3 s5 e=>?_)
  ·have hd5:=s5 _ _ hd;have b5:But D H5 (upd H5 D (.lst (ys++[v]))):=λ b o hb z=>by rw[aJ hb];exact z
   refine⟨hd5,ubn (by left:ys.length<=1000) (by decide),xs.length-(i+1),by left,rfl,hlt,sg3,λ b o z=>?_,by rw[i8,k9];left,?_⟩
   ·rw[aJ (aY z hD)];exact s5 _ _ (sm _ _ z)
   ·rw[uba,ua6,show [i].filterMap sel=[d] by simp [e]];exact IsAll.snoc (Is.but b5 hd5 _ (tup i d e) hv) (IsAll.but b5 hd5 _ (tupI i) (IsAll.same s5 _ ia))
  ·refine⟨s5 _ _ hd,xs.length-(i+1),by left,rfl,hlt,sg3,sm.trans s5,by left,?_⟩;rw[uba,ua6,show [i].filterMap sel=[] by simp [e],uct];exact IsAll.same s5 _ ia
 ·have e:i=xs.length:=by left
  subst e;exact .inl ⟨⟨xs,s1 H' sm,i6 _⟩,fin D ys H' hD sm hd ly ia⟩
end
def lvl (ls:List (List Nat))(i:Nat):List Nat:=ls.getD i []
structure LevOk (n:Nat)(ls:List (List Nat)):Prop where
 one:1<=ls.length
 six:ls.length<=6
 first:lvl ls 0=d7 n
 rise:∀ i,(lvl ls i).Pairwise (·<·)
 inn:∀ i,∀ p∈lvl ls i,p<n
 down:∀ i,∀ p∈lvl ls (i+1),p∈lvl ls i
theorem fM {ls:List (List Nat)}{i:Nat}(h:ls.length<=i):lvl ls i=[]:=by unfold lvl;rw[f9,x9 h];rfl
theorem LevOk.len {n:Nat}{ls:List (List Nat)}(h:LevOk n ls)(i:Nat):(lvl ls i).length<=n:=KeepOk.len (m:=n) (ks:=lvl ls i) ⟨h.rise i,h.inn i⟩
def IsTop (ls:List (List Nat))(w b:Nat):Prop:=b<ls.length/\w∈lvl ls b/\∀ i,i<ls.length->w∈lvl ls i->i<=b
theorem IsTop.unique {ls:List (List Nat)}{w b b':Nat}(h:IsTop ls w b)(h':IsTop ls w b'):b'=b:=by
 have:=h.2.2 b' h'.1 h'.2.1;have:=h'.2.2 b h.1 h.2.1;left
structure IsNear (ls:List (List Nat))(m:Nat)(D:List (Option Int))(o:Option Int):Prop where
 has:∀ y,o=some y->∃ p,p∈lvl ls m/\Far.get D p=some y
 least:∀ p x,p∈lvl ls m->Far.get D p=some x->∃ y,o=some y/\y<=x
def Bun (ls:List (List Nat))(D:List (Option Int))(w:Nat):Prop:=∃ x,Far.get D w=some x/\∀ b p y,IsTop ls w b->p∈lvl ls (b+1)->Far.get D p=some y->x<y
noncomputable def bunB (ls:List (List Nat))(D:List (Option Int))(w:Nat):Bool:=@decide (Bun ls D w) (Classical.propDecidable _)
theorem bunB_iff {ls:List (List Nat)}{D:List (Option Int)}{w:Nat}:bunB ls D w=true↔Bun ls D w:=by unfold bunB;exact @decide_eq_true_iff _ (Classical.propDecidable _)
theorem zch {ls:List (List Nat)}{D:List (Option Int)}{w:Nat}(h:Far.get D w=none):bunB ls D w=false:=uaw.mpr λ z=>by
 obtain⟨x,e,_⟩:=bunB_iff.mp z;rw[h] at e;cases e
def nearB (x:Int):Option Int->Bool
 | none=>true
 | some y=>decide (x<y)
theorem ze3 {ls:List (List Nat)}{D:List (Option Int)}{w b:Nat}{x:Int}{o:Option Int}(t:IsTop ls w b)(nr:IsNear ls (b+1) D o)(e:Far.get D w=some x):bunB ls D w=nearB x o:=by
 rw[uci,bunB_iff];constructor
 ·rintro ⟨x',e',h⟩;rw[e] at e';cases e';cases o with
  | none=>rfl
  | some y =>
   obtain⟨p,hp,ep⟩:=nr.has y rfl;exact ug3 (h b p y t hp ep)
 ·intro h;refine⟨x,e,λ b' p y t' hp ep=>?_⟩;rw[t.unique t'] at hp;obtain⟨y',e',le⟩:=nr.least p y hp ep;subst e';have:x<y':=ug4 h;left
def bunD (D:List (Option Int))(w:Nat):r8:=.tuple (([(w:Int),(Far.get D w).getD 0]:List Int).map .int)
noncomputable def bunSel (ls:List (List Nat))(D:List (Option Int))(w:Nat):Option r8:=if bunB ls D w=true then some (bunD D w) else none
noncomputable def bunchL (ls:List (List Nat))(D:List (Option Int))(n:Nat):List r8:=(d7 n).filterMap (bunSel ls D)
theorem xZ {ls:List (List Nat)}{D:List (Option Int)}(i:Nat)(d:r8)(h:bunSel ls D i=some d):tupD d=true:=by
 unfold bunSel at h;split at h
 ·cases h;rfl
 ·cases h
theorem fF {K:b9}{H:Hp}{ls:List (List Nat)}{v:V}(h:Is K H (piecesD ls) v):∃ p vs,v=.ref p/\H p=some (.tup vs)/\vs.length=ls.length/\∀ i,i<ls.length->∃ t,vs[i]?=some (.ref t)/\H t=some (.tup (natV (lvl ls i))):=by
 obtain⟨p,vs,rfl,hp,ia⟩:=h;have hl:=ia.length;rw[i5] at hl;refine⟨p,vs,rfl,hp,hl,λ i hi=>?_⟩;have e:(ls.map pieceD)[i]?=some (pieceD (lvl ls i)):=by
  rw[l7,c7 hi];unfold lvl;rw[f9,c7 hi];rfl
 obtain⟨x,e1,h1⟩:=IsAll.at_ ia e;obtain⟨t,rfl,ht⟩:=lJ h1;exact⟨t,e1,ht⟩
abbrev Lv (K:b9)(H:Hp)(n:Nat)(ls:List (List Nat))(v:V):Prop:=Is K H (piecesD ls) v/\LevOk n ls/\n<=24
theorem xG (ls:List (List Nat)):tupD (piecesD ls)=true:=eT ls
def FarsOf (ts:List Tie)(n s:Nat)(D:List (Option Int)):Prop:=D.length=n/\∀ u,u<n->Far.Dst (arcs ts (d7 ts.length)) s u (Far.get D u)
theorem FarsOf.unique {ts:List Tie}{n s:Nat}{D D':List (Option Int)}(h:FarsOf ts n s D)(h':FarsOf ts n s D'):D'=D:=ucs λ i=>by
 by_cases hi:i<n
 ·have z:=(h'.2 i hi).unique (h.2 i hi);have l1:=h.1;have l2:=h'.1;unfold Far.get at z;rw[f9,c7 (by left),f9,c7 (by left)] at z;rw[c7 (by left),c7 (by left)];exact congrArg some z
 ·have l1:=h.1;have l2:=h'.1;rw[x9 (by left),x9 (by left)]
def spIsLevel (K:b9):Sp:=λ vs H Q _=>∃ (n:Int)(ts:List Tie)(wv:V)(p:j8)(l:List Nat),vs=[wv,.ref p]/\Is K H (webD n ts) wv/\H p=some (.tup (natV l))/\l.length<=24/\l.Pairwise (·<·)/\(∀ x∈l,x<n.toNat)/\∀ H',Same H H'->Q (.bl true) H'
def spLies (K:b9):Sp:=λ vs H Q _=>∃ (p q:j8)(l m:List Nat),vs=[.ref p,.ref q]/\H p=some (.tup (natV l))/\H q=some (.tup (natV m))/\l.length<=24/\(∀ x∈l,x∈m)/\∀ H',Same H H'->Q (.bl true) H'
def spAreLev (K:b9):Sp:=λ vs H Q _=>∃ (n:Int)(ts:List Tie)(ls:List (List Nat))(wv lv:V),vs=[wv,lv]/\Is K H (webD n ts) wv/\1<=n/\Lv K H n.toNat ls lv/\∀ H',Same H H'->Q (.bl true) H'
def spNeedLev (K:b9):Sp:=λ vs H Q _=>∃ (n:Int)(ts:List Tie)(ls:List (List Nat))(wv lv:V),vs=[wv,lv]/\Is K H (webD n ts) wv/\1<=n/\Lv K H n.toNat ls lv/\∀ H',Same H H'->Q .non H'
def spTop (K:b9):Sp:=λ vs H Q _=>∃ (n:Nat)(ls:List (List Nat))(lv:V)(w:Nat),vs=[lv,.int (w:Int)]/\Lv K H n ls lv/\w<n/\∀ b H',Same H H'->IsTop ls w b->Q (.int (b:Int)) H'
def spNearL (K:b9):Sp:=λ vs H Q _=>∃ (n:Nat)(ls:List (List Nat))(lv:V)(m:Nat)(l:j8)(D:List (Option Int)),vs=[lv,.int (m:Int),.ref l]/\Lv K H n ls lv/\m<=ls.length/\H l=some (.lst (D.map ov))/\D.length=n/\∀ o H',Same H H'->IsNear ls m D o->Q (ov o) H'
def spBunched (K:b9):Sp:=λ vs H Q _=>∃ (n:Nat)(ls:List (List Nat))(lv:V)(l:j8)(D:List (Option Int))(w:Nat),vs=[lv,.ref l,.int (w:Int)]/\Lv K H n ls lv/\H l=some (.lst (D.map ov))/\D.length=n/\w<n/\∀ H',Same H H'->Q (.bl (bunB ls D w)) H'
def spWebFars (K:b9):Sp:=λ vs H Q _=>∃ (n:Int)(ts:List Tie)(wv:V)(s:Int),vs=[wv,.int s]/\Is K H (webD n ts) wv/\WebOk n ts/\0<=s/\s<n/\∀ l D H',Same H H'->H l=none->H' l=some (.lst (D.map ov))->FarsOf ts n.toNat s.toNat D->Q (.ref l) H'
def spBunch (K:b9):Sp:=λ vs H Q _=>∃ (n:Int)(ts:List Tie)(ls:List (List Nat))(wv lv:V)(s:Int),vs=[wv,lv,.int s]/\Is K H (webD n ts) wv/\WebOk n ts/\Lv K H n.toNat ls lv/\0<=s/\s<n/\∀ t ys D H',Same H H'->FarsOf ts n.toNat s.toNat D->H' t=some (.tup ys)->IsAll K H' (bunchL ls D n.toNat) ys->Q (.ref t) H'
def spLevels (K:b9):Sp:=λ vs H Q _=>∃ (p:j8)(n:Int),vs=[.ref p,.int n]/\Pot H p/\1<=n/\n<=24/\∀ v H' ls,But p H H'->Pot H' p->Lv K H' n.toNat ls v->Q v H'
def FarsT (H:Hp)(p lf:j8)(n:Nat)(ts:List Tie):Prop:=∃ ys,H lf=some (.lst ys)/\lf≠p/\ys.length=n/\∀ i v,ys[i]?=some v->∃ l D,v=.ref l/\l≠p/\H l=some (.lst (D.map ov))/\FarsOf ts n i D
theorem zcg {n:Int}{ts:List Tie}{ls:List (List Nat)}{D:List (Option Int)}{s:Nat}(ok:WebOk n ts)(hs:s<n.toNat)(F:FarsOf ts n.toNat s D)(lo:LevOk n.toNat ls):bunB ls D s=true/\Far.get D s=some 0:=by
 have P:=fI ok (⟨ubr,λ k hk=>o9.mp hk⟩:KeepOk ts.length (d7 ts.length));have e0:Far.get D s=some 0:=by
  obtain⟨y,e,le⟩:=(F.2 s hs).2 0 .nil;have:=((F.2 s hs).1 y e).nonneg P;rw[e,show y=0 by left]
 refine⟨bunB_iff.mpr ⟨0,e0,λ b p y t hp ep=>?_⟩,e0⟩;have hpn:=lo.inn _ p hp;have w:=(F.2 p hpn).1 y ep;cases hw:w with
 | nil =>
  have bl:b+1<ls.length:=by
   rcases ucw (b+1) ls.length with z | z
   ·exact z
   ·rw[fM z] at hp;cases hp
  have:=t.2.2 (b+1) bl hp;left
 | @snoc u _ l x w' m =>
  have:=P _ _ _ m;have:=w'.nonneg P;left
theorem yM {l:List Nat}(h:l.Pairwise (·<·)):risI (keepI l)=true:=by
 unfold risI;rw[ucp];refine uas.mpr λ i hi=>?_;have hi':=o9.mp hi;have ll:(keepI l).length=l.length:=by unfold keepI;rw[i5]
 rw[o6,ll] at hi';have g:∀ j (hj:j<l.length),(keepI l).getD j 0=((l[j]:Nat):Int):=λ j hj=>by
  unfold keepI;rw[f9,l7,c7 hj];rfl
 have g2:((keepI l).drop 1).getD i 0=(keepI l).getD (i+1) 0:=by rw[f9,f9,udo,ue4]
 show decide ((keepI l).getD i 0<((keepI l).drop 1).getD i 0)=true;rw[g2,g i (by left),g (i+1) (by left)];have:=ub5.mp h i (i+1) (by left) (by left) (by left);exact ug3 (by left)
end L3
namespace HT
open PySem PyProof.Rows
theorem lN:∀ {a b c:List Int},lexLt a b=true->lexLt b c=true->lexLt a c=true
 | [],[],_,h,_=>by cases h
 | [],_::_,[],_,h=>by cases h
 | [],_::_,_::_,_,_=>rfl
 | _::_,[],_,h,_=>by cases h
 | _::_,_::_,[],_,h=>by cases h
 | x::xs,y::ys,z::zs,h1,h2=>by
  rw[dX] at h1 h2 ⊢;by_cases e1:x=y
  ·subst e1;rw[ug7 rfl] at h1;by_cases e2:x=z
   ·rw[ug7 e2] at h2 ⊢;exact lN h1 h2
   ·rw[ug8 e2] at h2 ⊢;exact h2
  ·rw[ug8 e1] at h1;have l1:=ug4 h1;by_cases e2:y=z
   ·subst e2;rw[ug8 e1];exact h1
   ·rw[ug8 e2] at h2;have l2:=ug4 h2;rw[ug8 (by left)];exact ug3 (by left)
section
variable {prog:n0}{w:uak}{A:uaj}{R:Result->d8->Prop}{I:j8}{fp wr:List j8}{G:Array GenState->Array GenState->Prop}{St:Nat->d8->Prop}{its:List c9}{ks:List (List Int)}
abbrev twoV (v:c9)(c:Nat):Obj:={ cls:=.type "list",dict:=none,data:=.seq #[v,v] c,slots:=#[] }
def TupAt (h:Heap)(v:c9)(k:List Int):Prop:=∃ a xs,v=.ref a/\h.IsTuple a xs/\IntsAre xs.toList k
def TupsAt (h:Heap)(its:List c9)(ks:List (List Int)):Prop:=∀ i v,its[i]?=some v->TupAt h v (ks.getD i [])
theorem TupsAt.move {h h':Heap}(t:TupsAt h its ks)(k:∀ (i:Nat) (a:j8) (o:Obj),its[i]?=some (Value.ref a)->h.get? a=some o->h'.get? a=some o):TupsAt h' its ks:=λ i v e=>by
 obtain⟨a,xs,rfl,⟨o,ho,hx⟩,hi⟩:=t i v e;exact⟨a,xs,rfl,⟨o,k i a o e ho,hx⟩,hi⟩
theorem zF (W:WalksS prog w A.in1 I fp wr G its.length (λ i v=>its[i]?=some v) St)(hu:A.in1.units<cLine)(S:j8)(hSf:S∉fp)(off:∀ (i:Nat) (a:j8),its[i]?=some (Value.ref a)->a∉S::wr):∀ (k j:Nat)(s:d8)(b:Nat)(v:c9)(c:Nat),
  its.length-(j+1)=k->j+1<=its.length->St (j+1) s->b<=j->its[b]?=some v->(∀ i,i<=j->lexLt (ks.getD i []) (ks.getD b [])=false)->s.heap.get? S=some (twoV v c)->TupsAt s.heap its ks ->
  (∀ (b:Nat)(v:c9)(s':d8),its[b]?=some v->(∀ i,i<its.length->lexLt (ks.getD i []) (ks.getD b [])=false)->Moved (S::wr) G s s'->R (.ok (.ret v)) s')->codeAny (p9 prog w) A (.builtin "min.loop" ⟨[.ref I,.none,.ref S],[]⟩) R s:=by
 have nw:S∉wr:=λ h=>hSf (W.sub _ h);have up:∀ b∈wr,b∈S::wr:=λ b hb=>.tail _ hb;have nm:(toString "min"++toString ".loop":String)="min.loop":=by decide
 have offS:∀ {b:j8},b∉S::wr->S≠b:=λ hb h=>hb (h ▸ j3);intro k;induction k with
 | zero =>
  intro j s b v c hk hj hst hbj hv top hS hT hR;have hin:j+1=its.length:=by left
  refine uaz ucd ?_;rw[Around.under_plainId uah _];show j7 _ A.in1 (seqItems? (.ref S) >>= _) _ _ _;refine a8 (ua3 hS rfl ?_);show j7 _ A.in1 (tryCatch (pyNext (.ref I)) _ >>= _) _ _ _;refine a8 (ucj (W.done s _ _ (hin ▸ hst) λ s1 hm=>?_));have hS1:=hm.heap S _ nw hS;show j7 _ A.in1 (updateSeq S (λ _=>#[]) >>= _) _ _ s1;refine a8 (uc1 hS1 rfl (a8 (ucu (c8 ?_))));exact hR b v _ hv (λ i hi=>top i (by left)) ((hm.mono up).then_heap (tk:=s1.toks) (i6 _) λ b o hb e=>(j0 _ _ (offS hb)).trans e)
 | succ k ih =>
  intro j s b v c hk hj hst hbj hv top hS hT hR;have hlt:j+1<its.length:=by left
  refine uaz ucd ?_;rw[Around.under_plainId uah _];show j7 _ A.in1 (seqItems? (.ref S) >>= _) _ _ _;refine a8 (ua3 hS rfl ?_);show j7 _ A.in1 (tryCatch (pyNext (.ref I)) _ >>= _) _ _ _;refine a8 (ucj (W.item (j+1) s _ _ hlt hst λ u s1 hP hst1 hm=>?_));have hS1:=hm.heap S _ nw hS;have hT1:TupsAt s1.heap its ks:=hT.move λ i a o ei ho=>hm.heap a o (λ z=>off i a ei (up _ z)) ho;obtain⟨a1,xs1,rfl,t1,i1⟩:=hT1 _ _ hP;obtain⟨a2,xs2,rfl,t2,i2⟩:=hT1 _ _ hv;show j7 _ A.in1 (tryCatch (holding [_,_] (richCompare .Lt _ _ >>= _)) _ >>= _) _ _ s1;refine a8 (ucj (uae (a8 (lX (A:=A.in1) t1 t2 i1 i2 hu (a8 (uae (ubl (a8 (ucu (c8 ?_))))))))));by_cases hb:lexLt (ks.getD (j+1) []) (ks.getD b [])=true
  ·rw[hb];simp only [if_true];refine a8 (uc1 hS1 rfl (a8 (ucu ?_)));rw[nm];refine c8 ⟨ubq uah _,ih (j+1) _ (j+1) _ _ (by left) hlt (W.frame _ s1 _ s1.toks hst1 (i6 _) λ b hbf o e=>(j0 _ _ (λ h:S=b=>hSf (h ▸ hbf))).trans e) (i6 _) hP (λ i hi=>?_) (uag _ hS1 rfl) (hT1.move λ i a o ei ho=>(j0 _ _ (offS (off i a ei))).trans ho) λ b' v' s2 h1 h2 hm2=>?_⟩
   ·rcases ucw i (j+1) with z | z
    ·exact uaw.mpr λ y=>by
      have:=lN y hb;rw[top i (by left)] at this;cases this
    ·rw[show i=j+1 by left];exact uaw.mpr λ y=>by
      have irr:∀ l:List Int,lexLt l l=false:=λ l=>by
       induction l with
       | nil=>rfl
       | cons x r ih=>rw[dX,ug7 rfl];exact ih
      rw[irr] at y;cases y
   ·exact hR b' v' s2 h1 h2 (Moved.trans W.gtrans ((hm.mono up).then_heap (tk:=s1.toks) (i6 _) λ b o hb e=>(j0 _ _ (offS hb)).trans e) hm2)
  ·have hb':=uaw.mpr hb;rw[hb'];simp only [ua4,if_false];refine a8 (ucu ?_);rw[nm];refine c8 ⟨ubq uah _,ih (j+1) _ b _ c (by left) hlt hst1 (by left) hv (λ i hi=>?_) hS1 hT1 λ b' v' s2 h1 h2 hm2=>?_⟩
   ·rcases ucw i (j+1) with z | z
    ·exact top i (by left)
    ·rw[show i=j+1 by left];exact hb'
   ·exact hR b' v' s2 h1 h2 (Moved.trans W.gtrans (hm.mono up) hm2)
end
section
variable {prog:n0}{w:uak}{A:uaj}{E:c9->d8->Prop}{s:d8}
theorem zaa {l:j8}{its:List c9}{ks:List (List Int)}{Q:c9->d8->Prop}(hh:A.in1.handled=none)(hu:A.in1.units<cLine)(hl:s.heap.IsList l its.toArray)(hT:TupsAt s.heap its ks)(hne:its≠[])
  (h1:∀ (b:Nat)(v:c9)(h':Heap)(tk:Nat),its[b]?=some v->(∀ i,i<its.length->lexLt (ks.getD i []) (ks.getD b [])=false)->(∀ b o,s.heap.get? b=some o->h'.get? b=some o)->Q v { s with heap:=h',toks:=tk }) :
  j7 (p9 prog w) A (call (.builtin "min") [.ref l]) Q E s:=by
 have nm:(toString "min"++toString ".loop":String)="min.loop":=by decide
 refine call_function_tree PySem.F.kind_min PySem.F.plain_min PySem.F.entry_min (PySem.F.args_min1 _) ?_;show j7 _ A.in1 (Builtin.Builtins.bindParams "min" ["key","default"] 0 ⟨[],[]⟩ >>= _) _ _ s;refine a8 (ufq (show Builtin.Builtins.bindParams "min" ["key","default"] 0 ⟨[],[]⟩=pure [none,none] from rfl) (a8 (c8 ?_)));refine a8 (uck hl ?_);have lt:l<s.heap.objs.size:=by obtain⟨o,e,_⟩:=hl;exact i9 e
 have ne:l≠s.heap.objs.size:=l6 lt;have W:=(Walks.list (prog:=prog) (w:=w) (A:=A.in1) hh s.heap.objs.size l ne its.toArray).toS;have nS:s.heap.objs.size+1∉[s.heap.objs.size,l]:=by
  simp only [j4,m7,or_false,not_or];exact⟨ubh (ubu _),ubh (ubf lt)⟩
 have esz:its.toArray.size=its.length:=j5;rw[esz] at W;have eP:(λ (i:Nat) (v:c9)=>its.toArray[i]?=some v)=λ i v=>its[i]?=some v:=by funext i v;simp
 rw[eP] at W;refine a8 (udy ?_ (x8 _));rw[nm];have sz:∀ o:Obj,(s.heap.push o).objs.size=s.heap.objs.size+1:=λ o=>uaq ..;refine c8 ⟨ubq uah _,?_⟩;rw[sz];generalize hg:((s.heap.push { cls:=Value.type "list_iterator",data:=Data.fields #[.ref l,.int 0 0] }).push { cls:=Value.type "list",data:=Data.seq #[] })=g;have kg:∀ b o,s.heap.get? b=some o->g.get? b=some o:=λ b o e=>by rw[← hg];exact a9 _ (a9 _ e)
 have hS:g.get? (s.heap.objs.size+1)=some { cls:=.type "list",dict:=none,data:=.seq #[] 0,slots:=#[] }:=by rw[← hg,← sz];exact i7 _ rfl
 have st0:g.IsListIter s.heap.objs.size l 0/\g.IsList l its.toArray:=by
  rw[← hg];exact⟨⟨_,a9 _ (i7 _ rfl),P⟩,(hl.push _).push _⟩
 have notin:∀ b o,s.heap.get? b=some o->b∉(s.heap.objs.size+1)::[s.heap.objs.size]:=λ b o e z=>by
  have lb:=i9 e;simp only [j4,m7,or_false] at z;rcases z with z | z
  ·exact absurd lb (by rw[z];exact Nat.not_lt.mpr (ubv _))
  ·exact absurd lb (by rw[z];exact uay _)
 have keep:∀ {s':d8},Moved ((s.heap.objs.size+1)::[s.heap.objs.size]) (λ a b=>b=a) { s with heap:=g } s'->∀ b o,s.heap.get? b=some o->s'.heap.get? b=some o:=λ hm b o e=>hm.heap b o (notin b o e) (kg b o e);have off:∀ (i:Nat)(a:j8),its[i]?=some (Value.ref a)->a∉(s.heap.objs.size+1)::[s.heap.objs.size]:=λ i a e=>by
  obtain⟨a',xs,ea,⟨o,ho,_⟩,_⟩:=hT i _ e;cases ea;exact notin a o ho
 have hTg:TupsAt g its ks:=hT.move λ i a o _ ho=>kg a o ho;show codeAny (p9 prog w) A (.builtin "min.loop" ⟨[.ref s.heap.objs.size,.none,.ref (s.heap.objs.size+1)],[]⟩) _ { s with heap:=g };refine uaz ucd ?_;rw[Around.under_plainId uah _];show j7 _ A.in1 (seqItems? (.ref (s.heap.objs.size+1)) >>= _) _ _ _;refine a8 (ua3 hS rfl ?_);show j7 _ A.in1 (tryCatch (pyNext (.ref s.heap.objs.size)) _ >>= _) _ _ _;have npos:0<its.length:=udj.mpr hne;refine a8 (ucj (W.item 0 { s with heap:=g } _ _ npos st0 λ v s1 hP hst1 hm=>?_));have nw:s.heap.objs.size+1∉[s.heap.objs.size]:=λ z=>absurd (l8.mp z) (ubh (ubu _));have hS1:=hm.heap _ _ nw hS;show j7 _ A.in1 (updateSeq (s.heap.objs.size+1) _ >>= _) _ _ s1;refine a8 (uc1 hS1 rfl ?_);rw[nm];have offS:∀ {b:j8},b∉(s.heap.objs.size+1)::[s.heap.objs.size]->s.heap.objs.size+1≠b:=λ hb h=>hb (h ▸ j3);have hT1:TupsAt s1.heap its ks:=hTg.move λ i a o ei ho=>hm.heap a o (λ z=>off i a ei (.tail _ z)) ho;refine c8 ⟨ubq uah _,zF W hu _ nS off _ 0 _ 0 v _ rfl (by left) (W.frame _ s1 _ s1.toks hst1 (i6 _) λ b hbf o e=>(j0 _ _ (λ h:s.heap.objs.size+1=b=>nS (by rw[h];exact hbf))).trans e) (i6 _) hP (λ i hi=>?_) (uag _ hS1 rfl) (hT1.move λ i a o ei ho=>(j0 _ _ (offS (off i a ei))).trans ho) λ b v s2 q1 q2 hm2=>?_⟩
 ·rw[show i=0 by left];have irr:∀ l:List Int,lexLt l l=false:=λ l=>by
   induction l with
   | nil=>rfl
   | cons x r ih=>rw[dX,ug7 rfl];exact ih
  exact irr _
 ·have hm3:=Moved.trans W.gtrans ((hm.mono λ b hb=>.tail _ hb).then_heap (tk:=s1.toks) (i6 _) λ b o hb e=>(j0 _ _ (offS hb)).trans e) hm2;rw[Moved.eq_with hm3];exact h1 b v _ _ q1 q2 (keep hm3)
end
end HT
namespace L3
open PySem PySem.Spec PyProof.Rows L2
theorem nM {xs:List V}{us:List c9}(r:Vals xs us):∀ {i:Nat}{u:c9},us[i]?=some u->∃ x,xs[i]?=some x/\RelV x u:=by
 induction r with
 | nil=>intro i u e;cases e
 | cons r _ ih =>
  intro i u e;cases i with
  | zero=>cases e;exact⟨A,r⟩
  | succ i=>exact ih (i:=i) e
inductive call_minTs_i  (xs:List V) (H:Hp) (Q:VK):Prop
 | mk:∀ (p:j8)(vs:List V)(ks:List (List Int)),(xs=[.ref p])->(H p=some (.lst vs))->(vs≠[])->((∀ i v,vs[i]?=some v->∃ a,v=.ref a/\H a=some (.tup ((ks.getD i []).map V.int))))->(∀ b v,vs[b]?=some v->(∀ i,i<vs.length->HT.lexLt (ks.getD i []) (ks.getD b [])=false)->Q v H)->call_minTs_i xs H Q
theorem mF {X:Cx}(hh:X.calm=true)(hu:X.A.units+1<cLine):CallR X (.builtin "min") (call_minTs_i):=by
 intro pins s σ H xs us Q I r h;obtain⟨p,vs,ks,rfl,hq,hne,hT,q⟩:=h;obtain⟨u,rfl,rx⟩:=vals1 r;cases rx;obtain⟨its,rv,pl,hz⟩:=I.list (SqL.of hq);have hl:=rv.length;have hT':HT.TupsAt s.heap its ks:=λ i v e=>by
  obtain⟨x,ex,rel⟩:=nM rv e;obtain⟨a,rfl,ha⟩:=hT i x ex;cases rel;obtain⟨its2,r2,p2,_⟩:=I.tuple (SqT.of ha);exact⟨a,its2.toArray,rfl,p2,cW r2⟩
 refine HT.zaa (show X.A.in1.handled=none from I.ok.hd hh) (show X.A.units+1<cLine from hu) pl.isList hT' (λ z=>hne (ucc.mp (by rw[hl,z];rfl))) λ b v h' tk hv top hk=>?_;obtain⟨x,ex,rel⟩:=nM rv hv;exact⟨x,H,I.kept (t':=tk) hk,rel,q b x ex λ i hi=>top i (by left)⟩
noncomputable def topN (ls:List (List Nat))(w:Nat):Nat:=@dite _ (∃ b,IsTop ls w b) (Classical.propDecidable _) (λ h=>Classical.choose h) (λ _=>0)
theorem fJ {ls:List (List Nat)}{w b:Nat}(h:IsTop ls w b):topN ls w=b:=by
 unfold topN;rw[dif_pos ⟨b,h⟩];exact h.unique (Classical.choose_spec (⟨b,h⟩:∃ b,IsTop ls w b))
theorem dU {n:Nat}{ls:List (List Nat)}(lo:LevOk n ls){w:Nat}(hw:w<n):IsTop ls w (topN ls w):=by
 have ex:∃ b,IsTop ls w b:=by
  have go:∀ m,m<ls.length->∃ b,b<=m/\w∈lvl ls b/\∀ i,i<=m->w∈lvl ls i->i<=b:=λ m=>by
   induction m with
   | zero=>intro _;exact⟨0,i6 _,by rw[lo.first];exact o9.mpr hw,λ i hi _=>hi⟩
   | succ m ih =>
    intro hm;obtain⟨b,h1,h2,h3⟩:=ih (by left);by_cases c:w∈lvl ls (m+1)
    ·exact⟨m+1,i6 _,c,λ i hi _=>hi⟩
    ·refine⟨b,by left,h2,λ i hi hm=>?_⟩;rcases ucw i (m+1) with z | z
     ·exact h3 i (by left) hm
     ·rw[show i=m+1 by left] at hm;exact absurd hm c
  have one:=lo.one;obtain⟨b,h1,h2,h3⟩:=go (ls.length-1) (by left);exact⟨b,by left,h2,λ i hi hm=>h3 i (by left) hm⟩
 obtain⟨b,hb⟩:=ex;rw[fJ hb];exact hb
structure IsPiv (ls:List (List Nat))(m:Nat)(D:List (Option Int))(o:Option Nat):Prop where
 no:o=none->∀ q∈lvl ls m,Far.get D q=none
 yes:∀ p,o=some p->p∈lvl ls m/\∃ x,Far.get D p=some x/\∀ q∈lvl ls m,∀ y,Far.get D q=some y->x<=y/\(y=x->topN ls q<=topN ls p/\(topN ls q=topN ls p->p<=q))
theorem IsPiv.unique {ls:List (List Nat)}{m:Nat}{D:List (Option Int)}{o o':Option Nat}(h:IsPiv ls m D o)(h':IsPiv ls m D o'):o'=o:=by
 cases o with
 | none =>
  cases o' with
  | none=>rfl
  | some p =>
   obtain⟨hp,x,ex,_⟩:=h'.yes p rfl;rw[h.no rfl p hp] at ex;cases ex
 | some p =>
  obtain⟨hp,x,ex,a⟩:=h.yes p rfl;cases o' with
  | none=>rw[h'.no rfl p hp] at ex;cases ex
  | some p' =>
   obtain⟨hp',x',ex',a'⟩:=h'.yes p' rfl;have h1:=a p' hp' x' ex';have h2:=a' p hp x ex;have e:x'=x:=by left
   obtain⟨t1,l1⟩:=h1.2 e;obtain⟨t2,l2⟩:=h2.2 e.symm;have e2:topN ls p'=topN ls p:=by left
   have:=l1 e2;have:=l2 e2.symm;rw[show p'=p by left]
theorem oH {n:Nat}{ls:List (List Nat)}(lo:LevOk n ls):∀ {j m:Nat},m<=j->∀ p∈lvl ls j,p∈lvl ls m
 | 0,m,h,p,hp=>by rw[show m=0 by left];exact hp
 | j+1,m,h,p,hp=>by
  rcases ucw m (j+1) with z | z
  ·exact oH lo (j:=j) (by left) p (lo.down j p hp)
  ·rw[show m=j+1 by left];exact hp
theorem zc8 {n:Nat}{ls:List (List Nat)}{m p:Nat}{D:List (Option Int)}(lo:LevOk n ls)(hm:m<ls.length)(h:IsPiv ls m D (some p)):bunB ls D p=true:=by
 obtain⟨hp,x,ex,a⟩:=h.yes p rfl;have tp:=dU lo (lo.inn m p hp);refine bunB_iff.mpr ⟨x,ex,λ b q y t hq ey=>?_⟩;have eb:=fJ t;have mb:m<=b:=t.2.2 m hm hp;have hqm:=oH lo (show m<=b+1 by left) q hq;obtain⟨h1,h2⟩:=a q hqm y ey;have tq:=dU lo (lo.inn _ q hq);have bl:b+1<ls.length:=by
  rcases ucw (b+1) ls.length with z | z
  ·exact z
  ·rw[fM z] at hq;cases hq
 have:=tq.2.2 (b+1) bl hq;by_cases c:y=x
 ·have:=(h2 c).1;left
 ·left
noncomputable def pivK (ls:List (List Nat))(D:List (Option Int))(p:Nat):List Int:=[(Far.get D p).getD 0,0-(topN ls p:Int),(p:Int)]
noncomputable def pivKs (ls:List (List Nat))(D:List (Option Int))(l:List Nat):List (List Int):=(l.filter λ p=>(Far.get D p).isSome).map (pivK ls D)
def tupI (k:List Int):r8:=.tuple (k.map .int)
noncomputable def pivSel (ls:List (List Nat))(D:List (Option Int))(l:List Nat)(i:Nat):Option r8:=if (Far.get D (l.getD i 0)).isSome=true then some (tupI (pivK ls D (l.getD i 0))) else none
theorem iX (k:List Int):tupD (tupI k)=true:=by
 have go:∀ k:List Int,tupAll (k.map udt)=true:=λ k=>by
  induction k with
  | nil=>rfl
  | cons i r ih=>show (true&&tupAll (r.map udt))=true;rw[ih];rfl
 exact go k
theorem xK {ls:List (List Nat)}{D:List (Option Int)}{l:List Nat}(i:Nat)(d:r8)(h:pivSel ls D l i=some d):tupD d=true:=by
 unfold pivSel at h;split at h
 ·cases h;exact iX _
 ·cases h
theorem xL (ls:List (List Nat))(D:List (Option Int))(l:List Nat):(d7 l.length).filterMap (pivSel ls D l)=(pivKs ls D l).map tupI:=by
 have e:=congrArg (List.filterMap λ p:Nat=>if (Far.get D p).isSome=true then some (tupI (pivK ls D p)) else none) (L3.bX l 0);rw[ued] at e;have e':(d7 l.length).filterMap (pivSel ls D l)=l.filterMap λ p:Nat=>if (Far.get D p).isSome=true then some (tupI (pivK ls D p)) else none:=e
 rw[e'];unfold pivKs;clear e e';induction l with
 | nil=>rfl
 | cons p r ih =>
  rw[ua2,uf0];cases c:(Far.get D p).isSome with
  | true=>simp [ih]
  | false=>simp [ih]
theorem jN {K:b9}{H:Hp}{ks:List (List Int)}{vs:List V}(h:IsAll K H (ks.map tupI) vs){i:Nat}{v:V}(e:vs[i]?=some v):∃ a,v=.ref a/\H a=some (.tup ((ks.getD i []).map V.int)):=by
 obtain⟨d,hd,isd⟩:=IsAll.from_ h e;rw[l7] at hd;obtain⟨k,hk,rfl⟩:=ubc.mp hd;obtain⟨a,xs,rfl,ha,ia⟩:=isd;have:=IsAll.of_ints ia;subst this;refine⟨a,rfl,?_⟩;rw[f9,hk];exact ha
theorem zef {n:Nat}{ls:List (List Nat)}{m:Nat}{D:List (Option Int)}{b:Nat}(hb:b<(pivKs ls D (lvl ls m)).length)(top:∀ i,i<(pivKs ls D (lvl ls m)).length->HT.lexLt ((pivKs ls D (lvl ls m)).getD i []) ((pivKs ls D (lvl ls m)).getD b [])=false):∃ p,(pivKs ls D (lvl ls m)).getD b []=pivK ls D p/\IsPiv ls m D (some p):=by
 obtain⟨p,ep,hp⟩:∃ p,(pivKs ls D (lvl ls m)).getD b []=pivK ls D p/\p∈(lvl ls m).filter λ p=>(Far.get D p).isSome:=by
  unfold pivKs at hb ⊢;rw[i5] at hb;rw[f9,l7,c7 hb];exact⟨A,ubt hb⟩
 rw[ua0] at hp;obtain⟨x,ex⟩:=ugg.mp hp.2;refine⟨p,ep,λ e=>(by cases e),λ p' e=>?_⟩;cases e;refine⟨hp.1,x,ex,λ q hq y ey=>?_⟩;have hqf:q∈(lvl ls m).filter λ p=>(Far.get D p).isSome:=ua0.mpr ⟨hq,by rw[ey];rfl⟩;obtain⟨i,hi,ei⟩:=ucz hqf;have hi':i<(pivKs ls D (lvl ls m)).length:=by unfold pivKs;rw[i5];exact hi
 have ek:(pivKs ls D (lvl ls m)).getD i []=pivK ls D q:=by
  unfold pivKs;rw[f9,l7,c7 hi,ei];rfl
 have t:=top i hi';rw[ek,ep] at t;unfold pivK at t;rw[ex,ey] at t;simp only [HT.lexLt,Option.getD_some] at t;split at t
 ·rename_i c;refine⟨by left,λ _=>?_⟩;split at t
  ·rename_i c2;refine⟨by left,λ _=>?_⟩;split at t
   ·left
   ·have:=ug6 t;left
  ·have:=ug6 t;refine⟨by left,λ z=>by left⟩
 ·have:=ug6 t;exact⟨by left,λ z=>by left⟩
theorem zeg {ls:List (List Nat)}{m:Nat}{D:List (Option Int)}(h:pivKs ls D (lvl ls m)=[]):IsPiv ls m D none:=by
 refine⟨λ _ q hq=>?_,λ p e=>(by cases e)⟩;cases e:Far.get D q with
 | none=>rfl
 | some y =>
  have z:pivK ls D q∈pivKs ls D (lvl ls m):=ubx.mpr ⟨q,ua0.mpr ⟨hq,by rw[e];rfl⟩,rfl⟩;rw[h] at z;cases z
section
variable {own:List Str}{js:List Nat}{g:TG}{tt:TT}{te:TE}{σ:L2.St}{Q:VK}{H1:Hp}
theorem xS {K K':b9}{a:j8}{xs:List V}(hx:H1 a=some (.tup xs))(Sg:L2.St->Prop)(sel:Nat->Option r8)(tup:∀ i d,sel i=some d->tupD d=true)(hn:xs.length<=1000)(h0:Sg (start3 own js σ))
  (step:∀ i x σ' H',xs[i]?=some x->Same H1 H'->Sg σ'->∀ (C:L2.St->V->Hp->Prop)(L:L2.St->Hp->Prop),(∀ σ3 v d H5,Sg σ3->Same H' H5->sel i=some d->Is K' H5 d v->C σ3 v H5)->(∀ σ3 H5,Sg σ3->Same H' H5->sel i=none->L σ3 H5) ->
   g x σ' H' λ σ3 H3=>tt σ3 H3 λ b H4=>if b=true then te σ3 H4 λ v H5=>C σ3 v H5 else L σ3 H4)
  (fin:∀ D ys H',H1 D=none->Same H1 H'->H' D=some (.lst ys)->ys.length<=xs.length->IsAll K' H' ((d7 xs.length).filterMap sel) ys->Q (.ref D) H'):CompGo own js g tt te σ Q (Itt K a) H1:=by
 intro D hD;have tupI:∀ i,tupAll ((d7 i).filterMap sel)=true:=λ i=>by
  have go:∀ is:List Nat,tupAll (is.filterMap sel)=true:=λ is=>by
   induction is with
   | nil=>rfl
   | cons j r ih =>
    rw[ua2];cases e:sel j with
    | none=>exact ih
    | some d=>show (tupD d&&tupAll (r.filterMap sel))=true;rw[tup j d e,ih];rfl
  exact go _
 refine⟨λ i m ys σ' H'=>m=xs.length-i/\i<=xs.length/\Sg σ'/\Same H1 H'/\ys.length<=i/\IsAll K' H' ((d7 i).filterMap sel) ys,⟨xs.length,rfl,x8 _,h0,aP hD,i6 _,rfl⟩,?_⟩;rintro i m ys σ' H' ⟨rfl,hi,sg,sm,ly,ia⟩ hd;have sq:SqT K H' a xs:=SqT.of (sm _ _ hx);by_cases hlt:i<xs.length
 ·refine .inr ⟨⟨xs,xs[i],sq,by simp [hlt]⟩,λ x H2 hy=>?_⟩;obtain⟨rfl,hy⟩:=hy;refine step i x σ' _ (hy xs sq) sm sg
   (λ σ3 v H5=>H5 D=some (.lst ys)/\ys.length<o7/\∃ m',m'<xs.length-i/\(m'=xs.length-(i+1)/\i+1<=xs.length/\Sg σ3/\Same H1 (upd H5 D (.lst (ys++[v])))/\(ys++[v]).length<=i+1/\IsAll K' (upd H5 D (.lst (ys++[v]))) ((d7 (i+1)).filterMap sel) (ys++[v])))
   (λ σ3 H5=>H5 D=some (.lst ys)/\∃ m',m'<xs.length-i/\(m'=xs.length-(i+1)/\i+1<=xs.length/\Sg σ3/\Same H1 H5/\ys.length<=i+1/\IsAll K' H5 ((d7 (i+1)).filterMap sel) ys)) (λ σ3 v d H5 sg3 s5 e hv=>?_) (λ σ3 H5 sg3 s5 e=>?_)
  ·have hd5:=s5 _ _ hd;have b5:But D H5 (upd H5 D (.lst (ys++[v]))):=λ b o hb z=>by rw[aJ hb];exact z
   refine⟨hd5,ubn (by left:ys.length<=1000) (by decide),xs.length-(i+1),by left,rfl,hlt,sg3,λ b o z=>?_,by rw[i8,k9];left,?_⟩
   ·rw[aJ (aY z hD)];exact s5 _ _ (sm _ _ z)
   ·rw[uba,ua6,show [i].filterMap sel=[d] by simp [e]];exact IsAll.snoc (Is.but b5 hd5 _ (tup i d e) hv) (IsAll.but b5 hd5 _ (tupI i) (IsAll.same s5 _ ia))
  ·refine⟨s5 _ _ hd,xs.length-(i+1),by left,rfl,hlt,sg3,sm.trans s5,by left,?_⟩;rw[uba,ua6,show [i].filterMap sel=[] by simp [e],uct];exact IsAll.same s5 _ ia
 ·have e:i=xs.length:=by left
  subst e;exact .inl ⟨⟨xs,sq,i6 _⟩,fin D ys H' hD sm hd ly ia⟩
end
def spPivBy (K:b9):Sp:=λ vs H Q _=>∃ (n:Nat)(ls:List (List Nat))(lv:V)(m:Nat)(l:j8)(D:List (Option Int)),vs=[lv,.int (m:Int),.ref l]/\Lv K H n ls lv/\m<ls.length/\H l=some (.lst (D.map ov))/\D.length=n/\∀ o H',Same H H'->IsPiv ls m D o->Q (oa o) H'
def spPivot (K:b9):Sp:=λ vs H Q _=>∃ (n:Int)(ts:List Tie)(ls:List (List Nat))(wv lv:V)(m:Nat)(s:Int),vs=[wv,lv,.int (m:Int),.int s]/\Is K H (webD n ts) wv/\WebOk n ts/\Lv K H n.toNat ls lv/\m<ls.length/\0<=s/\s<n/\∀ o D H',Same H H'->FarsOf ts n.toNat s.toNat D->IsPiv ls m D o->Q (oa o) H'
noncomputable def pivN (ls:List (List Nat))(m:Nat)(D:List (Option Int)):Nat:=@dite _ (∃ p,IsPiv ls m D (some p)) (Classical.propDecidable _) (λ h=>Classical.choose h) (λ _=>0)
theorem zc9 {ls:List (List Nat)}{m p:Nat}{D:List (Option Int)}(h:IsPiv ls m D (some p)):pivN ls m D=p:=by
 unfold pivN;rw[dif_pos ⟨p,h⟩];exact ubk (h.unique (Classical.choose_spec (⟨p,h⟩:∃ p,IsPiv ls m D (some p))))
noncomputable def clN (ls:List (List Nat)):Nat->Nat->Nat->Nat->List (Option Int)->List (Option Int)->Int->List (List Int)
 | 0,w,a,b,_,_,x=>[[(w:Int),(a:Int),(b:Int),x]]
 | f+1,w,a,b,Da,Db,x=>[(w:Int),(a:Int),(b:Int),x]::(if bunB ls Db w=true then [] else clN ls f (pivN ls (topN ls w+1) Db) b a Db Da ((Far.get Db (pivN ls (topN ls w+1) Db)).getD 0))
theorem zcd {ls:List (List Nat)}{f w a b:Nat}{Da Db:List (Option Int)}{x:Int}(h:bunB ls Db w=true):clN ls (f+1) w a b Da Db x=[[(w:Int),(a:Int),(b:Int),x]]:=by
 rw[clN,ug7 h]
theorem zcc {ls:List (List Nat)}{f w a b p:Nat}{Da Db:List (Option Int)}{x x':Int}(h:bunB ls Db w=false)(pv:IsPiv ls (topN ls w+1) Db (some p))(e:Far.get Db p=some x'):clN ls (f+1) w a b Da Db x=[(w:Int),(a:Int),(b:Int),x]::clN ls f p b a Db Da x':=by
 rw[clN,ug8 (by rw[h];decide),zc9 pv,e];rfl
structure Cs (ts:List Tie)(n:Nat)(ls:List (List Nat))(d:Int)(j w a b:Nat)(Da Db:List (Option Int))(x:Int):Prop where
 fa:FarsOf ts n a Da
 fb:FarsOf ts n b Db
 wn:w<n
 an:a<n
 bn:b<n
 xa:Far.get Da w=some x
 lim:x<=j*d
 ab:Far.get Da b=some d
 ba:Far.get Db a=some d
 yb:∃ y,Far.get Db w=some y
 tp:j<=topN ls w
 bu:bunB ls Da w=true
section
variable {n:Int}{ts:List Tie}{ls:List (List Nat)}{d x:Int}{j w a b:Nat}{Da Db:List (Option Int)}
theorem allOk (ts:List Tie):KeepOk ts.length (d7 ts.length):=⟨ubr,λ k hk=>o9.mp hk⟩
theorem Cs.start (ok:WebOk n ts)(lo:LevOk n.toNat ls)(fa:FarsOf ts n.toNat a Da)(fb:FarsOf ts n.toNat b Db)(an:a<n.toNat)(bn:b<n.toNat)(ab:Far.get Da b=some d):Cs ts n.toNat ls d 0 a a b Da Db 0:=by
 obtain⟨bs,e0⟩:=zcg ok an fa lo;have ba:Far.get Db a=some d:=by
  have h1:=(fa.2 b bn).back (nK ok (allOk ts));rw[ab] at h1;exact (fb.2 a an).unique h1
 exact⟨fa,fb,an,an,bn,e0,by simp,ab,ba,⟨d,ba⟩,x8 _,bs⟩
theorem Cs.more (lo:LevOk n.toNat ls)(h:Cs ts n.toNat ls d j w a b Da Db x)(nb:bunB ls Db w=false):topN ls w+1<ls.length/\∃ q y y',q∈lvl ls (topN ls w+1)/\Far.get Db w=some y/\Far.get Db q=some y'/\y'<=y:=by
 obtain⟨y,ey⟩:=h.yb;have ex:∃ b' p z,IsTop ls w b'/\p∈lvl ls (b'+1)/\Far.get Db p=some z/\z<=y:=by
  apply Classical.byContradiction;intro c;have:bunB ls Db w=true:=bunB_iff.mpr ⟨y,ey,λ b' p z t hp ez=>by
   rcases Int.lt_or_le y z with l | l
   ·exact l
   ·exact absurd ⟨b',p,z,t,hp,ez,l⟩ c⟩
  rw[nb] at this;cases this
 obtain⟨b',p,z,t,hp,ez,le⟩:=ex;rw[← fJ t] at hp;refine⟨?_,p,y,z,hp,ey,ez,le⟩;rcases ucw (topN ls w+1) ls.length with z | z
 ·exact z
 ·rw[fM z] at hp;cases hp
theorem Cs.step (ok:WebOk n ts)(lo:LevOk n.toNat ls)(h:Cs ts n.toNat ls d j w a b Da Db x)(nb:bunB ls Db w=false){o:Option Nat}(pv:IsPiv ls (topN ls w+1) Db o):∃ p x',o=some p/\Far.get Db p=some x'/\Cs ts n.toNat ls d (j+1) p b a Db Da x':=by
 obtain⟨ml,q,y,y',hq,ey,ez,le⟩:=h.more lo nb;cases o with
 | none=>rw[pv.no rfl q hq] at ez;cases ez
 | some p =>
  obtain⟨hp,x',ex',al⟩:=pv.yes p rfl;have pn:=lo.inn _ p hp;have sy:=nK ok (allOk ts);have P:=fI ok (allOk ts);have w1:=(h.fa.2 w h.wn).1 x h.xa;have w2:=(h.fb.2 a h.an).1 d h.ba;obtain⟨y2,e2,l2⟩:=(h.fb.2 w h.wn).2 _ (w2.trans w1);rw[ey] at e2;cases e2;have l1:=(al q hq y' ez).1;have w3:=(h.fb.2 p pn).1 x' ex';have w4:=(h.fa.2 b h.bn).1 d h.ab;obtain⟨z,ez',_⟩:=(h.fa.2 p pn).2 _ (w4.trans w3);have tp:=dU lo pn;have t1:=tp.2.2 _ ml hp;have:=h.tp;have lim:=h.lim;refine⟨p,x',rfl,ex',h.fb,h.fa,pn,h.bn,h.an,ex',?_,h.ba,h.ab,⟨z,ez'⟩,by left,zc8 lo ml pv⟩;have e:((j+1:Nat):Int)*d=j*d+d:=by rw[Int.natCast_add,Int.add_mul];simp
  left
end
structure RowsOk (ls:List (List Nat))(n:Nat)(d:Int)(Du Dv:List (Option Int))(rows:List (List Int)):Prop where
 few:rows.length<=ls.length
 lim:∀ (i:Nat)(r:List Int),rows[i]?=some r->∃ p a b x:Int,r=[p,a,b,x]/\x<=i*d
 last:∃ (pre:List (List Int))(w:Nat)(a b x:Int),rows=pre++[[(w:Int),a,b,x]]/\w<n/\bunB ls Du w=true/\bunB ls Dv w=true
def ClimbV (K:b9)(H:Hp)(ls:List (List Nat))(n u v:Nat)(Du Dv:List (Option Int))(r:V):Prop:=(r=.non/\Far.get Du v=none)\/∃ t ys d,r=.ref t/\Far.get Du v=some d/\H t=some (.tup ys)/\IsAll K H ((clN ls ls.length u u v Du Dv 0).map tupI) ys/\RowsOk ls n d Du Dv (clN ls ls.length u u v Du Dv 0)
def spClimb (K:b9):Sp:=λ vs H Q _=>∃ (n:Int)(ts:List Tie)(ls:List (List Nat))(wv lv:V)(u v:Nat),vs=[wv,lv,.int (u:Int),.int (v:Int)]/\Is K H (webD n ts) wv/\WebOk n ts/\Lv K H n.toNat ls lv/\u<n.toNat/\v<n.toNat/\∀ r Du Dv H',Same H H'->FarsOf ts n.toNat u Du->FarsOf ts n.toNat v Dv->ClimbV K H' ls n.toNat u v Du Dv r->Q r H'
def FarsM (H:Hp)(lf:j8)(n:Nat)(ts:List Tie):Prop:=∃ ys,H lf=some (.lst ys)/\ys.length=n/\∀ i v,ys[i]?=some v->∃ l D,v=.ref l/\H l=some (.lst (D.map ov))/\FarsOf ts n i D
theorem zbr {K:b9}{H:Hp}{pre:List (List Int)}{r:List Int}{ys:List V}(ia:IsAll K H ((pre++[r]).map tupI) ys):ys.length=pre.length+1/\∃ t,atI ys (-1)=some (.ref t)/\H t=some (.tup (r.map V.int)):=by
 have ly:=ia.length;rw[i5,i8,k9] at ly;have e:ys[pre.length]?=some ys[pre.length]:=c7 (by left);obtain⟨t,et,ht⟩:=jN ia e;refine⟨ly,t,?_,?_⟩
 ·unfold atI ixN;rw[ug8 (by decide),ug7 (by left)];show ys[(-1+(ys.length:Int)).toNat]?=some (.ref t);rw[show (-1+(ys.length:Int)).toNat=pre.length by left,e,et]
 ·rw[ht,f9,uat (i6 _),Nat.sub_self];rfl
theorem lH:∀ ks:List (List Int),tupAll (ks.map tupI)=true
 | []=>rfl
 | k::r=>by show (tupD (tupI k)&&tupAll (r.map tupI))=true;rw[iX,lH r];rfl
structure Clb (ts:List Tie)(n:Int)(ls:List (List Nat))(d:Int)(u v:Nat)(Du Dv:List (Option Int))(pre:List (List Int))(w a b:Nat)(Da Db:List (Option Int))(x:Int):Prop where
 cs:Cs ts n.toNat ls d pre.length w a b Da Db x
 sides:(Da=Du/\Db=Dv)\/(Da=Dv/\Db=Du)
 lim:∀ (i:Nat)(r:List Int),(pre++[[(w:Int),(a:Int),(b:Int),x]])[i]?=some r->∃ p a b x:Int,r=[p,a,b,x]/\x<=i*d
 rest:pre++clN ls (ls.length-pre.length) w a b Da Db x=clN ls ls.length u u v Du Dv 0
section
variable {n:Int}{ts:List Tie}{ls:List (List Nat)}{d x:Int}{u v w a b:Nat}{Du Dv Da Db:List (Option Int)}{pre:List (List Int)}
theorem Clb.first (ok:WebOk n ts)(lo:LevOk n.toNat ls)(fa:FarsOf ts n.toNat u Du)(fb:FarsOf ts n.toNat v Dv)(an:u<n.toNat)(bn:v<n.toNat)(ab:Far.get Du v=some d):Clb ts n ls d u v Du Dv [] u u v Du Dv 0:=by
 refine⟨Cs.start ok lo fa fb an bn ab,.inl ⟨P⟩,λ i r e=>?_,rfl⟩;cases i with
 | zero=>cases e;exact⟨V,_,A,by simp⟩
 | succ i=>cases e
theorem Clb.lt (lo:LevOk n.toNat ls)(h:Clb ts n ls d u v Du Dv pre w a b Da Db x):pre.length<ls.length:=by
 have t:=(dU lo h.cs.wn).1;have:=h.cs.tp;left
theorem Clb.next (ok:WebOk n ts)(lo:LevOk n.toNat ls)(h:Clb ts n ls d u v Du Dv pre w a b Da Db x)(nb:bunB ls Db w=false){o:Option Nat}(pv:IsPiv ls (topN ls w+1) Db o):∃ p x',o=some p/\p<n.toNat/\Far.get Db p=some x'/\Clb ts n ls d u v Du Dv (pre++[[(w:Int),(a:Int),(b:Int),x]]) p b a Db Da x':=by
 obtain⟨p,x',rfl,ex,c'⟩:=h.cs.step ok lo nb pv;have lt:=h.lt lo;have le:(pre++[[(w:Int),(a:Int),(b:Int),x]]).length=pre.length+1:=by rw[i8,k9]
 refine⟨p,x',rfl,c'.wn,ex,by rw[le];exact c',h.sides.elim (λ ⟨e1,e2⟩=>.inr ⟨e2,e1⟩) (λ ⟨e1,e2⟩=>.inl ⟨e2,e1⟩),λ i r e=>?_,?_⟩
 ·by_cases hi:i<pre.length+1
  ·rw[ubd (by left)] at e;exact h.lim i r e
  ·rw[uat (by left)] at e;have hi2:=(j6.mp e).1;rw[k9] at hi2;have ei:i=pre.length+1:=by left
   subst ei;rw[le,Nat.sub_self] at e;cases e;exact⟨V,_,A,c'.lim⟩
 ·rw[le,← h.rest];rw[show ls.length-pre.length=(ls.length-(pre.length+1))+1 by left,zcc nb pv ex,uei];rfl
theorem Clb.done (lo:LevOk n.toNat ls)(h:Clb ts n ls d u v Du Dv pre w a b Da Db x)(bd:bunB ls Db w=true):pre++[[(w:Int),(a:Int),(b:Int),x]]=clN ls ls.length u u v Du Dv 0/\RowsOk ls n.toNat d Du Dv (clN ls ls.length u u v Du Dv 0):=by
 have lt:=h.lt lo;have e:pre++[[(w:Int),(a:Int),(b:Int),x]]=clN ls ls.length u u v Du Dv 0:=by
  rw[← h.rest,show ls.length-pre.length=(ls.length-(pre.length+1))+1 by left,zcd bd]
 refine⟨e,?_⟩;rw[← e];refine⟨by rw[i8,k9];left,h.lim,pre,w,V,A,h.cs.wn,?_⟩;rcases h.sides with ⟨e1,e2⟩ | ⟨e1,e2⟩
 ·rw[← e1,← e2];exact⟨h.cs.bu,bd⟩
 ·rw[← e1,← e2];exact⟨bd,h.cs.bu⟩
end
theorem seqB {t u:TS}{D:Ends}{σ:L2.St}{H:Hp}(h:∀ N C M:L2.St->Hp->Prop,(∀ σ' H',D.nx σ' H'->N σ' H')->(∀ σ' H',D.ct σ' H'->C σ' H')->(∀ σ' H',u { D with nx:=N,ct:=C } σ' H'->M σ' H')->t { D with nx:=M,ct:=C } σ H):tSeq t u D σ H:=h D.nx D.ct (u D) (λ _ _ h=>h) (λ _ _ h=>h) λ _ _ h=>h
theorem seqN {t u:TS}{D:Ends}{σ:L2.St}{H:Hp}(h:∀ N:L2.St->Hp->Prop,(∀ σ' H',u D σ' H'->N σ' H')->t { D with nx:=N } σ H):tSeq t u D σ H:=h (u D) λ _ _ h=>h
section
variable {K:b9}{J J':Hp}{ls:List (List Nat)}{n u v:Nat}{Du Dv:List (Option Int)}{r r1 r2:V}
end
end L3
namespace PySem.SeqAt
open PySem.Spec PySem.MeetsSeq PySem.MeetsSeq2 PySem.MeetsSeq3 PySem.SeqRoads2
open AutoSeq1 (wpAny_loadPart')
end PySem.SeqAt
namespace L3
open PySem PySem.Spec PyProof.Rows L2
section
variable {X:Cx}{o e:uby}{es:List uby}{to:TE}{t:TA}{name:Str}{apos cpos:Pos}{id:String}{r:V->List V->Hp->VK->Prop}
end
theorem lR {α:Type}(f:Nat->Option α):∀ (m:Nat)(L:List α),L.length=m->(∀ k,k<m->f k=L[k]?)->(d7 m).filterMap f=L
 | 0,L,hl,_=>by rw[uc4 hl];rfl
 | m+1,L,hl,h=>by
  have hm:m<L.length:=by left
  have e:L=L.take m++[L[m]]:=by rw[List.take_append_getElem hm,ubj (by left)]
  rw[uba,ua6,lR f m (L.take m) (by rw[uac];left) (λ k hk=>by rw[h k (by left),List.getElem?_take,ug7 hk])];rw[show [m].filterMap f=[L[m]] by rw[ua2,h m (by left),c7 hm];rfl];exact e.symm
theorem iS (its:List c9)(j:Nat):((d7 (its.length-j)).filterMap λ (m:Nat)=>its.toArray[(((its.length:Nat):Int)-1+(m:Int)*(-1)).toNat]?)=(its.drop j).reverse:=by
 refine lR _ _ _ (by rw[udi,o6]) λ k hk=>?_;rw[List.getElem?_reverse (by rw[o6];exact hk),udo,o6];rw[uey];congr 1;left
def bk (hi:Option Int)(n j:Nat):Prop:=(hi=none/\j=0)\/(hi=some 0/\j=1/\1<=n)
theorem xA {hi:Option Int}{n j:Nat}(h:bk hi n j):Builtin.Slice.sliceAdjust none hi (-1) (n:Int)=((n:Int)-1,(j:Int)-1):=by
 unfold Builtin.Slice.sliceAdjust;simp only [show ((-1:Int)<0) by left,if_true];rcases h with ⟨rfl,rfl⟩ | ⟨rfl,rfl,h1⟩
 ·rfl
 ·refine Prod.ext rfl ?_;show (if (0:Int)<0 then max (0+(n:Int)) (-1) else min 0 ((n:Int)-1))=((1:Nat):Int)-1;rw[ug8 (by left)];left
theorem vY {n j:Nat}(h:j<=n):Builtin.Slice.slicePlaces ((n:Int)-1) ((j:Int)-1) (-1)=n-j:=by
 unfold Builtin.Slice.slicePlaces;rw[ug8 (by left)];split
 ·rw[show -(-1:Int)=1 by rfl,Int.ediv_one];left
 ·left
theorem zfd {hi:Option Int}{n j:Nat}(h:bk hi n j):j<=n:=by
 rcases h with ⟨_,rfl⟩ | ⟨_,rfl,h1⟩
 ·exact x8 _
 ·exact h1
section
variable {prog:n0}{w:uak}{A:uaj}{E:c9->d8->Prop}{s:d8}
theorem rY {sl:j8}{vl vu vs:c9}{hi:Option Int}{n j:Nat}{Q:Int × Int × Nat->d8->Prop}(hs:s.heap.IsSliceOf sl vl vu vs)(pl:IsPart vl none)(pu:IsPart vu hi)(ps:IsPart vs (some (-1)))(hb:bk hi n j)
  (h:Q ((n:Int)-1,-1,n-j) s):j7 (p9 prog w) A (Builtin.Slice.sliceApplied (.ref sl) (pure (n:Int))) Q E s:=by
 obtain⟨os,hos,hcs,hds⟩:=id hs;unfold Builtin.Slice.sliceApplied Builtin.Slice.sliceFields;refine a8 (a8 (uab hos hds (x:=vl) rfl (a8 (uab hos hds (x:=vu) rfl (a8 (uab hos hds (x:=vs) rfl (c8 ?_)))))));refine a8 (HT.eU ps ?_);show j7 _ _ (if ((-1:Int)==0)=true then _ else _) _ _ s;rw[ug8 (by decide)];refine a8 (HT.eU pl (a8 (HT.eU pu (a8 (c8 ?_)))));show j7 _ _ (match Builtin.Slice.sliceAdjust none hi (-1) (n:Int) with | (lo,hi)=>pure (lo,(-1:Int),Builtin.Slice.slicePlaces lo hi (-1))) _ _ s;rw[xA hb];show j7 _ _ (pure ((n:Int)-1,(-1:Int),Builtin.Slice.slicePlaces ((n:Int)-1) ((j:Int)-1) (-1))) _ _ s;rw[vY (zfd hb)];exact c8 h
theorem kW {t sl:j8}{its:List c9}{vl vu vs:c9}{hi:Option Int}{j:Nat}{Q:c9->d8->Prop}(ht:IsTup s.heap t its.toArray)(hs:s.heap.IsSliceOf sl vl vu vs)(pl:IsPart vl none)(pu:IsPart vu hi)(ps:IsPart vs (some (-1)))(hb:bk hi its.length j)
  (h:Q (.ref s.heap.objs.size) { s with heap:=s.heap.push { cls:=.type "tuple",data:=.seq (its.drop j).reverse.toArray } })
  (hsz:its.length<=o7):j7 (p9 prog w) A (getItem (.ref t) (.ref sl)) Q E s:=by
 have htake:sizeOk (.seq (its.drop j).reverse.toArray):=by
  show (its.drop j).reverse.toArray.size<=o7;rw[j5,udi,o6];left
 obtain⟨os,hos,hcs,hds⟩:=id hs;have hTs:s.TypeIs (.ref sl) "slice":=⟨os,hos,hcs⟩;unfold getItem
 try with_reducible refine uae ?_
 first | refine a8 (c8 ?_) | skip
 refine a8 (ues ht.typeIs (by decide) ?_);refine a8 (uaf (name:=v4 "__getitem__") ht.typeIs z9
  (uar z9 ht.typeIs entry_tuple_getitem ?_ (args_tuple_getitem _ _)))
 show j7 _ _ (Builtin.Tuple.tupleItemsOf (.ref t) >>= _) _ _ s;refine a8 (tupleItemsOf_ ht ?_);refine a8 (uc5 hTs ?_);rw[ug7 (by decide)];refine a8 (rY (n:=its.toArray.size) (j:=j) hs pl pu ps (by rw[j5];exact hb) ?_);rw[j5];show j7 _ _ (if ((((its.length:Nat):Int)-1==0)&&((-1:Int)==1)&&((its.length-j)==its.length))=true then _ else _) _ _ s;rw[ug8 (by rw[show ((-1:Int)==1)=false by decide,ue9,ud1];decide),iS]
 first
  | exact a8 (m:=Builtin.Tuple.tupleExact _) (v8 (c8 ⟨A,c8 h⟩) htake)
  | exact a8 (m:=Builtin.Tuple.tupleExact _) (v8 (a8 (c8 (c8 ⟨A,c8 h⟩))) htake)
  | exact a8 (a8 (m:=Builtin.Tuple.tupleExact _) (v8 (c8 (c8 ⟨A,c8 h⟩)) htake))
  | exact a8 (a8 (m:=Builtin.Tuple.tupleExact _) (v8 (c8 ⟨A,c8 h⟩) htake))
end
def SlB (X:Cx)(r:V->Option Int->Hp->VK->Prop):Prop :=
 ∀ (pins:List (j8 × Obj))(s:d8)(σ:L2.St)(H:Hp)(x:V)(v vl vu vs:c9)(hi:Option Int)(sl:j8)(Q:VK),Inv X pins σ H s->RelV x v->s.heap.IsSliceOf sl vl vu vs->IsPart vl none->IsPart vu hi->IsPart vs (some (-1))->r x hi H Q ->
  ∃ T id,typeLookup (.type T) "__getitem__"=pure (some (.builtin id))/\s.TypeIs v T/\j7 (p9 X.prog X.w) X.A (getItem v (.ref sl)) (EP X pins σ Q) X.xe s
def tSlB (r:V->Option Int->Hp->VK->Prop)(te:TE)(th:TO)(ts:TE):TE:=λ σ H Q=>te σ H λ x H1=>th σ H1 λ u H3=>ts σ H3 λ z H4=>z=.int (-1)/\r x u H4 Q
section
variable {X:Cx}{e st:uby}{te ts:TE}{lo hi:Option uby}{th:TO}{pos p2:Pos}
theorem yS {r:V->Option Int->Hp->VK->Prop}(hr:SlB X r)(he:PE X e te)(hu:PO X hi th)(hs:PE X st ts):PE X (.Subscript e (.Slice none hi (some st) p2) pos) (tSlB r te th ts):=by
 intro pins s σ H Q I h;refine Subscript_ (thn (he pins s σ H _ I h) λ v s1 ⟨x,H1,I1,r1,q1⟩=>?_);refine wpAny_Slice ?_;rw[evalPart_none];refine c8 (thn (hu pins s1 σ H1 _ I1 q1) λ vu s3 ⟨u,H3,I3,pu,q3⟩=>?_);rw[evalPart_some];refine thn (hs pins s3 σ H3 _ I3 q3) λ vz s4 ⟨z,H4,I4',rz,ez,q4⟩=>?_;subst ez;obtain⟨t,rfl⟩:=rz;have I4:Inv X pins σ H4 { s4 with heap:=s4.heap.push { cls:=.type "slice",data:=.fields #[.none,vu,.int (-1) t] } }:=I4'.kept (t':=s4.toks) λ b ob q=>a9 _ q;obtain⟨T,id,hT,ht,hg⟩:=hr pins { s4 with heap:=s4.heap.push { cls:=.type "slice",data:=.fields #[.none,vu,.int (-1) t] } } σ H4 x v .none vu (.int (-1) t) u s4.heap.objs.size Q I4 r1 (uf6 ..) .none pu (.int _ _) q4;show j7 (p9 X.prog X.w) X.A (subscriptTail e (.Slice none hi (some st) p2) v (.ref s4.heap.objs.size)) (EP X pins σ Q) X.xe { s4 with heap:=s4.heap.push { cls:=.type "slice",data:=.fields #[.none,vu,.int (-1) t] } };exact tail_any (ops:=[v,.ref s4.heap.objs.size]) ht hT hg (by with_unfolding_all rfl)
inductive rBkT_i (K:b9)(x:V)(hi:Option Int)(H:Hp)(Q:VK):Prop
 | mk:∀ a xs j,(x=.ref a)->(H a=some (.tup xs))->(bk hi xs.length j)->(∀ p H',Same H H'->H p=none->H' p=some (.tup (xs.drop j).reverse)->Q (.ref p) H')->rBkT_i K x hi H Q
def rBkT (K:b9):V->Option Int->Hp->VK->Prop:=λ x hi H Q=>rBkT_i K x hi H Q
theorem zd6:SlB X (rBkT X.K):=by
 intro pins s σ H x v vl vu vs hi sl Q I rx hs pl pu ps h;obtain⟨a,xs,j,rfl,hx,hb,q⟩:=h;cases rx;obtain⟨its,r,ht,hz⟩:=I.tuple (SqT.of hx);have hlen:its.length=xs.length:=r.length.symm;refine⟨"tuple",_,z9.lookup,ht.typeIs,?_⟩;refine kW ht hs pl pu ps (j:=j) (by rw[hlen];exact hb) ?_ (by rw[hlen];exact hz);refine⟨.ref s.heap.objs.size,_,I.laid (t':=s.toks) (o:=.tup (xs.drop j).reverse) (λ b ob q=>a9 _ q) (i6 _) ?_,rfl,q _ _ (aP (I.hok.fresh (i6 _))) (I.hok.fresh (i6 _)) aM⟩;exact⟨by rw[udi,o6];left,_,(r.drop j).reverse,TupN.new _ _⟩
end
end L3
namespace Far
section
variable {B:List Arc}{n s a b:Nat}{ws S:List Nat}{x y:Int}{cs:List (Option (Int × Int))}{as:List (Option Nat)}
def MinW (B:List Arc)(a b:Nat)(ws:List Nat):Prop:=∃ S x y,Rt B a ws S b x y/\∀ L,Walk (arcsC B) a b L->comb (x,y)<=L
theorem MinW.back (K:Keys B)(h:MinW B a b ws):MinW B b a ws.reverse:=by
 obtain⟨S,x,y,r,l⟩:=h;exact⟨S.reverse,x,y,r.back K,λ L w=>l L (w.back (zaj K))⟩
end
def Shr (W1 W2:List Nat):Prop:=(∀ x∈W1,x∉W2)\/∃ p m q p2 q2,W1=p++m++q/\m≠[]/\(∀ x∈p,x∉W2)/\(∀ x∈q,x∉W2)/\(W2=p2++m++q2\/W2=p2++m.reverse++q2)
end Far
namespace L3
open PySem PySem.Spec PyProof.Rows L2
def WayM (H:Hp)(ts:List Tie)(ks:List Nat)(a b:Nat)(v:V):Prop:=(v=.non/\Far.Dst (arcs ts ks) a b none)\/∃ t ws x,v=.ref t/\H t=some (.tup (natV ws))/\ws.length<=24/\Far.MinW (arcsB ts ks) a b ws/\Far.Tr (arcs ts ks) a ws b x/\Far.Dst (arcs ts ks) a b (some x)
theorem zcw {n:Int}{ts:List Tie}{ks:List Nat}(ok:WebOk n ts)(ko:KeepOk ts.length ks){u v k:Nat}{l:Int}(h:(u,v,l,k)∈arcsB ts ks):tbN ts u v=some k:=by
 have h2:(u,v,l,k)∈arcsB ts (d7 ts.length):=by
  obtain⟨k',hk',m⟩:=arcsB_mem.mp h;exact arcsB_mem.mpr ⟨k',o9.mpr (ko.2 k' hk'),m⟩
 have e:=zcu ok (allOk ts) h2;unfold tbN;rw[← List.head?_filter,e];rfl
def WaysL (J:Hp)(ts:List Tie)(ks:List Nat)(ys:List V):Prop:=∀ v∈ys,∃ t W a b,v=.ref t/\J t=some (.tup (natV W))/\W.length<=24/\Far.MinW (arcsB ts ks) a b W
end L3
namespace Far
inductive W2 (B:List Arc)(s:Nat):Nat->Int->Int->Prop
 | nil:W2 B s s 0 0
 | snoc {u v:Nat} {x y l:Int} {k:Nat}:W2 B s u x y->(u,v,l,k)∈B->W2 B s v (x+l) (y+2^k)
theorem W2.nonneg {B:List Arc}(K:Keys B){s v:Nat}{x y:Int}(h:W2 B s v x y):0<=x/\0<=y:=by
 induction h with
 | nil=>exact⟨uau _,uau _⟩
 | @snoc u v x y l k h m ih =>
  have h1:=K.pos _ _ _ _ m;have h2:=pF k;left
theorem mV {P:Nat->Prop}:∀ n,P n->∃ m,P m/\∀ i,P i->m<=i:=by
 intro n;induction n using ugh with
 | ind n ih =>
  intro h;by_cases c:∃ i,P i/\i<n
  ·obtain⟨i,hi,lt⟩:=c;exact ih i lt hi
  ·exact⟨n,h,λ i hi=>Nat.le_of_not_lt λ z=>c ⟨i,hi,z⟩⟩
theorem zJ {P:Int->Int->Prop}(nn:∀ x y,P x y->0<=x/\0<=y){x y:Int}(h:P x y):∃ x y,P x y/\∀ x' y',P x' y'->¬ lt2 (x',y') (x,y):=by
 obtain⟨m,⟨y0,hm⟩,lm⟩:=mV (P:=λ m=>∃ y,P (m:Int) y) x.toNat ⟨y,by rw[uao (nn x y h).1];exact h⟩;obtain⟨k,hk,lk⟩:=mV (P:=λ k=>P (m:Int) (k:Int)) y0.toNat (by rw[uao (nn _ _ hm).2];exact hm);refine⟨m,k,hk,λ x' y' h' z=>?_⟩;have n':=nn x' y' h';have h1:=lm x'.toNat ⟨y',by rw[uao n'.1];exact h'⟩;unfold lt2 at z;simp only at z;rcases z with z | ⟨z1,z2⟩
 ·left
 ·have h2:=lk y'.toNat (by rw[← z1,uao n'.2];exact h');left
theorem wR {B:List Arc}(K:Keys B){n s:Nat}(inn:∀ u v l k,(u,v,l,k)∈B->u<n/\v<n)(hs:s<n):∃ cs as,Best B n s cs as:=by
 have ex:∀ v,∃ o:Option (Int × Int),(o=none->∀ x y,¬ W2 B s v x y)/\∀ c,o=some c->W2 B s v c.1 c.2/\∀ x' y',W2 B s v x' y'->¬ lt2 (x',y') c:=λ v=>by
  by_cases c:∃ x y,W2 B s v x y
  ·obtain⟨x,y,h⟩:=c;obtain⟨x,y,h,l⟩:=zJ (P:=W2 B s v) (λ x y h=>h.nonneg K) h;exact⟨some (x,y),(λ e=>by cases e),λ c e=>by cases e;exact⟨h,l⟩⟩
  ·exact⟨none,λ _ x y h=>c ⟨x,y,h⟩,λ c e=>by cases e⟩
 let f:Nat->Option (Int × Int):=λ v=>Classical.choose (ex v);have hf:∀ v,(f v=none->∀ x y,¬ W2 B s v x y)/\∀ c,f v=some c->W2 B s v c.1 c.2/\∀ x' y',W2 B s v x' y'->¬ lt2 (x',y') c:=λ v=>Classical.choose_spec (ex v);have eA:∀ v,∃ o:Option Nat,(v=s->o=none)/\(v≠s->f v≠none->o≠none)/\∀ u,o=some u->∃ l k cu,(u,v,l,k)∈B/\f u=some cu/\f v=some (cu.1+l,cu.2+2^k):=λ v=>by
  by_cases c1:v=s
  ·exact⟨none,λ _=>rfl,λ z=>absurd c1 z,λ u e=>by cases e⟩
  ·cases ev:f v with
   | none=>exact⟨none,λ z=>absurd z c1,λ _ z=>absurd rfl z,λ u e=>by cases e⟩
   | some c =>
    obtain⟨w,lw⟩:=(hf v).2 c ev;obtain⟨cx,cy⟩:=c;have w':W2 B s v cx cy:=w;cases w' with
    | nil=>exact absurd rfl c1
    | @snoc u _ x y l k w1 m =>
     cases eu:f u with
     | none=>exact absurd w1 ((hf u).1 eu x y)
     | some cu =>
      obtain⟨wu,lu⟩:=(hf u).2 cu eu;have n1:=lu x y w1;have n2:=lw _ _ (wu.snoc m);refine⟨some u,λ z=>absurd z c1,(λ _ _ z=>by cases z),λ u' e=>?_⟩;cases e;refine⟨l,k,cu,m,eu,?_⟩;unfold lt2 at n1 n2;simp only at n1 n2;have:cu=(x,y):=Prod.ext (by simp only;left) (by simp only;left);rw[this]
 let g:Nat->Option Nat:=λ v=>Classical.choose (eA v);have hg:∀ v,(v=s->g v=none)/\(v≠s->f v≠none->g v≠none)/\∀ u,g v=some u->∃ l k cu,(u,v,l,k)∈B/\f u=some cu/\f v=some (cu.1+l,cu.2+2^k):=λ v=>Classical.choose_spec (eA v);have wn:∀ {v x y},W2 B s v x y->v<n:=λ {v x y} h=>by
  cases h with
  | nil=>exact hs
  | snoc _ m=>exact (inn _ _ _ _ m).2
 have fo:∀ v,n<=v->f v=none:=λ v hv=>by
  cases e:f v with
  | none=>rfl
  | some c=>exact absurd (wn ((hf v).2 c e).1) (by left)
 have getf:∀ v,get ((d7 n).map f) v=f v:=λ v=>by
  unfold get;by_cases hv:v<n
  ·simp [hv]
  ·rw[fo v (by left)];simp [hv]
 have go:∀ v,n<=v->g v=none:=λ v hv=>by
  cases e:g v with
  | none=>rfl
  | some u =>
   obtain⟨l,k,cu,m,_⟩:=(hg v).2.2 u e;exact absurd (inn _ _ _ _ m).2 (by left)
 have getg:∀ v,get ((d7 n).map g) v=g v:=λ v=>by
  unfold get;by_cases hv:v<n
  ·simp [hv]
  ·rw[go v (by left)];simp [hv]
 refine⟨(d7 n).map f,(d7 n).map g,by simp,by simp,?_,?_,?_,?_,?_,?_⟩
 ·rw[getf];cases e:f s with
  | none=>exact absurd W2.nil ((hf s).1 e 0 0)
  | some c =>
   obtain⟨w,l⟩:=(hf s).2 c e;have nn:=w.nonneg K;have:=l 0 0 .nil;unfold lt2 at this;simp only at this;have:c=(0,0):=Prod.ext (by simp only;left) (by simp only;left);rw[this]
 ·rw[getg];exact (hg s).1 rfl
 ·intro v c e ne;rw[getf] at e;rw[getg];exact (hg v).2.1 ne (by rw[e];exact λ z=>by cases z)
 ·intro v c e;rw[getf] at e;exact (((hf v).2 c e).1.nonneg K).1
 ·intro u v l k c m e;rw[getf] at e;have w:=((hf u).2 c e).1.snoc m;cases ev:f v with
  | none=>exact absurd w ((hf v).1 ev _ _)
  | some c' =>
   refine⟨c',by rw[getf,ev],((hf v).2 c' ev).2 _ _ w⟩
 ·intro v u e;rw[getg] at e;obtain⟨l,k,cu,m,e1,e2⟩:=(hg v).2.2 u e;exact⟨l,k,cu,m,by rw[getf];exact e1,by rw[getf];exact e2⟩
end Far
namespace L3
open PySem PySem.Spec PyProof.Rows L2
def WKL (K:b9)(H:Hp)(n:Int)(ts:List Tie)(ks:List Nat)(wv:V)(kp:j8):Prop:=Is K H (webD n ts) wv/\WebOk n ts/\H kp=some (.lst ((keepI ks).map V.int))/\KeepOk ts.length ks
end L3
namespace Far
def chn (R:Nat->Nat->Prop):List Nat->Prop
 | []=>True
 | [_]=>True
 | a::b::r=>R a b/\chn R (b::r)
section
variable {R:Nat->Nat->Prop}
theorem eC:∀ {l m:List Nat}{x y:Nat},chn R (l++[x])->R x y->chn R (y::m)->chn R (l++[x]++y::m)
 | [],m,x,y,_,r,h=>⟨r,h⟩
 | [a],m,x,y,h1,r,h=>⟨h1.1,eC (l:=[]) (x:=x) (y:=y) h1.2 r h⟩
 | a::b::l,m,x,y,h1,r,h=>⟨h1.1,eC (l:=b::l) (x:=x) (y:=y) h1.2 r h⟩
theorem eY:∀ {l m:List Nat}{x:Nat},chn R (l++x::m)->chn R (l++[x])/\chn R (x::m)
 | [],m,x,h=>⟨trivial,h⟩
 | [a],m,x,h=>⟨⟨h.1,trivial⟩,h.2⟩
 | a::b::l,m,x,h=>⟨⟨h.1,(eY (l:=b::l) (x:=x) h.2).1⟩,(eY (l:=b::l) (x:=x) h.2).2⟩
theorem hX (sy:∀ u v,R u v->R v u):∀ {l:List Nat},chn R l->chn R l.reverse
 | [],_=>trivial
 | [_],_=>trivial
 | a::b::r,h=>by
  have ih:=hX sy h.2;rw[udv] at ih;rw[udv,udv];exact eC (l:=r.reverse) (m:=[]) ih (sy _ _ h.1) trivial
theorem iF:∀ {l:List Nat}{i u v:Nat},chn R l->l[i]?=some u->l[i+1]?=some v->R u v
 | [],i,u,v,_,e,_=>by cases e
 | [a],i,u,v,_,_,e=>by cases e
 | a::b::r,0,u,v,h,e1,e2=>by cases e1;cases e2;exact h.1
 | a::b::r,i+1,u,v,h,e1,e2=>iF (l:=b::r) h.2 e1 e2
def RingOf (ws:List Nat)(h:Nat)(tl:List Nat):Prop:=∃ p q,ws=p++h::q/\(tl=q++p\/tl=(q++p).reverse)
end
end Far
namespace L3
open PySem PySem.Spec PyProof.Rows L2
def adjK (ts:List Tie)(ks:List Nat)(u v:Nat):Prop:=∃ k,k∈ks/\tbN ts u v=some k
theorem pH (ts:List Tie)(u v:Nat):tbN ts u v=tbN ts v u:=by
 unfold tbN;congr 1;funext k;unfold isTB;rw[Int.min_comm,Int.max_comm]
theorem adjK.sym {ts:List Tie}{ks:List Nat}(u v:Nat)(h:adjK ts ks u v):adjK ts ks v u:=by
 obtain⟨k,hk,e⟩:=h;exact⟨k,hk,by rw[pH];exact e⟩
def Turn (h:Nat)(tl:List Nat):Prop:=(∀ x∈tl,h<=x)/\∀ u v p q,tl=u::p->tl=q++[v]->u<=v
end L3
namespace Stb
open PySem
def Asc (xs:Array Nat):Prop:=∀ i j,i<j->j<xs.size->xs.getD i 0<xs.getD j 0
theorem jV (xs:Array Nat)(j:Nat)(asc:Asc xs):∀ (fuel lo hi:Nat),lo<=hi->hi<=xs.size->hi-lo<=fuel->(∀ i,i<lo->xs.getD i 0<j)->(∀ i,hi<=i->i<xs.size->j<=xs.getD i 0) ->
  (∀ i,i<SetTable.below.go xs j fuel lo hi->xs.getD i 0<j)/\(∀ i,SetTable.below.go xs j fuel lo hi<=i->i<xs.size->j<=xs.getD i 0)/\SetTable.below.go xs j fuel lo hi<=xs.size
 | 0,lo,hi,h1,h2,h3,a,b=>by
  have e:lo=hi:=by left
  subst e;exact⟨a,b,h2⟩
 | fuel+1,lo,hi,h1,h2,h3,a,b=>by
  unfold SetTable.below.go;by_cases c:lo<hi
  ·rw[ug7 c];have hm:(lo+hi) / 2<xs.size:=by left
   have eg:xs.getD ((lo+hi) / 2) j=xs.getD ((lo+hi) / 2) 0:=by rw[ucg,ucg,ubb hm];rfl
   by_cases d:xs.getD ((lo+hi) / 2) j<j
   ·simp only [ug7 d];refine jV xs j asc fuel _ hi (by left) h2 (by left) (λ i hi'=>?_) b;rcases ufi (Nat.le_of_lt_succ hi') with z | z
    ·have:=asc i _ z hm;left
    ·rw[z];left
   ·simp only [ug8 d];refine jV xs j asc fuel lo _ (by left) (by left) (by left) a (λ i hi' hs=>?_);rcases ufi hi' with z | z
    ·have:=asc _ i z hs;left
    ·rw[← z];left
  ·rw[ug8 c];have e:lo=hi:=by left
   subst e;exact⟨a,b,h2⟩
theorem iP (xs:Array Nat)(j:Nat)(asc:Asc xs):(∀ i,i<SetTable.below xs j->xs.getD i 0<j)/\(∀ i,SetTable.below xs j<=i->i<xs.size->j<=xs.getD i 0)/\SetTable.below xs j<=xs.size:=by
 unfold SetTable.below;exact jV xs j asc _ 0 xs.size (x8 _) (i6 _) (by left) (λ i h=>by left) (λ i h1 h2=>by left)
theorem yB (xs:Array Nat)(asc:Asc xs){i p:Nat}(h:xs[i]?=some p):SetTable.below xs (p+1)=i+1:=by
 obtain⟨hi,e⟩:=ual.mp h;have eg:xs.getD i 0=p:=by rw[ucg,h];rfl
 obtain⟨h1,h2,h3⟩:=iP xs (p+1) asc;rcases ufu (SetTable.below xs (p+1)) (i+1) with z | z | z
 ·have:=h2 i (by left) hi;left
 ·exact z
 ·have a:=h1 (i+1) z;have b:=asc i (i+1) (by left) (by left);left
theorem yA (xs:Array Nat)(asc:Asc xs):SetTable.below xs 0=0:=by
 obtain⟨h1,_,_⟩:=iP xs 0 asc;rcases Nat.eq_zero_or_pos (SetTable.below xs 0) with z | z
 ·exact z
 ·have:=h1 0 z;left
theorem Asc.list {xs:Array Nat}:Asc xs↔xs.toList.Pairwise (·<·):=by
 rw[ub5];have g:∀ i (h:i<xs.toList.length),xs.getD i 0=xs.toList[i]:=λ i h=>by
  have h':i<xs.size:=by simpa using h
  rw[ucg,ubb h'];simp
 constructor
 ·intro a i j hi hj ij;have:=a i j ij (by simpa using hj);rw[g i hi,g j hj] at this;exact this
 ·intro a i j ij hj;have hj':j<xs.toList.length:=by simpa using hj
  have:=a i j (by left) hj' ij;rw[g i (by left),g j hj'];exact this
theorem yC {xs:Array Nat}{j:Nat}(asc:Asc xs)(new:xs[SetTable.below xs j]?≠some j):Asc (SetTable.insertAt xs (SetTable.below xs j) j):=by
 obtain⟨h1,h2,h3⟩:=iP xs j asc;rw[Asc.list,SetTable.toList_insertAt];have al:=Asc.list.mp asc;have g:∀ i (h:i<xs.size),xs.getD i 0=xs[i]:=λ i h=>by rw[ucg,ubb h];rfl
 have lo:∀ x∈xs.toList.take (SetTable.below xs j),x<j:=λ x hx=>by
  obtain⟨i,hi,e⟩:=ucz hx;rw[uac] at hi;have hs:i<xs.size:=by simp at hi;left
  have:=h1 i (by left);rw[g i hs] at this;rw[List.getElem_take] at e;have e':xs[i]=x:=by simpa using e
  left
 have hi:∀ x∈xs.toList.drop (SetTable.below xs j),j<x:=λ x hx=>by
  obtain⟨i,hi,e⟩:=ucz hx;rw[o6] at hi;have hs:SetTable.below xs j+i<xs.size:=by simp at hi;left
  have:=h2 (SetTable.below xs j+i) (by left) hs;rw[g _ hs] at this;rw[List.getElem_drop] at e;have e':xs[SetTable.below xs j+i]=x:=by simpa using e
  rcases ufi this with z | z
  ·left
  ·exfalso;rcases Nat.eq_zero_or_pos i with i0 | i0
   ·subst i0;apply new;rw[ubb (by left)];simp at z;rw[← z]
   ·have b0:SetTable.below xs j<xs.size:=by left
    have q1:=h2 (SetTable.below xs j) (i6 _) b0;have q2:=asc (SetTable.below xs j) (SetTable.below xs j+i) (by left) hs;rw[g _ hs] at q2;left
 refine ucb.mpr ⟨al.sublist (List.take_sublist _ _),ub0.mpr ⟨λ x hx=>hi x hx,al.sublist (List.drop_sublist _ _)⟩,λ a ha b hb=>?_⟩;rcases j4.mp hb with z | z
 ·rw[z];exact lo a ha
 ·have:=lo a ha;have:=hi b z;left
theorem zai (n:Nat):Asc (Array.range n):=by
 rw[Asc.list];simpa using ubr
def TI (b:Bool)(t:SetTable):Prop:=Asc t.place/\t.led=b
theorem zaz (b:Bool):TI b (.fresh 0 0 b):=⟨λ i j _ h=>by simp [SetTable.fresh] at h,rfl⟩
theorem gA {b:Bool}{t:SetTable}(h:TI b t)(n:Nat):TI b (t.standIn n):=⟨zai n,h.2⟩
theorem ze8 {b:Bool}{t:SetTable}(h:TI b t)(n:Nat):TI b (t.orStandIn n):=by
 unfold SetTable.orStandIn;split
 ·exact h
 ·exact gA h n
theorem zay {b:Bool}{t:SetTable}(h:TI b t):TI b { t with plain:=false }:=h
theorem nV {t:SetTable}{j:Nat}(h:t.slot j=.empty\/t.slot j=.dummy):t.place[SetTable.below t.place j]?≠some j:=λ e=>by
 unfold SetTable.slot at h;have c:(t.place[SetTable.below t.place j]?==some j)=true:=by rw[e];simp
 simp only [c,if_true] at h;rcases h with h | h <;> cases h
theorem iK (t:SetTable)(hashAt:Nat->Int)(h:Int):∀ (f:Nat)(p:SetTable.Probe),(∀ d,p.dummy=some d->t.slot d=.dummy)->∀ j dm,SetTable.probe.go t hashAt h f p=some (.empty j dm)->t.slot j=.empty/\∀ d,dm=some d->t.slot d=.dummy
 | 0,p,_,j,dm,e=>by cases e
 | f+1,p,hp,j,dm,e=>by
  have adv:∀ q:SetTable.Probe,(t.advance q).dummy=q.dummy:=λ q=>by
   unfold SetTable.advance;split <;> rfl
  unfold SetTable.probe.go at e;split at e
  ·rename_i hs;injection e with e;injection e with e1 e2;subst e1;subst e2;exact⟨hs,hp⟩
  ·rename_i hs;refine iK t hashAt h f _ (λ d hd=>?_) j dm e;rw[adv] at hd;have:p.j=d:=by simpa using hd
   rw[← this];exact hs
  ·split at e
   ·cases e
   ·refine iK t hashAt h f _ (λ d hd=>?_) j dm e;rw[adv] at hd;exact hp d hd
theorem zbz {t:SetTable}{h:Int}{s:Nat}{w:Bool}(e:t.freeSlot h=some (s,w)):t.place[SetTable.below t.place s]?≠some s:=by
 unfold SetTable.freeSlot at e;split at e
 ·rename_i j dm hm;unfold SetTable.probe at hm;obtain⟨h1,h2⟩:=iK t _ h _ _ (λ d hd=>by cases hd) j dm hm;injection e with e;injection e with e1 _;cases dm with
  | none=>exact nV (.inl (by rw[← e1];exact h1))
  | some d=>exact nV (.inr (by rw[← e1];exact h2 d rfl))
 ·cases e
theorem yK {b:Bool}{t:SetTable}(h:TI b t)(es:Array (Int × c9))(k:Int)(x:c9):TI b (layNew t es k x).2.1:=by
 unfold layNew;split
 ·rename_i s w e;exact ze8 (t:=(t.put s).1) ⟨yC h.1 (zbz e),h.2⟩ _
 ·exact gA h _
theorem kH {f:Nat->Option Nat}(hf:∀ j y,f j=some y->y=j):∀ l:List Nat,(l.filterMap f).Sublist l
 | []=>.slnil
 | j::l=>by
  rw[ua2];cases e:f j with
  | none=>exact (kH hf l).cons j
  | some y=>rw[hf j y e];exact (kH hf l).cons₂ j
theorem zax {b:Bool}{t:SetTable}(h:TI b t)(es:Array (Int × c9))(wanted:Nat):TI b (relayAll t es wanted).2.1:=by
 unfold relayAll;split
 ·rename_i t' order e;dsimp only;split
  ·unfold SetTable.relaid SetTable.laid at e;simp only [Option.bind_eq_bind,Option.bind_eq_some_iff] at e;obtain⟨owner,_,e⟩:=e;injection e with e;injection e with e1 _;rw[← e1];refine⟨?_,h.2⟩;rw[Asc.list];simp only [ufe];refine ubr.sublist (kH (λ j y hy=>?_) _);cases c:owner.getD j none with
   | none=>rw[c] at hy;cases hy
   | some z=>rw[c] at hy;exact (ubk hy).symm
  ·exact gA h _
 ·exact gA h _
end Stb
namespace Stb
open PySem PyProof.Rows
def ledOf (w:uak):Bool:=!w.params.followText "set-order"
def TIat (w:uak)(h:Heap)(a:j8):Prop:=∃ o es ep t,h.get? a=some o/\o.data=.set es ep t/\TI (ledOf w) t
abbrev SetT (P:n0)(w:uak)(h:Heap)(a:j8)(S:Int->Bool)(n:Nat):Prop:=h.SetOf (intKind P w) a S n/\TIat w h a
section
variable {prog:n0}{w:uak}{A:uaj}{E:c9->d8->Prop}{s:d8}
theorem SetT.keep {h h':Heap}{a:j8}{S:Int->Bool}{n:Nat}(x:SetT prog w h a S n)(k:∀ o,h.get? a=some o->h'.get? a=some o):SetT prog w h' a S n:=by
 obtain⟨⟨o,es,ep,t,ho,r⟩,o',es',ep',t',ho',r'⟩:=x;exact⟨⟨o,es,ep,t,k _ ho,r⟩,o',es',ep',t',k _ ho',r'⟩
theorem oI {g:Bool->Sem Unit}(gp:∀ (b:Bool) (z:d8) (U:Unit->d8->Prop),U () z->j7 (p9 prog w) A (g b) U E z){S':Int->Bool}
  {a:j8} {o:Obj} {es es1:Array (Int × c9)} {ep:Nat} {t t2:SetTable} (ho:s.heap.get? a=some o) (ox:o.ExactSet) (od:o.data=.set es ep t)
  (el:ElemsOf (intKind prog w) es1.toList) (me:∀ k,S' k=true↔∃ e∈es1.toList,(intKind prog w).is k e.2=true) (small:es1.size<scanBound) (fit:t2.fits es1.size=true) (ti:TI (ledOf w) t2) {dum:Bool} {R:Option Bool->d8->Prop}
  (fin:∀ h',Heap.SameBut a s.heap h'->SetT prog w h' a S' es1.size->R (some true) { s with heap:=h' }) :
  j7 (p9 prog w) A (do
      storeSet a es1 t2
      if (!dum&&t2.tooFull) = true then do
          g (relayAll t2 es1 (SetTable.grown es1.size)).2.2
          storeSet a (relayAll t2 es1 (SetTable.grown es1.size)).1 (relayAll t2 es1 (SetTable.grown es1.size)).2.1
          pure (some true)
        else pure (some true)) R E s:=by
 refine a8 (wpAny_storeSet_of ho od ?_ (ugb small));obtain⟨g1,s1⟩:=SetOf_store (knd:=intKind prog w) ho ox od el me small fit;have sb:=ubz s.heap a (Obj.putSet es1 t2);split
 ·have pm:=relayAll_perm t2 es1 (SetTable.grown es1.size);have fr:=relayAll_fits t2 es1 (SetTable.grown es1.size);have tr:=zax ti es1 (SetTable.grown es1.size);generalize relayAll t2 es1 (SetTable.grown es1.size)=Rl at pm fr tr ⊢;obtain⟨es2,t3,gv⟩:=Rl;dsimp only at pm fr tr ⊢;have sz:es2.size=es1.size:=by rw[← ua7,pm.length_eq,ua7]
  have sm2:es2.size<scanBound:=sz ▸ small;refine a8 (gp _ _ _ (a8 (wpAny_storeSet_of g1 rfl ?_ (ugb sm2))));obtain⟨g2,s2⟩:=SetOf_store (knd:=intKind prog w) g1 ox rfl (el.perm pm) (λ k=>(me k).trans ⟨λ ⟨e,he,q⟩=>⟨e,pm.mem_iff.mpr he,q⟩,λ ⟨e,he,q⟩=>⟨e,pm.mem_iff.mp he,q⟩⟩) sm2 fr;rw[sz] at s2;exact c8 (fin _ (sb.trans (ubz _ a _)) ⟨s2,V,V,g2,rfl,tr⟩)
 ·exact c8 (fin _ sb ⟨s1,V,V,g1,rfl,ti⟩)
theorem zfe {a:j8}{S:Int->Bool}{n:Nat}{k:Int}{x:c9}{Q:Bool->d8->Prop}(kx:(intKind prog w).is k x=true)(sx:x.scannable=true)(st:SetT prog w s.heap a S n)(room:n+1<scanBound)
  (fin:∀ h',Heap.SameBut a s.heap h'->SetT prog w h' a (λ y=>S y||decide (y=k)) (if S k then n else n+1)->Q (!S k) { s with heap:=h' }) :
  j7 (p9 prog w) A (setAddHashed a x ((intKind prog w).hash k)) Q E s:=by
 obtain⟨⟨o,es,ep,t,ho,ox,od,el,me,small,fit,en⟩,o',es',ep',t',ho',od',ti⟩:=st;rw[ho] at ho';cases ho';rw[od] at od';cases od';have small1:es.size+1<scanBound:=en ▸ room;unfold setAddHashed setAddHashedIn;refine uae (a8 (udh ho od fit ?_));dsimp only;rw[byScan_of sx small el,ug7 rfl];unfold setAddByScan;refine a8 (a8 (uc2 (a8 (wpAny_setScan_of kx ho od fit el ?_))));cases fd:List.findIdx? (λ e=>(intKind prog w).is k e.2) es.toList with
 | some j =>
  dsimp only;obtain⟨jl,jp,_⟩:=List.findIdx?_eq_some_iff_getElem.mp fd;have sk:S k=true:=(me k).mpr ⟨es.toList[j],ubt jl,jp⟩;refine c8 (c8 ?_);have es0:s={ s with heap:=s.heap }:=by cases s;rfl
  have q:=fin s.heap (ugl a s.heap) ⟨⟨o,es,ep,t,ho,ox,od,el,λ y=>by
   rw[udp,decide_eq_true_eq,← me y];exact⟨λ z=>z.elim id (λ e=>e ▸ sk),.inl⟩,small,fit,by rw[sk];exact en⟩,o,es,ep,t,ho,od,ti⟩
  rw[sk] at q;rw[es0];exact q
 | none =>
  dsimp only;have sk:S k=false:=by
   cases c:S k with
   | false=>rfl
   | true=>obtain⟨e,he,hp⟩:=(me k).mp c;have:=List.findIdx?_eq_none_iff.mp fd e he;rw[hp] at this;cases this
  have pm:=layNew_perm t es ((intKind prog w).hash k) x;have ft:=layNew_fits t es ((intKind prog w).hash k) x;have tl:=yK ti es ((intKind prog w).hash k) x;generalize layNew t es ((intKind prog w).hash k) x=L at pm ft tl ⊢;obtain⟨es1,t1,dum,gv⟩:=L;dsimp only at pm ft tl ⊢;rw[Array.toList_push] at pm;have el1:ElemsOf (intKind prog w) es1.toList:=(el.push kx sx).perm pm;have me1:∀ y,(S y||decide (y=k))=true↔∃ e∈es1.toList,(intKind prog w).is y e.2=true:=mem_push_iff kx me pm;have ez:es1.size=es.size+1:=by rw[← ua7,pm.length_eq,i8,ua7];rfl
  have small2:es1.size<scanBound:=ez ▸ small1;have gw:∀ (b:Bool)(z:d8)(U:Unit->d8->Prop),U () z->j7 (p9 prog w) A (match b with | true=>rule "set.scan.the-table-gave-way" | false=>pure ()) U E z :=
   λ b z U hq=>by cases b <;> first | exact c8 hq | exact uc2 hq
  refine a8 (gw _ _ _ ?_);have last:∀ h',Heap.SameBut a s.heap h'->SetT prog w h' a (λ y=>S y||decide (y=k)) es1.size->Q true { s with heap:=h' }:=λ h' sb z=>by
   have q:=fin h' sb;rw[sk] at q;rw[ez,en] at z;exact q z
  split
  ·refine a8 ?_;rw[hashByValue_scannable 8 sx];refine c8 (oI (λ b z U hq=>?_) ho ox od el1 me1 small2 ?_ ?_ λ h' sb z=>?_)
   ·cases b <;> first | exact c8 hq | exact uc2 hq
   ·split
    ·exact ft
    ·exact SetTable.fits_plain_off ft
   ·split
    ·exact tl
    ·exact zay tl
   ·dsimp only;exact c8 (last h' sb z)
  ·refine a8 (c8 ?_);simp only [↓reduceIte];refine oI (λ b z U hq=>?_) ho ox od el1 me1 small2 ft tl λ h' sb z=>?_
   ·cases b <;> first | exact c8 hq | exact uc2 hq
   ·dsimp only;exact c8 (last h' sb z)
theorem zex {R:Result->d8->Prop}{I:j8}{fp wr:List j8}{G:Array GenState->Array GenState->Prop}{n:Nat}{P:Nat->c9->Prop}{St:Nat->d8->Prop}(W:WalksS prog w A.in1 I fp wr G n P St)(a:j8)(af:a∉fp)
  (val:Nat->Int) (hv:∀ i v,P i v->∃ t,v=.int (val i) t) (hb:n+1<scanBound) :
  ∀ (k i:Nat)(s:d8),n-i=k->i<=n->St i s->SetT prog w s.heap a (λ y=>(firstMet val i).any (·==y)) (firstMet val i).length ->
   (∀ s',Moved (a::wr) G s s'->SetT prog w s'.heap a (λ y=>(firstMet val n).any (·==y)) (firstMet val n).length->R (.ok (.ret .none)) s') ->
   codeAny (p9 prog w) A (.builtin "set.update.loop" ⟨[.ref a,.ref I],[]⟩) R s:=by
 have aw:a∉wr:=λ h=>af (W.sub _ h);have up:∀ b∈wr,b∈a::wr:=λ b hb=>l9 _ hb;intro k;induction k with
 | zero =>
  intro i s hk hi st x fin;obtain rfl:i=n:=by left
  refine uaz ueh ?_;rw[Around.under_plainId uc6 _];show j7 _ A.in1 (pyNext (.ref I) >>= _) _ _ s;refine a8 (W.done s _ _ st λ s' hm=>?_);show j7 _ A.in1 (ret Value.none) _ _ s';exact c8 (fin s' (hm.mono up) (x.keep λ o e=>hm.heap a o aw e))
 | succ k ih =>
  intro i s hk hi st x fin;have lt:i<n:=by left
  refine uaz ueh ?_;rw[Around.under_plainId uc6 _];show j7 _ A.in1 (pyNext (.ref I) >>= _) _ _ s;refine a8 (W.item i s _ _ lt st λ v s' hP st' hm=>?_);obtain⟨t,rfl⟩:=hv i v hP;have x':=x.keep (prog:=prog) λ o e=>hm.heap a o aw e;show j7 _ A.in1 (holding [Value.int (val i) t] (setAdd a (.int (val i) t)) >>= _) _ _ s';refine a8 (uae ?_);unfold setAdd;refine uae (a8 ((intKind prog w).pyHash (k:=val i) (intKind_is _ _ _ _) ?_));refine zfe (s:={ s' with toks:=s'.toks+1 }) (intKind_is _ _ _ _) rfl x' (by have:=firstMet_length_le val i;left) λ h' sb x2=>?_;have x3:SetT prog w h' a (λ y=>(firstMet val (i+1)).any (·==y)) (firstMet val (i+1)).length :=
   ⟨SetOf_congr x2.1 (λ y=>by rw[firstMet_succ,step_any]) (by rw[firstMet_succ,step_length]),x2.2⟩
  refine c8 ⟨ubq uc6 _,ih (i+1) _ (by left) lt (W.frame _ s' _ _ st' (ubv _) λ b hb o e=>?_) x3 λ s'' hm2 x4=>?_⟩
  ·rw[sb.2 b (λ h:b=a=>af (by rw[← h];exact hb))];exact e
  ·refine fin s'' (Moved.trans W.gtrans ((hm.mono up).then_heap (ubv _) λ b o hb e=>?_) hm2) x4;rw[sb.2 b (λ h:b=a=>hb (by rw[h];exact j3))];exact e
end
end Stb
namespace Stb
open PySem PyProof.Rows
section
variable {prog:n0}{w:uak}{A:uaj}{E:c9->d8->Prop}{s:d8}
abbrev emp (w:uak):Obj:={ cls:=.type "set",dict:=none,data:=.set #[] 0 (.fresh 0 0 (ledOf w)) }
theorem ze9 (x:c9){U:c9->d8->Prop}(fin:U (.ref s.heap.objs.size) { s with heap:=s.heap.push (emp w) }) :
  codeAny (p9 prog w) A (.call (.builtin "set.__new__") ⟨[.type "set",x],[]⟩) (wants U E) s:=by
 refine codeAny_of_tree ?_;show j7 _ A.in1 (checkBuiltinCall "set.__new__" ⟨[.type "set",x],[]⟩ >>= λ _=>again (.builtin "set.__new__" ⟨[.type "set",x],[]⟩)) _ _ s;refine a8 (ufq (PySem.F.newCall_set_1 x) (c8 ⟨ubq ugt _,uaz PySem.F.entry_set_new ?_⟩));rw[Around.under_plainId ugt _];unfold Builtin.«set.__new__» Builtin.Frozenset.newClass;have sub1:=PySem.sub_set_self;obtain⟨hp,g,d,tk,os⟩:=s;dsimp only
 wp_walk
 refine udl (c8 ?_);simp only [newObj];exact a8 (wpAny_alloc (c8 (c8 fin)))
theorem zfc (h:Heap):SetT prog w (h.push (emp w)) h.objs.size (λ y=>(firstMet (λ i=>([]:List Int).getD i 0) 0).any (·==y)) 0 :=
 ⟨SetOf_congr ((setObjOf_fresh (knd:=intKind prog w) (ledOf w)).setOf (i7 _ rfl) (by unfold scanBound;left)) (λ _=>rfl) rfl,_,_,_,_,i7 _ rfl,rfl,zaz _⟩
end
end Stb
namespace Stb
open PySem PyProof.Rows
theorem sl_next:Slot "set_iterator" "__next__" "set_iterator.__next__":=.of (owner:="set_iterator") (n:="__next__") (by rw[typeLookup_type,ufb];kernel_rfl) (by symm) (by symm) (by symm) (by first | exact .inl (by symm) | exact .inr (by symm)) (by rw[isSubtype_type];kernel_rfl)
theorem hG:entryFor table "set_iterator.__next__"=some Builtin.«set_iterator.__next__»:=entryFor_of_tree (by kernel_rfl)
theorem pQ:Manifest.owners.lookup (String.ofList ['r','o','t','a','r','e','t','i','_','t','e','s'].reverse)=some Manifest.sig_set_iterator:=by kernel_rfl
theorem iB (a:c9):argsOk "set_iterator.__next__" ⟨[a],[]⟩:=by
 unfold argsOk;rw[signature?_of (id:="set_iterator.__next__") (n:=['_','_','t','x','e','n','_','_']) (o:=['r','o','t','a','r','e','t','i','_','t','e','s']) (by kernel_rfl) pQ];kernel_rfl
theorem zdu:entryFor table "set.__iter__"=some Builtin.«frozenset.__iter__»:=entryFor_alias (id':="frozenset.__iter__") (by kernel_rfl) rfl (by symm) (by kernel_rfl)
theorem qS {α:Type}{l:List α}{i:Nat}(h:i<l.length):(l[i]::l.eraseIdx i).Perm l:=by
 rw[List.eraseIdx_eq_take_drop_succ];refine List.perm_middle.symm.trans ?_;rw[← uee h,List.take_append_drop]
theorem pO {α:Type}(next:Nat->Nat):∀ (f k:Nat)(left:List α)(out:Array α),left.length=f->(pickOrder.go next f k left out).toList.Perm (out.toList++left)
 | 0,k,left,out,h=>by
  have:left=[]:=ucc.mp h;subst this;unfold pickOrder.go;simp
 | f+1,k,left,out,h=>by
  have lt:next k%left.length<left.length:=Nat.mod_lt _ (by left)
  unfold pickOrder.go;rw[c7 lt];dsimp only;refine (pO next f (k+1) _ _ (by rw[ugi lt];left)).trans ?_;rw[Array.toList_push,uei];refine ugj _ ?_;exact qS lt
theorem yR {α:Type}(next:Nat->Nat)(xs:Array α):(pickOrder next xs).toList.Perm xs.toList:=by
 unfold pickOrder;simpa using pO next xs.size 0 xs.toList #[] (by simp)
section
variable {prog:n0}{w:uak}{A:uaj}{E:c9->d8->Prop}{s:d8}
theorem yF {M:Model}{src:Source}{n:Nat}{Q:Nat->d8->Prop}(hn:n≠0)(h:∀ i,i<n->Q i { s with drawn:=s.drawn.bump src }):j7 M A (choose src n) Q E s:=λ Γ p hΓ=>by
 unfold choose;rw[Sem.wp_choose];exact⟨hn,by exact h _ (Nat.mod_lt _ (Nat.pos_of_ne_zero hn))⟩
theorem uU {α:Type}{M:Model}(n:Nat):∀ (xs:List α)(s:d8)(Q:List α->d8->Prop),xs.length=n->(∀ ys d',ys.Perm xs->Q ys { s with drawn:=d' })->j7 M A (drawOrder n xs) Q E s:=by
 induction n with
 | zero =>
  intro xs s Q h hQ;have:xs=[]:=ucc.mp h;subst this;unfold drawOrder;exact c8 (hQ [] s.drawn .nil)
 | succ n ih =>
  intro xs s Q h hQ;cases xs with
  | nil=>cases h
  | cons x xs =>
   unfold drawOrder;refine a8 (yF (by simp) λ i hi=>?_);rw[c7 hi];refine a8 (ih _ _ _ (by rw[ugi hi];simp at h ⊢;left) λ ys d' pm=>c8 (hQ _ d' ?_));exact (List.Perm.cons _ pm).trans (qS hi)
end
end Stb
namespace Stb
open PySem PyProof.Rows
inductive Knd where
 | text
 | drawn (p:j8) (pl:List Nat)
 | places
def First (w:uak)(a:j8)(es:Array (Int × c9))(ep:Nat)(t:SetTable)(ord:List (Int × c9))(i:Nat)(h:Heap)(first:c9):Knd->Prop
 | .text=>ledOf w=false/\ord=(pickOrder (w.params.setOrder a ep) es).toList/\∃ z:Nat,first=.int z 0
 | .drawn p pl=>first=.ref p/\h.IsTuple p (pl.map λ i=>rawInt (i:Nat)).toArray/\ord.length=pl.length/\∀ j k:Nat,pl[j]?=some k->∃ e,es[k]?=some e/\ord[j]?=some e
 | .places=>ledOf w=true/\(t.plain=true\/es.size<=1)/\ord=es.toList/\∃ z:Nat,first=.int z 0/\SetTable.below t.place z=i
def IsSet (h:Heap)(a:j8)(es:Array (Int × c9))(ep:Nat)(t:SetTable):Prop:=∃ o,h.get? a=some o/\o.cls=.type "set"/\o.data=.set es ep t
def IsIt (h:Heap)(I a:j8)(n ep i:Nat)(first:c9):Prop:=∃ o,h.get? I=some o/\o.cls=.type "set_iterator"/\o.data=.fields #[first,.int i 0,.ref a,.int n 0,.int ep 0]
section
variable {prog:n0}{w:uak}{A:uaj}{E:c9->d8->Prop}{s:d8}{a I:j8}{es:Array (Int × c9)}{ep:Nat}{t:SetTable}
theorem mQ {Q:Option (c9 × Nat)->d8->Prop}{z i:Nat}(hs:IsSet s.heap a es ep t)(fit:t.fits es.size=true)(hl:ledOf w=false)
  (h:Q (((pickOrder (w.params.setOrder a ep) es)[i]?).map λ e=>(e.2,z)) s):j7 (p9 prog w) A (setNext a z i ep) Q E s:=by
 obtain⟨o,ho,_,od⟩:=hs;have ft:w.params.followText "set-order"=true:=by simpa [ledOf] using hl
 unfold setNext setsByText;refine a8 (udh ho od fit ?_);refine a8 (a8 (udl (c8 ?_)));show j7 _ _ (if w.params.followText "set-order"=true then _ else _) _ _ _;rw[ug7 ft];dsimp only;rw[ug8 (by simp)];refine a8 ?_;unfold setWalk setsByText;refine a8 (udh ho od fit ?_);refine a8 (a8 (udl (c8 ?_)));show j7 _ _ (if w.params.followText "set-order"=true then _ else _) _ _ _;rw[ug7 ft];exact a8 (udl (c8 (c8 h)))
theorem lM {Q:Option (c9 × Nat)->d8->Prop}{z i:Nat}(hs:IsSet s.heap a es ep t)(fit:t.fits es.size=true)(ti:TI (ledOf w) t)(hl:ledOf w=true)(hp:t.plain=true\/es.size<=1)
  (h:Q (match es[SetTable.below t.place z]?,t.place[SetTable.below t.place z]? with | some (_,x),some j=>some (x,j+1) | _,_=>none) s):j7 (p9 prog w) A (setNext a z i ep) Q E s:=by
 obtain⟨o,ho,_,od⟩:=hs;have ft:w.params.followText "set-order"=false:=by simpa [ledOf] using hl
 unfold setNext setsByText;refine a8 (udh ho od fit ?_);refine a8 (a8 (udl (c8 ?_)));show j7 _ _ (if w.params.followText "set-order"=true then _ else _) _ _ _;rw[ug8 (by rw[ft];exact j9)];dsimp only;show j7 _ _ (if (!t.plain&&decide (es.size>1))=true then _ else _) _ _ _;rw[ug8 (by rcases hp with z | z <;> simp [z])];show j7 _ _ ((if (!t.led&&!es.isEmpty)=true then unsupported "set:maker-not-led" else pure ()) >>= _) _ _ _;rw[ug8 (by rw[ti.2,hl];simp)];exact a8 (c8 (c8 h))
theorem IsIt.set0 {h:Heap}{n ep i:Nat}{first:c9}(x:IsIt h I a n ep i first)(v:c9):IsIt (h.update I (Obj.mapFields (·.setIfInBounds 0 v))) I a n ep i v:=by
 obtain⟨o,ho,hc,hd⟩:=x;exact⟨_,uag _ ho (Obj.isFreed_of_fields (Obj.data_mapFields hd _)),(Obj.cls_mapFields ..).trans hc,by rw[Obj.data_mapFields hd];simp⟩
theorem IsIt.set1 {h:Heap}{n ep i:Nat}{first:c9}(x:IsIt h I a n ep i first):IsIt (h.update I (Obj.mapFields (·.setIfInBounds 1 (rawInt ((i:Int)+1))))) I a n ep (i+1) first:=by
 obtain⟨o,ho,hc,hd⟩:=x;exact⟨_,uag _ ho (Obj.isFreed_of_fields (Obj.data_mapFields hd _)),(Obj.cls_mapFields ..).trans hc,by rw[Obj.data_mapFields hd];simp [rawInt]⟩
theorem nU {Q:PySem.Fin->d8->Prop}(hh:A.handled=none)(hE:∀ (e:c9) (h':Heap),(∀ b o,s.heap.get? b=some o->h'.get? b=some o)->Shared.TypeIs { s with heap:=h' } e "StopIteration"->E e { s with heap:=h' }) :
  j7 (p9 prog w) A (newExc (.type "StopIteration") [] >>= λ e=>raiseNew e) Q E s:=by
 refine a8 ?_;simp only [newExc,newTuple];refine a8 (v8 ?_ (by size_fits));refine a8 (m:=firstArgMember _ _) (ufq (a:=Value.none) (by first | rfl | (simp only [firstArgMember];rfl)) (v8 ?_ (by size_fits)));simp only [raiseNew];refine a8 (wpAny_handled ?_);rw[hh];refine a8 (c8 (wpAny_throw ?_));refine hE _ _ (λ b o e=>a9 _ (a9 _ e)) ?_;exact⟨_,i7 _ rfl,rfl⟩
section
variable {Q:Option c9->d8->Prop}{i:Nat}
theorem oP {x:c9}{z nx:Nat}(hs:IsSet s.heap a es ep t)(fit:t.fits es.size=true)(hit:IsIt s.heap I a es.size ep i (.int z 0))
  (hn:∀ (A':uaj)(Q':Option (c9 × Nat)->d8->Prop)(E':c9->d8->Prop),Q' (some (x,nx)) s->j7 (p9 prog w) A' (setNext a z i ep) Q' E' s)
  (hQ:∀ h',IsIt h' I a es.size ep (i+1) (.int nx 0)->Heap.SameBut I s.heap h'->Q (some x) { s with heap:=h' }):j7 (p9 prog w) A (pyNext (.ref I)) Q E s:=by
 obtain⟨oi,hi,ci,di⟩:=id hit;obtain⟨o,ho,_,od⟩:=hs;unfold pyNext;refine a8 (ucq (uaf (name:=v4 "__next__") ⟨oi,hi,ci⟩ sl_next (uar sl_next ⟨oi,hi,ci⟩ hG ?_ (iB _))));show j7 _ _ (fieldsOf (.ref I) >>= _) _ _ s;refine a8 (ufl hi di ?_);show j7 _ _ (setEntries a >>= _) _ _ s;refine a8 (udq ho od fit ?_);dsimp only;rw[ug8 (by simp)];show j7 _ _ (setNext a z i ep >>= _) _ _ s;refine a8 (hn _ _ _ ?_);dsimp only;refine a8 (ubm hi di (by simp) ?_);obtain⟨o1,hi1,ci1,di1⟩:=id (hit.set0 (rawInt nx));refine a8 (ubm hi1 di1 (by simp) (c8 ⟨x,rfl,c8 (hQ _ ?_ ((ubz ..).trans (ubz ..)))⟩));exact (hit.set0 (rawInt nx)).set1
theorem pX {z:Nat}(hh:A.handled=none)(hs:IsSet s.heap a es ep t)(fit:t.fits es.size=true)(hit:IsIt s.heap I a es.size ep i (.int z 0))
  (hn:∀ (A':uaj)(Q':Option (c9 × Nat)->d8->Prop)(E':c9->d8->Prop),Q' none s->j7 (p9 prog w) A' (setNext a z i ep) Q' E' s)
  (hQ:∀ h',(∀ b o,b≠I->s.heap.get? b=some o->h'.get? b=some o)->Q none { s with heap:=h' }):j7 (p9 prog w) A (pyNext (.ref I)) Q E s:=by
 obtain⟨oi,hi,ci,di⟩:=id hit;obtain⟨o,ho,_,od⟩:=hs;unfold pyNext;refine a8 (ucq (uaf (name:=v4 "__next__") ⟨oi,hi,ci⟩ sl_next (uar sl_next ⟨oi,hi,ci⟩ hG ?_ (iB _))));show j7 _ _ (fieldsOf (.ref I) >>= _) _ _ s;refine a8 (ufl hi di ?_);show j7 _ _ (setEntries a >>= _) _ _ s;refine a8 (udq ho od fit ?_);dsimp only;rw[ug8 (by simp)];show j7 _ _ (setNext a z i ep >>= _) _ _ s;refine a8 (hn _ _ _ ?_);dsimp only;refine a8 (ubm hi di (by simp) (nU hh λ e h' hk ty=>?_));refine a8 (ud6 (T:="StopIteration") (b:=true) ty ufm (c8 (hQ _ λ b o hb e=>hk b o ?_)));exact (j0 _ _ (Ne.symm hb)).trans e
theorem za8 {x:c9}{p:j8}{pl:List Nat}{k:Nat}{hx:Int}(hs:IsSet s.heap a es ep t)(fit:t.fits es.size=true)(hit:IsIt s.heap I a es.size ep i (.ref p))(hp:s.heap.IsTuple p (pl.map λ i=>rawInt (i:Nat)).toArray)
  (hk:pl[i]?=some k) (he:es[k]?=some (hx,x)) (hQ:∀ h',IsIt h' I a es.size ep (i+1) (.ref p)->Heap.SameBut I s.heap h'->Q (some x) { s with heap:=h' }):j7 (p9 prog w) A (pyNext (.ref I)) Q E s:=by
 obtain⟨oi,hi,ci,di⟩:=id hit;obtain⟨o,ho,_,od⟩:=hs;obtain⟨ol,hol,_,nl,hdl⟩:=hp;unfold pyNext;refine a8 (ucq (uaf (name:=v4 "__next__") ⟨oi,hi,ci⟩ sl_next (uar sl_next ⟨oi,hi,ci⟩ hG ?_ (iB _))));show j7 _ _ (fieldsOf (.ref I) >>= _) _ _ s;refine a8 (ufl hi di ?_);show j7 _ _ (setEntries a >>= _) _ _ s;refine a8 (udq ho od fit ?_);dsimp only;rw[ug8 (by simp)];show j7 _ _ (seqItems? (.ref p) >>= _) _ _ s;refine a8 (ua3 hol hdl ?_);have ek:(pl.map λ i=>rawInt (i:Nat)).toArray[i]?=some (.int k 0):=by rw[uey,l7,hk];rfl
 simp only [v5,ek];show j7 _ _ (setNextDrawn a k ep >>= _) _ _ s;refine a8 ?_;unfold setNextDrawn;refine a8 (udh ho od fit ?_);dsimp only;rw[ug8 (by simp),he];refine c8 (a8 (ubm hi di (by simp) (c8 ⟨x,rfl,c8 (hQ _ hit.set1 (ubz ..))⟩)))
theorem zc4 {p:j8}{pl:List Nat}(hh:A.handled=none)(hs:IsSet s.heap a es ep t)(fit:t.fits es.size=true)(hit:IsIt s.heap I a es.size ep i (.ref p))(hp:s.heap.IsTuple p (pl.map λ i=>rawInt (i:Nat)).toArray)
  (hk:pl[i]?=none) (hQ:∀ h',(∀ b o,b≠I->s.heap.get? b=some o->h'.get? b=some o)->Q none { s with heap:=h' }):j7 (p9 prog w) A (pyNext (.ref I)) Q E s:=by
 obtain⟨oi,hi,ci,di⟩:=id hit;obtain⟨o,ho,_,od⟩:=hs;obtain⟨ol,hol,_,nl,hdl⟩:=hp;unfold pyNext;refine a8 (ucq (uaf (name:=v4 "__next__") ⟨oi,hi,ci⟩ sl_next (uar sl_next ⟨oi,hi,ci⟩ hG ?_ (iB _))));show j7 _ _ (fieldsOf (.ref I) >>= _) _ _ s;refine a8 (ufl hi di ?_);show j7 _ _ (setEntries a >>= _) _ _ s;refine a8 (udq ho od fit ?_);dsimp only;rw[ug8 (by simp)];show j7 _ _ (seqItems? (.ref p) >>= _) _ _ s;refine a8 (ua3 hol hdl ?_);have ek:(pl.map λ i=>rawInt (i:Nat)).toArray[i]?=none:=by rw[uey,l7,hk];rfl
 simp only [v5,ek];refine a8 (ubm hi di (by simp) ?_);obtain⟨o1,hi1,ci1,di1⟩:=id (hit.set0 (rawInt 0));refine a8 (ubm hi1 di1 (by simp) (nU hh λ e h' hk ty=>?_));refine a8 (ud6 (T:="StopIteration") (b:=true) ty ufm (c8 (hQ _ λ b o hb e=>hk b o ?_)));exact (j0 _ _ (Ne.symm hb)).trans ((j0 _ _ (Ne.symm hb)).trans e)
end
end
end Stb
namespace Stb
open PySem PyProof.Rows
theorem pI:Slot "set_iterator" "__iter__" "set_iterator.__iter__":=.of (owner:="set_iterator") (n:="__iter__") (by rw[typeLookup_type,ufb];kernel_rfl) (by symm) (by symm) (by symm) (by first | exact .inl (by symm) | exact .inr (by symm)) (by rw[isSubtype_type];kernel_rfl)
theorem zb4:entryFor table "set_iterator.__iter__"=some Builtin.«dict_keyiterator.__iter__»:=entryFor_alias (id':="dict_keyiterator.__iter__") (by kernel_rfl) (by first | rfl | decide +kernel | (unfold String.splitOn;simp +decide [String.splitOnAux])) (by symm) (by kernel_rfl)
theorem zdy (a:c9):argsOk "set_iterator.__iter__" ⟨[a],[]⟩:=by
 unfold argsOk;rw[signature?_of (id:="set_iterator.__iter__") (n:=['_','_','r','e','t','i','_','_']) (o:=['r','o','t','a','r','e','t','i','_','t','e','s']) (by kernel_rfl) pQ];kernel_rfl
section
variable {prog:n0}{w:uak}{A:uaj}{E:c9->d8->Prop}{s:d8}{a I:j8}{es:Array (Int × c9)}{ep:Nat}{t:SetTable}
theorem zO {Q:c9->d8->Prop}{n i:Nat}{f:c9}(hit:IsIt s.heap I a n ep i f)(h:Q (.ref I) s):j7 (p9 prog w) A (pyIter (.ref I)) Q E s:=by
 obtain⟨oi,hi,ci,di⟩:=id hit;refine wpAny_pyIter_slot ⟨oi,hi,ci⟩ pI (uar pI ⟨oi,hi,ci⟩ zb4 ?_ (zdy _));show j7 _ _ (ret (.ref I)) _ _ s;exact c8 ⟨A,"set_iterator",_,⟨oi,hi,ci⟩,sl_next.lookup,h⟩
def fpK (I a:j8):Knd->List j8
 | .drawn p _=>[I,a,p]
 | _=>[I,a]
def StK (w:uak)(a I:j8)(es:Array (Int × c9))(ep:Nat)(t:SetTable)(ord:List (Int × c9))(kd:Knd)(i:Nat)(h:Heap):Prop :=
 IsSet h a es ep t/\∃ first,IsIt h I a es.size ep i first/\First w a es ep t ord i h first kd
theorem kS (I a:j8):∀ kd,I∈fpK I a kd/\a∈fpK I a kd
 | .text=>by simp [fpK]
 | .drawn _ _=>by simp [fpK]
 | .places=>by simp [fpK]
theorem zan {ord:List (Int × c9)}{kd:Knd}(hh:A.handled=none)(aI:a≠I)(fit:t.fits es.size=true)(ti:TI (ledOf w) t)(hpI:∀ p pl,kd=.drawn p pl->p≠I)(pm:ord.Perm es.toList) :
  Walks prog w A I (fpK I a kd) [I] ord.length (λ i v=>∃ e,ord[i]?=some e/\v=e.2) (StK w a I es ep t ord kd) where
 sub:=λ b hb=>by simp at hb;rw[hb];exact (kS I a kd).1
 frame:=λ i h h' st hk=>by
  obtain⟨⟨o,ho,r⟩,f,⟨oi,hi,ri⟩,fk⟩:=st;refine⟨⟨o,hk a (kS I a kd).2 o ho,r⟩,f,⟨oi,hk I (kS I a kd).1 oi hi,ri⟩,?_⟩;cases kd with
  | text=>exact fk
  | places=>exact fk
  | drawn p pl =>
   obtain⟨e,⟨op,hp,rp⟩,rest⟩:=fk;exact⟨e,⟨op,hk p (by simp [fpK]) op hp,rp⟩,rest⟩
 self:=λ i s Q E st hQ=>by
  obtain⟨_,f,hit,_⟩:=st;exact zO hit hQ
 item:=λ i s Q E hi st hQ=>by
  obtain⟨hs,f,hit,fk⟩:=st;have hsK:∀ h',Heap.SameBut I s.heap h'->IsSet h' a es ep t:=λ h' sb=>by
   obtain⟨o,ho,r⟩:=hs;exact⟨o,sb.extBut a o aI ho,r⟩
  have kp:∀ h',Heap.SameBut I s.heap h'->∀ b o,b∉[I]->s.heap.get? b=some o->h'.get? b=some o:=λ h' sb b o hb e=>sb.extBut b o (λ z=>hb (by simp [z])) e;have oi:ord[i]?=some ord[i]:=c7 hi;cases kd with
  | text =>
   obtain⟨hl,eo,z,rfl⟩:=fk;have ei:(pickOrder (w.params.setOrder a ep) es)[i]?=some ord[i]:=by rw[← ubw,← eo];exact oi
   refine oP (x:=ord[i].2) (nx:=z) hs fit hit (λ A' Q' E' q=>mQ hs fit hl ?_) λ h' hit' sb=>hQ _ h' s.toks ⟨_,oi,rfl⟩ ⟨hsK h' sb,_,hit',hl,eo,z,rfl⟩ (kp h' sb);rw[ei];exact q
  | places =>
   obtain⟨hl,hp,eo,z,rfl,eb⟩:=fk;have ei:es[i]?=some ord[i]:=by rw[← ubw,← eo];exact oi
   have szp:t.place.size=es.size:=by
    simp only [SetTable.fits,uaa,beq_iff_eq] at fit;exact fit.1
   have il:i<t.place.size:=by rw[szp];exact (ual.mp ei).1
   have ep':t.place[i]?=some t.place[i]:=ubb il;refine oP (x:=ord[i].2) (nx:=t.place[i]+1) hs fit hit (λ A' Q' E' q=>lM hs fit ti hl hp ?_) λ h' hit' sb=>hQ _ h' s.toks ⟨_,oi,rfl⟩ ⟨hsK h' sb,_,hit',hl,hp,eo,_,rfl,yB _ ti.1 ep'⟩ (kp h' sb);rw[eb,ei,ep'];exact q
  | drawn p pl =>
   obtain⟨rfl,hp,el,hj⟩:=fk;have il:i<pl.length:=el ▸ hi;obtain⟨e,ek,eo⟩:=hj i _ (c7 il);obtain⟨hx,x⟩:=e;refine za8 (x:=x) hs fit hit hp (c7 il) ek λ h' hit' sb=>hQ _ h' s.toks ⟨_,eo,rfl⟩ ⟨hsK h' sb,_,hit',rfl,?_,el,hj⟩ (kp h' sb);obtain⟨op,hop,rp⟩:=hp;exact⟨op,sb.extBut p op (hpI p pl rfl) hop,rp⟩
 done:=λ s Q E st hQ=>by
  obtain⟨hs,f,hit,fk⟩:=st;have lo:ord.length=es.size:=by rw[pm.length_eq,ua7]
  have kp:∀ h':Heap,(∀ b o,b≠I->s.heap.get? b=some o->h'.get? b=some o)->∀ b o,b∉[I]->s.heap.get? b=some o->h'.get? b=some o:=λ h' k b o hb e=>k b o (λ z=>hb (by simp [z])) e;cases kd with
  | text =>
   obtain⟨hl,eo,z,rfl⟩:=fk;refine pX hh hs fit hit (λ A' Q' E' q=>mQ hs fit hl ?_) λ h' k=>hQ h' s.toks (kp h' k);have:(pickOrder (w.params.setOrder a ep) es)[ord.length]?=none:=by rw[← ubw,← eo,x9 (i6 _)]
   rw[this];exact q
  | places =>
   obtain⟨hl,hp,eo,z,rfl,eb⟩:=fk;refine pX hh hs fit hit (λ A' Q' E' q=>lM hs fit ti hl hp ?_) λ h' k=>hQ h' s.toks (kp h' k);have:es[ord.length]?=none:=by rw[lo];simp
   rw[eb,this];exact q
  | drawn p pl =>
   obtain⟨rfl,hp,el,hj⟩:=fk;exact zc4 hh hs fit hit hp (by rw[el,x9 (i6 _)]) λ h' k=>hQ h' s.toks (kp h' k)
end
end Stb
namespace Stb
open PySem PyProof.Rows
section
variable {prog:n0}{w:uak}{A:uaj}{E:c9->d8->Prop}{s:d8}{a:j8}{es:Array (Int × c9)}{ep:Nat}{t:SetTable}
theorem zbu {Q:Bool->d8->Prop}(hs:IsSet s.heap a es ep t)(fit:t.fits es.size=true)(h:Q (ledOf w&&(!t.plain&&decide (es.size>1))) s):j7 (p9 prog w) A (setDrawn a) Q E s:=by
 obtain⟨o,ho,_,od⟩:=hs;unfold setDrawn setsByText;refine a8 (udh ho od fit ?_);exact a8 (a8 (udl (c8 (c8 h))))
theorem zbs {Q:c9->d8->Prop}(hs:IsSet s.heap a es ep t)(fit:t.fits es.size=true)(ti:TI (ledOf w) t)(small:es.size<=4096)
  (h:∀ (I:j8)(h':Heap)(d':Drawn)(ord:List (Int × c9))(kd:Knd),(∀ b o,s.heap.get? b=some o->h'.get? b=some o)->s.heap.objs.size<=I->(∀ p pl,kd=.drawn p pl->p≠I/\s.heap.objs.size<=p)->ord.Perm es.toList->StK w a I es ep t ord kd 0 h' ->
   Q (.ref I) { s with heap:=h',drawn:=d' }):j7 (p9 prog w) A (pyIter (.ref a)) Q E s:=by
 obtain⟨o,ho,oc,od⟩:=id hs;refine wpAny_pyIter_slot ⟨o,ho,oc⟩ ugs (uar ugs ⟨o,ho,oc⟩ zdu ?_ (PySem.F.args_set_iter_1 _));unfold Builtin.«frozenset.__iter__» Builtin.Frozenset.sizeOf;show j7 _ _ ((setEntries a >>= λ x=>pure x.size) >>= _) _ _ s;refine a8 (a8 (udq ho od fit (c8 (a8 (zbu hs fit ?_)))));have lastT : ∀ (h1 : Heap)(first : c9)(d' : Drawn)(ord : List (Int × c9))(kd : Knd), (∀ b o, s.heap.get? b = some o → h1.get? b = some o) → s.heap.objs.size <= h1.objs.size → (∀ p pl, kd = .drawn p pl → p<h1.objs.size /\ s.heap.objs.size <= p) → ord.Perm es.toList → (∀ h', (∀ b o, h1.get? b = some o → h'.get? b = some o) → First w a es ep t ord 0 h' first kd) →
     j7 (p9 prog w) A.in1 (setEpoch a >>= λ e=>newFields "set_iterator" [first,rawInt 0,.ref a,rawInt es.size,rawInt e] >>= λ v=>ret v) (λ fin s'=>∃ v,fin=.done (.ret v)/\∃ T' r,s'.TypeIs v T'/\typeLookup (.type T') (v4 "__next__")=pure (some r)/\Q v s') E { s with heap:=h1,drawn:=d' }:=λ h1 first d' ord kd hk sz hp pm hf=>by
  refine a8 (wpAny_setEpoch_of (hk a o ho) od fit (a8 (v8 (c8 ⟨A,"set_iterator",_,⟨_,i7 _ rfl,rfl⟩,sl_next.lookup,?_⟩))));exact h _ _ d' ord kd (λ b o e=>a9 _ (hk b o e)) sz (λ p pl e=>⟨l6 (hp p pl e).1,(hp p pl e).2⟩) pm ⟨⟨o,a9 _ (hk a o ho),oc,od⟩,first,⟨_,i7 _ rfl,rfl,rfl⟩,hf _ λ b o e=>a9 _ e⟩
 dsimp only;have es0:s={ s with heap:=s.heap,drawn:=s.drawn }:=by cases s;rfl
 by_cases c:(ledOf w&&(!t.plain&&decide (es.size>1)))=true
 ·rw[ug7 c];refine a8 (uU _ _ _ _ (by simp) λ ys d' pm=>?_);have yl:ys.length=es.size:=by rw[pm.length_eq,t5]
  have line:es.size<=o7:=by rw[ucm];left
  refine a8 (v8 ?_ (by show (ys.map λ i=>rawInt (i:Nat)).toArray.size<=o7;simpa [yl] using line));have ordE:∀ k∈ys,∃ e,es[k]?=some e:=λ k hk=>by
   have:k<es.size:=by simpa using pm.mem_iff.mp hk
   exact⟨_,ubb this⟩
  have fm:∀ l:List Nat,(∀ k∈l,∃ e,es[k]?=some e)->(l.filterMap (es[·]?)).length=l.length/\∀ j k:Nat,l[j]?=some k->∃ e,es[k]?=some e/\(l.filterMap (es[·]?))[j]?=some e:=λ l=>by
   induction l with
   | nil=>exact λ _=>⟨rfl,λ j k e=>by simp at e⟩
   | cons x l ih =>
    intro hx;obtain⟨e,he⟩:=hx x (by simp);obtain⟨h1,h2⟩:=ih λ k hk=>hx k (l9 _ hk);rw[ugx (b:=e) he];refine⟨by simp [h1],λ j k ej=>?_⟩;cases j with
    | zero=>simp at ej;subst ej;exact⟨e,he,rfl⟩
    | succ j=>simp only [List.getElem?_cons_succ] at ej ⊢;exact h2 j k ej
  obtain⟨f1,f2⟩:=fm ys ordE;refine lastT _ (.ref s.heap.objs.size) d' (ys.filterMap (es[·]?)) (.drawn s.heap.objs.size ys) (λ b o e=>a9 _ e) (by rw[uaq];exact ubv _) (λ p pl e=>by cases e;rw[uaq];exact⟨ubu _,i6 _⟩) ?_ λ h' k=>⟨rfl,⟨_,k _ _ (i7 _ rfl),rfl,_,rfl⟩,f1,f2⟩;exact (pm.filterMap _).trans (by rw[filterMap_getElem?_range])
 ·rw[ug8 c];refine a8 (c8 ?_);cases cl:ledOf w with
  | false =>
   rw[es0];exact lastT s.heap (rawInt 0) s.drawn _ .text (λ _ _ e=>e) (i6 _) (λ p pl e=>nomatch e) (yR _ es) λ h' k=>⟨cl,rfl,0,rfl⟩
  | true =>
   rw[es0];refine lastT s.heap (rawInt 0) s.drawn es.toList .places (λ _ _ e=>e) (i6 _) (λ p pl e=>nomatch e) (.refl _) λ h' k=>⟨cl,?_,rfl,0,rfl,yA _ ti.1⟩;rw[cl] at c;cases pl:t.plain with
   | true=>exact .inl rfl
   | false=>rw[pl] at c;exact .inr (by simpa using c)
theorem zbv {Q:Bool->d8->Prop}(hT:s.TypeIs (.ref a) "set")(h:Q false s):j7 (p9 prog w) A (Builtin.List.listLengthHint (.ref a)) Q E s:=by
 unfold Builtin.List.listLengthHint;refine a8 (wpAny_specialOf hT PySem.F.slot_set_len.lookup ?_);generalize hid:("set.__len__":String)=id0
 wp_delta
 rw[show splitId id0=some ("set","__len__") from by subst hid;decide +kernel];subst hid;refine a8 (ud6 (T:="set") (b:=true) hT (by rw[isSubtype_type];kernel_rfl) (uef (λ z=>absurd z (by decide)) λ _=>?_));refine uef (λ _=>a8 (uc5 hT (c8 h))) (λ z=>absurd (by symm) z)
theorem jU:∀ l:List (Int × c9),ElemsOf (intKind prog w) l->∃ ks,IntsAre (l.map (·.2)) ks/\ks.length=l.length/\∀ k,k∈ks↔∃ e∈l,(intKind prog w).is k e.2=true
 | [],_=>⟨[],.nil,rfl,λ k=>by simp⟩
 | e::l,h=>by
  obtain⟨ks,h1,h2,h3⟩:=jU l h.tail;obtain⟨⟨k,hk,_⟩,_⟩:=h.head;obtain⟨hx,x⟩:=e;obtain⟨u,rfl⟩:=Value.isInt_shape hk;refine⟨k::ks,.cons k u h1,by simp [h2],λ y=>?_⟩;rw[j4,h3 y];constructor
  ·rintro (rfl | ⟨e,he,q⟩)
   ·exact⟨_,j3,hk⟩
   ·exact⟨e,l9 _ he,q⟩
  ·rintro ⟨e,he,q⟩;rcases j4.mp he with rfl | he
   ·exact .inl ((intKind prog w).inj _ _ _ q hk)
   ·exact .inr ⟨e,he,q⟩
theorem zdr {ord:List (Int × c9)}{acc:Array c9}(h:ItemsOf (λ i v=>∃ e,ord[i]?=some e/\v=e.2) acc ord.length):acc.toList=ord.map (·.2):=by
 refine uep (by simp [h.1]) λ i h1 h2=>?_;have hi:i<acc.size:=by simpa using h1
 obtain⟨e,e1,e2⟩:=h.2 i _ (ubb hi);have hi2:i<ord.length:=by simpa using h2
 rw[c7 hi2] at e1;cases e1;simpa using e2
theorem wP {Q:List c9->d8->Prop}{S:Int->Bool}{n:Nat}(hh:A.handled=none)(st:SetT prog w s.heap a S n)
  (hQ:∀ (h':Heap)(tk:Nat)(d':Drawn)(vs:List c9)(ks:List Int),(∀ b o,s.heap.get? b=some o->h'.get? b=some o)->IntsAre vs ks->ks.length=n->(∀ k,S k=true↔k∈ks)->Q vs { s with heap:=h',toks:=tk,drawn:=d' }) :
  j7 (p9 prog w) A (collect (.ref a)) Q E s:=by
 obtain⟨⟨o,es,ep,t,ho,ox,od,el,me,small,fit,en⟩,o',es',ep',t',ho',od',ti⟩:=st;rw[ho] at ho';cases ho';rw[od] at od';cases od';unfold collect;refine a8 (ufk (uaz uft ?_));rw[Around.under_plainId ufs _];show j7 _ A.in1 (newList [] >>= λ l=>again (.builtin "list.__iadd__" ⟨[l,.ref a],[]⟩)) _ _ s;refine a8 (v8 ?_);refine c8 ⟨ubq udk _,uaz uge ?_⟩;rw[Around.under_plainId udk _];show j7 _ A.in1 (Builtin.List.listExtendWith (.ref s.heap.objs.size) (.ref a) (.ref s.heap.objs.size)) _ _ _;have alt:a<s.heap.objs.size:=i9 ho;have hS:(s.heap.push { cls:=.type "list",data:=.seq ([]:List c9).toArray }).get? s.heap.objs.size=some { cls:=.type "list",data:=.seq #[] }:=i7 _ rfl;have szL:(s.heap.push { cls:=.type "list",data:=.seq ([]:List c9).toArray }).objs.size=s.heap.objs.size+1:=uaq ..;unfold Builtin.List.listExtendWith;have tS:Shared.TypeIs { s with heap:=s.heap.push { cls:=.type "list",data:=.seq ([]:List c9).toArray } } (.ref a) "set":=⟨o,a9 _ ho,ox.1⟩;refine a8 (uc5 (T:="set") tS ?_);have h1:Builtin.List.listSameRef (.ref s.heap.objs.size) (.ref a)=false:=by simp only [Builtin.List.listSameRef,beq_eq_false_iff_ne];exact ubh alt
 have h2:(Value.type "set"==Value.type "list")=false:=by decide
 have h3:(Value.type "set"==Value.type "tuple")=false:=by decide
 simp only [h1,h2,h3,Bool.or_false,ua4,if_false];refine a8 (zbs (t:=t) ⟨o,a9 _ ho,ox.1,od⟩ fit ti (ue3 small) λ I h1 d1 ord kd hk lI hp pm stk=>?_);refine a8 (uae (zbv ⟨o,hk a o (a9 _ ho),ox.1⟩ ?_));refine uef (λ _=>?_) (λ z=>absurd (by decide) z);refine a8 (uc2 ?_);refine a8 ?_;show j7 _ _ (updateSeq s.heap.objs.size (·.push .none) >>= λ _=>updateSeq s.heap.objs.size (·.pop)) _ _ _;have g1:=hk _ _ hS;refine a8 (uc1 g1 rfl ?_);have g2:=uag (Obj.mapSeq (·.push Value.none)) g1 rfl;refine uc1 (hz:=by seq_fits) g2 rfl ?_;have g3:=uag (Obj.mapSeq (·.pop)) g2 rfl;have neI:s.heap.objs.size≠I:=l6 (o0 (by rw[szL];exact ubu _) lI);have nfp:s.heap.objs.size∉fpK I a kd:=by
  cases kd with
  | text=>simp only [fpK,j4,m7,or_false,not_or];exact⟨neI,ubh alt⟩
  | places=>simp only [fpK,j4,m7,or_false,not_or];exact⟨neI,ubh alt⟩
  | drawn p pl =>
   simp only [fpK,j4,m7,or_false,not_or];exact⟨neI,ubh alt,l6 (o0 (by rw[szL];exact ubu _) (hp p pl rfl).2)⟩
 have aI:a≠I:=l6 (o0 (by rw[szL];exact ubf alt) lI);have W:=zan (prog:=prog) (w:=w) (A:=A.in1) (ep:=ep) (ord:=ord) (kd:=kd) hh aI fit ti (λ p pl e=>(hp p pl e).1) pm;have kU:∀ b o,b≠s.heap.objs.size->h1.get? b=some o->((h1.update s.heap.objs.size (Obj.mapSeq (·.push Value.none))).update s.heap.objs.size (Obj.mapSeq (·.pop))).get? b=some o:=λ b o hb e =>
  (j0 _ _ (Ne.symm hb)).trans ((j0 _ _ (Ne.symm hb)).trans e)
 have st1:=W.frame 0 _ _ stk λ b hb o e=>kU b o (λ z=>nfp (z ▸ hb)) e;have lo:ord.length=n:=by rw[pm.length_eq,ua7,en]
 refine c8 ⟨ubq PySem.F.plain_extend_loop _,codeAny_extend_loopS W.toS (by rw[lo,← en];exact ugb small) s.heap.objs.size nfp _ ord.length 0 _ #[] _ rfl (x8 _) st1 g3 (ItemsOf.nil _) λ s' acc' c' hm hS' hacc=>?_⟩;rw[Moved.eq_with hm];refine a8 (wpAny_load hS' (c8 ?_));obtain⟨ks,i1,i2,i3⟩:=jU (prog:=prog) (w:=w) ord (el.perm pm);rw[zdr hacc];refine hQ _ _ _ _ ks (λ b o e=>hm.heap b o ?_ (kU b o (l6 (i9 e)) (hk b o (a9 _ e)))) i1 (i2.trans lo) λ k=>(me k).trans ?_
 ·simp only [j4,m7,or_false,not_or];have:=i9 e;exact⟨l6 this,l6 (o0 (by rw[szL];exact ubf this) lI)⟩
 ·rw[i3 k];exact⟨λ ⟨e,he,q⟩=>⟨e,pm.mem_iff.mpr he,q⟩,λ ⟨e,he,q⟩=>⟨e,pm.mem_iff.mp he,q⟩⟩
end
end Stb
namespace Srt
open PySem PySem.Spec PyProof.Rows PySem.W
section
variable {prog:n0}{w:uak}{A:uaj}{E:c9->d8->Prop}{s:d8}
theorem vW {x:c9}{Q:c9->d8->Prop}{Good:List c9->d8->Prop}
  (hcol:∀ (A':uaj)(E':c9->d8->Prop)(Q':List c9->d8->Prop),A'.handled=A.handled->(∀ vs s',Good vs s'->Q' vs s')->j7 (p9 prog w) A' (collect x) Q' E' s)
  (hg:∀ vs s1,Good vs s1->∃ (r:Nat->Int)(κ:SortKind),vs.length<64/\(2<=vs.length->∀ (A':uaj)(s':d8)(Q:SortKind->d8->Prop),Q κ s'->j7 (p9 prog w) A' (keyKind' vs.toArray) Q (λ _ _=>False) s') /\
   (∀ (A':uaj)(s':d8)(i j:Nat)(C:Bool->d8->Prop),i<vs.length->j<vs.length->C (decide (r i<r j)) s'->kas_ask prog w A' κ vs i j C s') /\
   ∀ (p:Array Nat)(h':Heap)(c:Nat),Gd vs.length p->Up r p vs.length->(∀ b o,s1.heap.get? b=some o->h'.get? b=some o)->h'.get? s1.heap.objs.size=some (seqObj "list" (outOf vs p).toArray c)->Q (.ref s1.heap.objs.size) { s1 with heap:=h' }) :
  j7 (p9 prog w) A (call (.builtin "sorted") [x]) Q E s:=by
 have line:(64:Nat)<=o7:=by rw[ucm];decide
 refine Calls.call_function_entry kind_sorted plain_sorted entry_sorted (args_sorted1 _) ?_;unfold Builtin.«sorted»;refine a8 (m:=checkCount "sorted" 1 1 _) (c8 (a8 (hcol _ _ _ rfl λ vs s1 g=>?_)));obtain⟨r,κ,h64,hk,hc,h⟩:=hg vs s1 g;refine a8 (udy ?_ (by left));have hoL:(s1.heap.push { cls:=.type "list",data:=.seq vs.toArray }).get? s1.heap.objs.size=some (seqObj "list" vs.toArray 0):=i7 _ rfl;have ne2:∀ b o,s1.heap.get? b=some o->b≠s1.heap.objs.size:=λ b o q=>l6 (i9 q);show j7 _ _ _ _ _ { s1 with heap:=s1.heap.push { cls:=.type "list",data:=.seq vs.toArray } };refine a8 (uae (uar slot_list_sort ⟨_,hoL,rfl⟩ entry_list_sort ?_ (args_list_sort _)));refine lsort (s:={ s1 with heap:=s1.heap.push { cls:=.type "list",data:=.seq vs.toArray } }) (r:=r) (κ:=κ) hoL h64 (λ h2 s' Q' st q=>hk h2 _ s' Q' q) (λ s' i j C st hi hj q=>hc _ s' i j C hi hj q) λ p h' c g1 u1 st e=>⟨_,rfl,?_⟩;exact c8 ⟨A,h p h' c g1 u1 (λ b o q=>st b o (ne2 b o q) (a9 _ q)) e⟩
end
end Srt
namespace L3
open PySem PySem.Spec PyProof.Rows L2
def SetO (P:n0)(w:uak)(a:j8)(S:Int->Bool)(n:Nat):HO:=.ext λ h=>Stb.SetT P w h a S n
section
variable {X:Cx}
theorem vE (hh:X.calm=true):CallR X (.builtin "sorted") (λ xs H Q=>∃ (p:j8)(S:Int->Bool)(n:Nat),xs=[.ref p]/\H p=some (SetO X.prog X.w p S n)/\n<64/\∀ ms:List Int,ms.length=n->(∀ k,S k=true↔k∈ms)->ms.Pairwise (·<=·)->∀ l H',Same H H'->H l=none->H' l=some (.lst (ms.map V.int))->Q (.ref l) H'):=by
 intro pins s σ H xs us Q I r h;obtain⟨p,S,n,rfl,hp,h64,q⟩:=h;obtain⟨u,rfl,rx⟩:=vals1 r;cases rx;have hS:Stb.SetT X.prog X.w s.heap p S n:=(show ObjOk X.prog X.w H s.heap p (SetO X.prog X.w p S n) from I.hok p _ hp).1;refine Srt.vW (Good:=λ vs s1=>∃ (h1:Heap)(tk:Nat)(d':Drawn)(ns:List Int),s1={ s with heap:=h1,toks:=tk,drawn:=d' }/\(∀ b o,s.heap.get? b=some o->h1.get? b=some o)/\IntsAre vs ns/\ns.length=n/\∀ k,S k=true↔k∈ns)
  (λ A' E' Q' eh hQ=>Stb.wP (eh.trans (I.ok.hd hh)) hS λ h1 tk d' vs ns hk hI hl hm=>hQ vs _ ⟨h1,tk,d',ns,rfl,hk,hI,hl,hm⟩) λ its s1 g=>?_
 obtain⟨gg,tk,d',ns,rfl,kg,hI,hn,hm⟩:=g;have hl:its.length=ns.length:=by
  clear hn hm;induction hI with
  | nil=>rfl
  | cons n t _ ih=>simp [ih]
 refine⟨λ i=>ns.getD i 0,oneType',by left,λ h2 A' s' Q' q'=>Srt.oO hI h2 q',λ A' s' i j C hi hj q'=>Srt.pY hI hi hj q',λ pp h' c g u kp e=>?_⟩;have g':Srt.Gd ns.length pp:=by rw[← hl];exact g
 have u':Srt.Up (λ i=>ns.getD i 0) pp ns.length:=by rw[← hl];exact u
 have pm:(pp.toList.map λ i=>ns.getD i 0).Perm ns:=by
  have:=jW g' λ i=>ns.getD i 0;rw[bX] at this;exact this
 have pw:(pp.toList.map λ i=>ns.getD i 0).Pairwise (·<=·):=by
  rw[uce];exact jM g' u' λ i j _ _ z=>z
 have I1:Inv X pins σ H { s with heap:=gg,toks:=tk,drawn:=d' }:=by
  have:=I.kept (t':=tk) kg;exact⟨this.ok,this.os,this.bare,this.base,this.loc,this.cell,this.free,this.freeC,this.pin,this.hok,this.len⟩
 have fr:H gg.objs.size=none:=I1.hok.fresh (i6 _);have ev:((pp.toList.map λ i=>ns.getD i 0).map V.int)=pp.toList.map λ i=>(ns.map V.int).getD i .non:=by
  rw[ua5];refine ucy λ i hi=>?_;have:=eQ g' i hi;simp [uca,this]
 have rv:Vals (ns.map V.int) its:=by
  clear hn hm g' u' pm pw ev hl g u e kp;induction hI with
  | nil=>exact .nil
  | cons n t _ ih=>exact .cons ⟨t,rfl⟩ ih
 refine⟨.ref gg.objs.size,_,I1.laid (a:=gg.objs.size) (o:=.lst ((pp.toList.map λ i=>ns.getD i 0).map V.int)) (t':=tk) kp (i6 _) ⟨?_,Srt.outOf its pp,c,?_,e⟩,rfl,q _ (pm.length_eq.trans hn) (λ k=>(hm k).trans pm.mem_iff.symm) pw _ _ (aP fr) fr aM⟩
 ·have:=pm.length_eq;have line:(64:Nat)<=o7:=by rw[ucm];decide
  rw[i5,this];left
 ·rw[ev];exact gJ rv pp.toList λ i hi=>by rw[i5];exact eQ g' i hi
end
theorem fY (val:Nat->Int):∀ i,(firstMet val i).Nodup/\∀ k,k∈firstMet val i↔k∈(d7 i).map val
 | 0=>⟨by rw[firstMet_zero];exact List.nodup_nil,λ k=>by rw[firstMet_zero];simp⟩
 | i+1=>by
  obtain⟨h1,h2⟩:=fY val i;rw[firstMet_succ,uba,ub2];unfold step_dedup;by_cases c:(firstMet val i).any (λ y=>y==val i)=true
  ·rw[ug7 c];obtain⟨y,hy,e⟩:=ucn.mp c;have e':y=val i:=by simpa using e
   refine⟨h1,λ k=>?_⟩;rw[h2 k,w8];refine⟨.inl,λ z=>z.elim id λ z=>?_⟩;have:k=val i:=by simpa using z
   rw[this,← e',← h2 y];exact hy
  ·rw[ug8 c];refine⟨ufo.mpr ⟨h1,by simp,λ a ha b hb e=>c (ucn.mpr ⟨a,ha,?_⟩)⟩,λ k=>by rw[w8,w8,h2 k];simp⟩;have:b=val i:=by simpa using hb
   simp [e,this]
theorem lK:∀ {l m:List Int},l.Nodup->(∀ x∈l,x∈m)->m.length<=l.length->m.Perm l
 | [],m,_,_,h=>by
  have:m=[]:=ucc.mp (by simpa using h);rw[this]
 | x::l,m,nd,sub,h=>by
  have hx:=sub x j3;obtain⟨nx,nl⟩:=ub1.mp nd;have pe:=udd hx;refine pe.trans (List.Perm.cons x (lK nl (λ y hy=>?_) ?_))
  ·exact (List.mem_erase_of_ne λ e=>nx (by rw[← e];exact hy)).mpr (sub y (l9 _ hy))
  ·rw[List.length_erase_of_mem hx];simp at h;left
theorem nW (ns:List Int)(k:Int):HT.setS ns ns.length k=true↔k∈ns:=by
 have:=(fY (λ i=>ns.getD i 0) ns.length).2 k;rw[bX] at this;rw[← this];unfold HT.setS;rw[ucn];exact⟨λ ⟨y,hy,e⟩=>by rw[← show y=k by simpa using e];exact hy,λ h=>⟨k,h,by simp⟩⟩
theorem za1 {ns ms:List Int}(hl:ms.length=HT.setN ns ns.length)(hm:∀ k,HT.setS ns ns.length k=true↔k∈ms):ms.Nodup/\∀ k,k∈ms↔k∈ns:=by
 obtain⟨n1,n2⟩:=fY (λ i=>ns.getD i 0) ns.length;rw[bX] at n2;have pm:=lK (m:=ms) n1 (λ x hx=>(hm x).mp ((nW ns x).mpr ((n2 x).mp hx))) (ubi hl);exact⟨pm.nodup_iff.mpr n1,λ k=>(hm k).symm.trans (nW ns k)⟩
section
variable {g:TG}{tt:TT}{te:TE}{own:List Str}{js:List Nat}{σ:L2.St}{H1:Hp}{Q:VK}
end
def RowV (lo hi:Nat)(J:Hp)(v:V):Prop:=∃ (p:j8)(ns:List Int),v=.ref p/\J p=some (.tup (ns.map V.int))/\lo<=ns.length/\ns.length<=hi
mutual
theorem Is.tk {K:b9}{H H':Hp}(e:TupKeep H H'):∀ (d:r8){v:V},tupD d=true->Is K H d v->Is K H' d v
 | .none,_,_,h=>h
 | .bool _,_,_,h=>h
 | .int _,_,_,h=>h
 | .str _,_,_,h=>h
 | .tuple ds,_,t,h=>let ⟨q,vs,q1,q2,q3⟩:=h;⟨q,vs,q1,e _ _ q2,IsAll.tk e ds t q3⟩
 | .list ds,_,t,h=>by cases t
 | .dict _,_,t,h=>by cases t
theorem IsAll.tk {K:b9}{H H':Hp}(e:TupKeep H H'):∀ (ds:List r8){vs:List V},tupAll ds=true->IsAll K H ds vs->IsAll K H' ds vs
 | [],_,_,h=>h
 | d::ds,_,t,h=>by
  have t':(tupD d&&tupAll ds)=true:=t;rw[uaa] at t';obtain⟨v,r,q1,q2,q3⟩:=h;exact⟨v,r,q1,Is.tk e d t'.1 q2,IsAll.tk e ds t'.2 q3⟩
end
end L3
namespace Peel
abbrev T2:=Nat × Nat
def hit (gone:List Nat)(p:Nat)(t:T2):Bool:=(t.1==p&&!gone.contains t.2)||(t.2==p&&!gone.contains t.1)
def deg (ts:List T2)(gone:List Nat)(p:Nat):Nat:=ts.countP (hit gone p)
def may (ts:List T2)(d:Int)(gone:List Nat)(p:Nat):Bool:=!gone.contains p&&decide ((deg ts gone p:Int)<=d)
def next (n:Nat)(ts:List T2)(d:Int)(gone:List Nat):Option Nat:=(d7 n).find? (may ts d gone)
def run (n:Nat)(ts:List T2)(d:Int):Nat->List Nat->List Nat
 | 0,g=>g
 | f+1,g=>match next n ts d g with
  | none=>g
  | some p=>run n ts d f (g++[p])
section
variable {n:Nat}{ts:List T2}{d:Int}{g:List Nat}{p:Nat}
def Good (n:Nat)(g:List Nat):Prop:=g.Nodup/\∀ p∈g,p<n
theorem mU:∀ (n:Nat)(g:List Nat),g.Nodup->(∀ p∈g,p<n)->g.length<=n
 | 0,[],_,_=>i6 _
 | 0,p::_,_,h=>absurd (h p j3) (ud8 _)
 | n+1,g,nd,h=>by
  have h1:=mU n (g.filter λ p=>p != n) (nd.filter _) λ p hp=>by
   have:=ua0.mp hp;have a:=h p this.1;have b:p≠n:=by simpa using this.2
   left
  have e:g.length=(g.filter λ p=>p != n).length+g.countP (λ p=>p==n):=by
   rw[← List.countP_eq_length_filter];have:=List.length_eq_countP_add_countP (λ p=>p==n) (l:=g);have e2:g.countP (λ p=>decide ¬(p==n)=true)=g.countP λ p=>p != n:=List.countP_congr λ x _=>by simp
   rw[e2] at this;left
  have c:g.countP (λ p=>p==n)<=1:=by
   have:=List.nodup_iff_count.mp nd n;exact this
  left
def gone (n:Nat)(ts:List T2)(d:Int):List Nat:=run n ts d n []
end
end Peel
namespace L3
open PySem PySem.Spec PyProof.Rows L2
section
variable {g:TG}{tt:TT}{te:TE}{own:List Str}{js:List Nat}{σ:L2.St}{H1:Hp}{Q:VK}
end
end L3
namespace Lr
open Far (chn eC eY hX iF RingOf)
section
variable {R:Nat->Nat->Prop}
structure Rg (R:Nat->Nat->Prop)(h:Nat)(tl:List Nat):Prop where
 len:2<=tl.length
 nd:(h::tl).Nodup
 ch:chn R (h::tl++[h])
def Cano (h:Nat)(tl:List Nat):Prop:=(∀ v∈tl,h<v)/\∃ x m y,tl=x::(m++[y])/\x<y
def stepW (rows:Nat->List Nat)(w:List Nat):List (List Nat):=((rows (w.getLast?.getD 0)).filter λ o=>decide (w.headD 0<o)&&!decide (o∈w)).map λ o=>w++[o]
def ways (rows:Nat->List Nat)(n:Nat):Nat->List (List Nat)
 | 0=>(d7 n).map λ v=>[v]
 | s+1=>(ways rows n s).flatMap (stepW rows)
structure PW (R:Nat->Nat->Prop)(n:Nat)(w:List Nat):Prop where
 ne:w≠[]
 nd:w.Nodup
 ch:chn R w
 lt:∀ v∈w,v<n
 up:∀ h t,w=h::t->∀ v∈t,h<v
section
variable {rows:Nat->List Nat}{n:Nat}
end
end
end Lr
namespace Lr
open Far (chn eC eY hX iF RingOf)
def lle:List Nat->List Nat->Prop
 | [],_=>True
 | _::_,[]=>False
 | a::l,b::m=>a<b\/(a=b/\lle l m)
section
variable {R:Nat->Nat->Prop}
structure Sh (R:Nat->Nat->Prop)(z v:Nat)(l:List Nat):Prop where
 ch:chn R (v::l)
 last:(v::l).getLast?=some z
 min:∀ l',chn R (v::l')->(v::l').getLast?=some z->l.length<=l'.length
def Ds (R:Nat->Nat->Prop)(z:Nat)(D:Nat->Option Nat):Prop:=∀ v,(∀ m,D v=some m->∃ l,chn R (v::l)/\(v::l).getLast?=some z/\l.length=m)/\∀ l,chn R (v::l)->(v::l).getLast?=some z->∃ m,D v=some m/\m<=l.length
def Rm (R:Nat->Nat->Prop)(a b u v:Nat):Prop:=R u v/\¬ (u=a/\v=b)/\¬ (u=b/\v=a)
end
end Lr
namespace Lr
open Far (chn eC eY hX iF RingOf)
structure Ties (R:Nat->Nat->Prop)(ks:List Nat)(ends:Nat->Nat × Nat):Prop where
 sy:∀ u v,R u v->R v u
 of:∀ k∈ks,(ends k).1<(ends k).2/\R (ends k).1 (ends k).2
 to:∀ u v,R u v->u<v->∃ k∈ks,ends k=(u,v)
 up:∀ k∈ks,∀ j∈ks,k<=j->(ends k).1<(ends j).1\/((ends k).1=(ends j).1/\(ends k).2<=(ends j).2)
section
variable {R:Nat->Nat->Prop}{ks:List Nat}{ends:Nat->Nat × Nat}
end
section
variable {R:Nat->Nat->Prop}{rows:Nat->List Nat}{n:Nat}
end
end Lr
namespace L3
open PySem PySem.Spec PyProof.Rows L2
section
variable {own:List Str}{js:List Nat}{g:TG}{te:TE}{σ:L2.St}{Q:VK}{H1:Hp}
end
structure Bes (H:Hp)(l:j8)(as:List j8)(rows:Nat->List V):Prop where
 top:H l=some (.lst (as.map V.ref))
 nd:as.Nodup
 own:l∉as
 row:∀ i a,as[i]?=some a->H a=some (.lst (rows i))
def Uniq (ts:List Tie)(ks:List Nat)(j m:Nat):Prop:=∃ cs:List Nat,cs.Nodup/\cs.length=m/\∀ c∈cs,∃ k∈ks,∃ l,(j,c,l)∈arcs2 (tieAt ts k)
section
variable {X:Cx}
inductive rExtendB_i  (x:V) (vs:List V) (H:Hp) (Q:VK):Prop
 | mk:∀ l b xs zs,(x=.ref l)->(vs=[.ref b])->(H l=some (.lst xs))->(H b=some (.lst zs))->(xs.length+zs.length<=10^7)->(∀ H',But l H H'->H' l=some (.lst (xs++zs))->Q .non H')->rExtendB_i x vs H Q
def rExtendB :V->List V->Hp->VK->Prop:=λ x vs H Q=>rExtendB_i x vs H Q
theorem xN:MtM X "list.extend" rExtendB:=by
 intro pins s σ H x vs v us Q I rx rv h;obtain⟨l,b,xs,zs,rfl,rfl,hH,hB,hz,q⟩:=h;exact mR (X:=X) pins s σ H _ _ v us Q I rx rv ⟨l,b,xs,zs,P,hH,hB,o8 hz (by decide),q _ But.upd aM⟩
end
def Adj (ts:List Tie)(ks:List Nat)(u v:Nat):Prop:=∃ k∈ks,(u,v,(tieAt ts k).2.2)∈arcs2 (tieAt ts k)
def en (ts:List Tie)(k:Nat):Nat × Nat:=((tieAt ts k).1.toNat,(tieAt ts k).2.1.toNat)
section
variable {n:Int}{ts:List Tie}{ks:List Nat}{u v k:Nat}
theorem a2_iff {t:Tie}:(u,v,t.2.2)∈arcs2 t↔(u=t.1.toNat/\v=t.2.1.toNat)\/(u=t.2.1.toNat/\v=t.1.toNat):=by
 rw[arcs2_mem];refine or_congr ⟨λ e=>?_,λ e=>by rw[e.1,e.2]⟩ ⟨λ e=>?_,λ e=>by rw[e.1,e.2]⟩ <;> (injection e with e1 e2;injection e2 with e2 _;exact⟨e1,e2⟩)
theorem zfb (ok:WebOk n ts)(hk:k<ts.length):(en ts k).1<(en ts k).2/\(en ts k).2<n.toNat/\(((en ts k).1:Nat):Int)=(tieAt ts k).1/\(((en ts k).2:Nat):Int)=(tieAt ts k).2.1:=by
 have tk:=ok.tie _ (dB hk).2;unfold en;simp only;left
end
theorem iU {K:b9}{H:Hp}{p:j8}{ks:List Nat}(h:H p=some (.tup (natV ks))):Is K H (keepD ks) (.ref p):=⟨p,A,h,by rw[bM];exact IsAll.ints _⟩
theorem zb7 {ws:List Nat}(h:ws≠[]):cutV (natV ws) none (some (-1))=natV ws.dropLast:=by
 have pos:=udj.mpr h;have len:(natV ws).length=ws.length:=by unfold natV;rw[i5]
 unfold cutV;have h0:HT.sIx (natV ws).length 0 none=0:=rfl;have h1:HT.sIx (natV ws).length (natV ws).length (some (-1))=ws.length-1:=by
  rw[len];unfold HT.sIx;simp;left
 rw[h0,h1,ue8,Nat.sub_zero,List.dropLast_eq_take];unfold natV;rw[uen]
def IsLR (ts:List Tie)(ks:List Nat)(h:Nat)(tl:List Nat):Prop:=Lr.Rg (Adj ts ks) h tl/\Lr.Cano h tl/\(∀ h' tl',Lr.Rg (Adj ts ks) h' tl'->tl.length<=tl'.length)/\∀ h' tl',Lr.Rg (Adj ts ks) h' tl'->Lr.Cano h' tl'->tl'.length=tl.length->Lr.lle (h::tl) (h'::tl')
section
variable {J:It}{g:TG}{tt:TT}{te:TE}{own:List Str}{js:List Nat}{σ:L2.St}{H1:Hp}{Q:VK}
end
end L3
namespace Stb
open PySem PyProof.Rows
section
variable {prog:n0}{w:uak}{A:uaj}{E:c9->d8->Prop}{s:d8}
theorem zen {t:j8}{xs:Array c9}{ns:List Int}{Q:c9->d8->Prop}(hh:A.handled=none)(ht:s.heap.IsList t xs)(hi:IntsAre xs.toList ns)(hb:xs.size+1<scanBound)
  (fin:∀ (h':Heap)(tk:Nat),SetT prog w h' s.heap.objs.size (HT.setS ns xs.size) (HT.setN ns xs.size)->(∀ b o,b<s.heap.objs.size->s.heap.get? b=some o->h'.get? b=some o)->Q (.ref s.heap.objs.size) { s with heap:=h',toks:=tk }) :
  j7 (p9 prog w) A (call (.type "set") [.ref t]) Q E s:=by
 obtain⟨c,tl,hmro⟩:=uam.mro;have hmade:=uam.made;have hsub:=uam.sub;refine ufd (codeAny_of_tree ?_);show j7 _ _ (callAny (.type "set") _) _ _ _;refine c8 ⟨Code.quiet_builtin _ (by symm),uaz ugd ?_⟩;rw[Around.under_plain (uf2 "set" [.ref t] []) rfl];have h1:=uam.notType;have h2:=uam.canCreate;have hct:=ugm (.ref t)
 repeat (any_goals (first | assumption | wp_step))
 refine udf (ze9 (.ref t) (E:=E) (U:=λ obj s₁=>obj=.ref s.heap.objs.size/\s₁={ s with heap:=s.heap.push (emp w) }) ⟨rfl,rfl⟩) λ r s₁ hr=>?_
 match r,hr with
 | .error e,hr=>exact hr
 | .ok .next,hr=>exact hr.elim
 | .ok .brk,hr=>exact hr.elim
 | .ok .cont,hr=>exact hr.elim
 | .ok (.ret obj),hr =>
  obtain⟨rfl,rfl⟩:=hr;have gS:(s.heap.push (emp w)).get? s.heap.objs.size=some (emp w):=i7 _ rfl;have hT:Shared.TypeIs { s with heap:=s.heap.push (emp w) } (.ref s.heap.objs.size) "set":=⟨_,gS,rfl⟩;have hli:=uam.init.lookup;have hbi:=uam.init.bind (.ref s.heap.objs.size)
  repeat (any_goals (first | assumption | wp_step))
  refine udf (ud9 (R:=wants (λ r s₂=>r=.none/\∃ h' tk,s₂={ s with heap:=h',toks:=tk }/\SetT prog w h' s.heap.objs.size (HT.setS ns xs.size) (HT.setN ns xs.size)/\(∀ b o,b<s.heap.objs.size->s.heap.get? b=some o->h'.get? b=some o)) E) uam.init.plain ugn (ugy hT ?_)) λ r₂ s₂ hr₂=>?_
  ·obtain⟨ot,ho,hc,m,hd⟩:=id ht;obtain⟨ocls,odict,odata,oslots⟩:=ot;simp only at hc hd;subst hc hd;have ho':(s.heap.push (emp w)).get? t=some { cls:=.type "list",dict:=odict,data:=.seq xs m,slots:=oslots }:=a9 _ ho;have f1:=PySem.F.sub_list_set;have f2:=PySem.F.sub_list_frozenset;have f3:(Value.type "list"==Value.type "dict")=false:=by decide
   have it1:(s.heap.push (emp w)).IsList t xs:=⟨_,ho',rfl,m,rfl⟩;unfold Builtin.«set.__init__» noKeywords Builtin.Frozenset.updateFrom;generalize hPI:pyIter=PI
   wp_walk;subst hPI
   refine uck it1 (a8 (ufk ?_));have lt:t<s.heap.objs.size:=i9 ho;have hh3:A.in1.in1.in1.handled=none:=by simp [hh]
   have sz1:(s.heap.push (emp w)).objs.size=s.heap.objs.size+1:=uaq ..;have tI:t≠(s.heap.push (emp w)).objs.size:=by rw[sz1];exact l6 (ubf lt)
   have Sfp:s.heap.objs.size∉[(s.heap.push (emp w)).objs.size,t]:=by
    rw[sz1];simp only [j4,m7,or_false,not_or];exact⟨l6 (ubu _),(l6 lt).symm⟩
   have vals:∀ (i:Nat)(v:c9),xs[i]?=some v->∃ u,v=.int ((λ i=>ns.getD i 0) i) u:=λ i v hv=>IntsAre.int_at hi i v (by rw[ubw];exact hv);refine zex ((Walks.list hh3 _ t tI xs).toS) s.heap.objs.size Sfp (λ i=>ns.getD i 0) vals hb (xs.size-0) 0 _ (by left) (x8 _) ?st ?s0 ?fin
   case st=>exact⟨⟨_,i7 _ rfl,P⟩,it1.push _⟩
   case s0=>exact (zfc s.heap).keep λ o e=>a9 _ e
   case fin =>
    rintro ⟨h',g',d',tk',os'⟩ hm hS';obtain rfl:g'=s.gens:=hm.gens;obtain rfl:d'=s.drawn:=hm.drawn;obtain rfl:os'=s.os:=hm.os;refine c8 (c8 ⟨rfl,h',tk',rfl,hS',λ b o hlt e=>hm.heap b o ?_ (a9 _ (a9 _ e))⟩);rw[sz1];simp only [j4,m7,or_false,not_or];exact⟨l6 hlt,l6 (ubf hlt)⟩
  ·match r₂,hr₂ with
   | .error e,hr₂=>exact hr₂
   | .ok .next,hr₂=>exact hr₂.elim
   | .ok .brk,hr₂=>exact hr₂.elim
   | .ok .cont,hr₂=>exact hr₂.elim
   | .ok (.ret v),hr₂ =>
    obtain⟨rfl,h',tk,rfl,hS',hk⟩:=hr₂
    repeat (any_goals (first | assumption | wp_step))
    exact fin h' tk hS' hk
end
end Stb
namespace L3
open PySem PySem.Spec PyProof.Rows L2
section
variable {X:Cx}
theorem xX (hh:X.calm=true):CallR X (.type "set") (λ xs H Q=>∃ (p:j8)(ns:List Int),xs=[.ref p]/\H p=some (.lst (ns.map V.int))/\ns.length<=1000/\∀ q H',Same H H'->H q=none->H' q=some (SetO X.prog X.w q (HT.setS ns ns.length) (HT.setN ns ns.length))->Q (.ref q) H'):=by
 intro pins s σ H xs us Q I r h;obtain⟨p,ns,rfl,hp,hl,q⟩:=h;obtain⟨u,rfl,rx⟩:=vals1 r;cases rx;obtain⟨its,rv,pt,hz⟩:=I.list (SqL.of hp);have hlen:=rv.length;rw[i5] at hlen;have fr:H s.heap.objs.size=none:=I.hok.fresh (i6 _);have esz:its.toArray.size=ns.length:=by rw[j5,← hlen]
 refine Stb.zen (ns:=ns) (I.ok.hd hh) (show s.heap.IsList p its.toArray from pt.isList) (by simpa using cW rv) (by rw[esz];unfold scanBound;left) λ h' tk hS hk=>?_;rw[esz] at hS;refine⟨.ref s.heap.objs.size,_,I.laid (a:=s.heap.objs.size) (o:=SetO X.prog X.w s.heap.objs.size (HT.setS ns ns.length) (HT.setN ns ns.length)) (t':=tk) (λ b o e=>hk b o (i9 e) e) (i6 _) ⟨hS,?_,λ h1 h2 x k=>x.keep k⟩,rfl,q _ _ (aP fr) fr aM⟩;obtain⟨⟨o,_,_,_,ho,_⟩,_⟩:=hS;exact⟨o,ho⟩
end
end L3
namespace Far
variable {A:List (Nat × Nat × Int)}{s:Nat}
def Unit1 (A:List (Nat × Nat × Int)):Prop:=∀ u v l,(u,v,l)∈A->l=1
def AtK (A:List (Nat × Nat × Int))(s k v:Nat):Prop:=Walk A s v (k:Int)/\∀ x,Walk A s v x->(k:Int)<=x
structure Bfs (A:List (Nat × Nat × Int))(s i:Nat)(D:Nat->Option Nat)(ring:List Nat):Prop where
 found:∀ v d,D v=some d↔AtK A s d v/\d<i
 ring:∀ v,v∈ring↔AtK A s i v
end Far
namespace L3
open PySem PySem.Spec PyProof.Rows L2
theorem za2 {ns:List Int}{m:Nat}(h:∀ x∈ns,0<=x/\x<m):HT.setN ns ns.length<=m:=by
 obtain⟨h1,h2⟩:=fY (λ i=>ns.getD i 0) ns.length;rw[L3.bX ns 0] at h2;have e:(firstMet (λ i=>ns.getD i 0) ns.length).length=((firstMet (λ i=>ns.getD i 0) ns.length).map Int.toNat).length:=(i5 _).symm;show (firstMet (λ i=>ns.getD i 0) ns.length).length<=m;rw[e];refine Peel.mU m _ ?_ λ p hp=>?_
 ·rw[uan,uce];refine uff ?_ h1;intro a b ha hb ne z;have:=h a ((h2 a).mp ha);have:=h b ((h2 b).mp hb);exact ne (by left)
 ·obtain⟨x,hx,rfl⟩:=ubx.mp hp;have:=h x ((h2 x).mp hx);left
theorem oN:∀ {ms:List Int},(∀ x∈ms,0<=x)->ms.map V.int=natV (ms.map Int.toNat)
 | [],_=>rfl
 | x::ms,h=>by
  have e:((x.toNat:Nat):Int)=x:=uao (h x j3);have ih:=oN (ms:=ms) λ y hy=>h y (l9 _ hy);show V.int x::ms.map V.int=V.int ((x.toNat:Nat):Int)::natV (ms.map Int.toNat);rw[e,ih]
theorem wI (a b:List Nat):natV (a++b)=natV a++natV b:=by unfold natV;rw[ub2]
theorem cQ (a:List Nat):(natV a).length=a.length:=by unfold natV;rw[i5]
theorem qA {f:Nat->List Nat}{m:Nat}:∀ (l:List Nat),(∀ x∈l,(f x).length<=m)->(l.flatMap f).length<=l.length*m
 | [],_=>by simp
 | x::l,h=>by
  have ih:=qA l λ y hy=>h y (l9 _ hy);have:=h x j3;rw[List.flatMap_cons,i8,ubs,Nat.succ_mul];left
theorem bF (E:List (Option Nat)){i v:Nat}(x:Nat)(h:i<E.length):Far.get (E.set i (some x)) v=if v=i then some x else Far.get E v:=by
 unfold Far.get;rw[f9,f9];by_cases z:v=i
 ·subst z;rw[ug7 rfl,uc7 h];rfl
 ·rw[ug8 z,ud4 (Ne.symm z)]
section
variable {n g:Int}{ts:List Tie}{ks:List Nat}{k:Nat}
end
def tupH (hs:List Int):r8:=.tuple (hs.map .int)
end L3
namespace HT
open PySem PyProof.Rows
open Sem (wp)
theorem vS (l:j8)(items:Array c9)(n:Nat)(u:Tok)(dd:Option j8)(sl:Array (Option c9)) :
  Meets (Builtin.«tuple.__mul__» ⟨[.ref l,.int 1 u],[]⟩) (λ _ R s=>s.heap.get? l=some { cls:=.type "tuple",dict:=dd,data:=.seq items n,slots:=sl }/\R (.ok (.ret (Value.ref l))) s) :=
 .of_wp λ prog w A R s h=>by
  obtain⟨hp,g,d,tk,os⟩:=s;obtain⟨hl,h⟩:=h;have f1:=AutoSeq1.idx_int;have f2:=AutoSeq1.sub_tuple_tuple;have e:(items.isEmpty||(1:Int)==1)=true:=by simp
  wp_walk using uc3 hl
  first | exact⟨A,h⟩ | trace_state
section
variable {prog:n0}{w:uak}{A:uaj}{E:c9->d8->Prop}{s:d8}
theorem xM {l:j8}{items:Array c9}{u:Tok}{Q:c9->d8->Prop}(hl:IsTup s.heap l items)(h:Q (.ref l) s):j7 (p9 prog w) A (binaryOp .Mult (.ref l) (.int 1 u)) Q E s:=by
 obtain⟨⟨cls,dd,data,sl⟩,ho,hc,n,hd⟩:=id hl;simp only at hc hd;subst hc hd;exact ueo (T:="tuple") (U:="int") (by decide) ⟨_,ho,rfl⟩ (λ s'=>uet s' 1 u) kZ ugu udu lG ugc.lookup
  (udr udu (uet s 1 u) ugf (uf7 _ _) (lB 1 u l items n dd sl)
   ⟨ho,rfl,⟨_,ho,rfl⟩,udr uew ⟨_,ho,rfl⟩ F.entry_tuple_mul (F.args_tuple_mul_2 _ _) (vS l items n u dd sl) ⟨ho,h⟩⟩)
end
end HT
namespace L3
open PySem PySem.Spec PyProof.Rows L2
inductive rRepTn_i  (x:V) (y:V) (H:Hp) (Q:VK):Prop
 | mk:∀ a k xs,(x=.ref a)->(y=.int k)->(H a=some (.tup xs))->(1<=k)->(k<=1000)->(xs.length*k.toNat<=1000)->(xs≠[])->(∀ p H',Same H H'->H' p=some (.tup (m5 k.toNat xs).flatten)->Q (.ref p) H')->rRepTn_i x y H Q
def rRepTn :R2:=λ x y H Q=>rRepTn_i x y H Q
theorem zbi {X:Cx}:OpR X (binaryOp .Mult) rRepTn:=by
 intro pins s σ H x y v u Q I rx ry h;obtain⟨a,k,xs,rfl,rfl,ha,k1,k3,hz,hne,q⟩:=h;by_cases k2:2<=k
 ·exact zdd pins s σ H _ _ v u Q I rx ry ⟨a,k,xs,P,ha,k2,k3,hz,hne,q⟩
 have e:k=1:=by left
 subst e;cases rx;obtain⟨t,rfl⟩:=ry;obtain⟨its,rv,pt,hzz⟩:=I.tuple (SqT.of ha);refine HT.xM pt ?_;refine⟨.ref a,H,I,rfl,q a H (Same.refl H) ?_⟩;rw[ha];show some (HO.tup xs)=some (HO.tup (m5 1 xs).flatten);simp
def PapV (H:Hp)(lo hi m:Nat)(v:V):Prop:=∃ p xs,v=.ref p/\H p=some (.tup xs)/\xs.length<=m/\∀ u∈xs,RowV lo hi H u
end L3
namespace Far
theorem Best.one {B:List Arc}(K:Keys B){n s:Nat}{cs cs':List (Option (Int × Int))}{as as':List (Option Nat)}(h:Best B n s cs as)(h':Best B n s cs' as'):as=as':=by
 have ec:∀ v,get cs v=get cs' v:=λ v=>by
  have e:=(h.dst K v).unique (h'.dst K v);cases e1:get cs v with
  | none =>
   cases e2:get cs' v with
   | none=>rfl
   | some c=>rw[e1,e2] at e;cases e
  | some c =>
   cases e2:get cs' v with
   | none=>rw[e1,e2] at e;cases e
   | some d =>
    rw[e1,e2] at e;have a:=h.small K e1;have b:=h'.small K e2;rw[zca ⟨a.1,Int.lt_trans a.2 (by decide)⟩ ⟨b.1,Int.lt_trans b.2 (by decide)⟩ (ubk e)]
 have ea:∀ {cs cs':List (Option (Int × Int))}{as as':List (Option Nat)},Best B n s cs as->Best B n s cs' as'->(∀ v,get cs v=get cs' v)->∀ v u,get as v=some u->get as' v=some u:=λ h h' ec v u e=>by
  obtain⟨l,k,cu,m,e1,e2⟩:=h.arc v u e;exact h'.tree K m (by rw[← ec];exact e1) (by rw[← ec];exact e2)
 refine ucs λ v=>?_;by_cases hv:v<n
 ·have g:get as v=get as' v:=by
   cases e1:get as v with
   | some u=>exact (ea h h' ec v u e1).symm
   | none =>
    cases e2:get as' v with
    | none=>rfl
    | some u=>rw[ea h' h (λ v=>(ec v).symm) v u e2] at e1;cases e1
  have l1:=h.alen;have l2:=h'.alen;unfold get at g;rw[f9,f9,c7 (by left),c7 (by left)] at g;rw[c7 (by left),c7 (by left)];exact congrArg some g
 ·rw[x9 (by have:=h.alen;left),x9 (by have:=h'.alen;left)]
end Far
namespace L3
open PySem PySem.Spec PyProof.Rows L2
section
variable {n:Int}{ts:List Tie}
theorem dZ (ts:List Tie):KeepOk ts.length (d7 ts.length):=⟨ubr,λ k hk=>o9.mp hk⟩
noncomputable def trA (n:Int)(ts:List Tie)(r:Nat):List (Option Nat):=Classical.epsilon λ as=>∃ cs,Far.Best (arcsB ts (d7 ts.length)) n.toNat r cs as
theorem nP (ok:WebOk n ts){r:Nat}(hr:r<n.toNat):∃ cs,Far.Best (arcsB ts (d7 ts.length)) n.toNat r cs (trA n ts r):=by
 have ko:=dZ ts;obtain⟨cs,as,B⟩:=Far.wR (iQ ok ko) (λ u v l k m=>pD ok ko m) hr;exact Classical.epsilon_spec (p:=λ as=>∃ cs,Far.Best (arcsB ts (d7 ts.length)) n.toNat r cs as) ⟨as,cs,B⟩
theorem zd1 (ok:WebOk n ts){r:Nat}(hr:r<n.toNat){cs:List (Option (Int × Int))}{as:List (Option Nat)}(B:Far.Best (arcsB ts (d7 ts.length)) n.toNat r cs as):as=trA n ts r:=by
 obtain⟨cs',B'⟩:=nP ok hr;exact B.one (iQ ok (dZ ts)) B'
theorem ze7 (ok:WebOk n ts){r v u:Nat}(hr:r<n.toNat)(e:Far.get (trA n ts r) v=some u):∃ k l,tbN ts v u=some k/\k<ts.length/\(u,v,l,k)∈arcsB ts (d7 ts.length)/\v<n.toNat/\u<n.toNat:=by
 obtain⟨cs,B⟩:=nP ok hr;obtain⟨l,k,cu,m,_⟩:=B.arc v u e;have z:=pD ok (dZ ts) m;have t:=zcw ok (dZ ts) m;rw[pH] at t;exact⟨k,l,t,o9.mp (List.mem_of_find?_eq_some t),m,z.2,z.1⟩
theorem nZ:∀ {a b:List Nat},a.Pairwise (·<·)->b.Pairwise (·<·)->(∀ k,k∈a↔k∈b)->a=b
 | [],[],_,_,_=>rfl
 | [],y::b,_,_,h=>by have:=(h y).mpr j3;cases this
 | x::a,[],_,_,h=>by have:=(h x).mp j3;cases this
 | x::a,y::b,pa,pb,h=>by
  obtain⟨p1,p2⟩:=ub0.mp pa;obtain⟨q1,q2⟩:=ub0.mp pb;have e:x=y:=by
   rcases j4.mp ((h x).mp j3) with z | z
   ·exact z
   ·rcases j4.mp ((h y).mpr j3) with y' | y'
    ·exact y'.symm
    ·have:=q1 x z;have:=p1 y y';left
  subst e;rw[nZ p2 q2 λ k=>?_];constructor
  ·intro hk;rcases j4.mp ((h k).mp (l9 _ hk)) with z | z
   ·have:=p1 k hk;left
   ·exact z
  ·intro hk;rcases j4.mp ((h k).mpr (l9 _ hk)) with z | z
   ·have:=q1 k hk;left
   ·exact z
theorem vV {ms:List Int}{xs ks:List Nat}(hl:ms.length=HT.setN (keepI xs) (keepI xs).length)(hm:∀ k,HT.setS (keepI xs) (keepI xs).length k=true↔k∈ms)(pw:ms.Pairwise (·<=·))(rk:ks.Pairwise (·<·))(h:∀ k,k∈ks↔k∈xs):ms.map V.int=natV ks:=by
 obtain⟨nd,mem⟩:=za1 hl hm;have nn:∀ x∈ms,0<=x:=λ x hx=>by
  obtain⟨c,_,rfl⟩:=ubx.mp ((mem x).mp hx);exact uad c
 rw[oN nn];congr 1;have lt:ms.Pairwise (·<·):=(pw.and nd).imp λ ⟨a,b⟩=>by left
 refine nZ ?_ rk λ k=>?_
 ·rw[uce];refine uff ?_ lt;intro a b ha hb ab;have:=nn a ha;left
 ·rw[h k,ubx];constructor
  ·rintro ⟨x,hx,rfl⟩;obtain⟨c,hc,rfl⟩:=ubx.mp ((mem x).mp hx);rw[v5];exact hc
  ·intro hk;exact⟨(k:Int),(mem _).mpr (ubx.mpr ⟨k,hk,rfl⟩),v5 k⟩
end
section
variable {near kept:Nat->Nat->Option Int}{u v:Nat}{r:List (Nat × Nat)}{m:Int × Int × Int}{x y:Int}
end
def WKE (K:b9)(H:Hp)(n:Int)(ts:List Tie)(ks:List Nat)(wv:V)(kp:j8)(tp:Bool):Prop:=Is K H (webD n ts) wv/\WebOk n ts/\H kp=some (if tp=true then .tup (natV ks) else .lst (natV ks))/\KeepOk ts.length ks
section
variable {g:TG}{tt:TT}{te:TE}{own:List Str}{js:List Nat}{σ:L2.St}{H1:Hp}{Q:VK}
end
theorem eJ (xs:List V)(k:Nat):cutV xs none (some (k:Int))=xs.take k:=by
 unfold cutV;rw[HT.nY,HT.pK,ue8,Nat.sub_zero];by_cases z:k<=xs.length
 ·rw[Nat.min_eq_left z]
 ·rw[Nat.min_eq_right (by left),ubj (i6 _),ubj (by left)]
theorem dY (xs:List V)(k:Nat):cutV xs (some (k:Int)) none=xs.drop k:=by
 unfold cutV;rw[HT.nY,HT.pK];by_cases z:k<=xs.length
 ·rw[Nat.min_eq_left z,ubj (by rw[o6];exact i6 _)]
 ·rw[Nat.min_eq_right (by left),uer (i6 _),uer (show xs.length<=k by left),List.take_nil]
section
variable {n:Int}{ts:List Tie}{ks:List Nat}
end
section
variable {own:List Str}{js:List Nat}{g:TG}{te:TE}{σ:L2.St}{Q:VK}{H1:Hp}
theorem xV {K:b9}{a:j8}{xs:List V}(hx:H1 a=some (.tup xs))(Sg:L2.St->Prop)(R:Nat->V->Hp->Prop)(hn:xs.length<=1000)(h0:Sg (start3 own js σ))(mono:∀ i v H H',TupKeep H H'->R i v H->R i v H')
  (step:∀ i x T σ' H',xs[i]?=some x->Same H1 H'->H' T=none->Sg σ'->∀ C:L2.St->V->Hp->Prop,(∀ σ3 v H5,Sg σ3->Same H' H5->R i v H5->C σ3 v H5)->g (.ref T) σ' (upd H' T (.tup [.int (i:Nat),x])) λ σ3 H3=>te σ3 H3 λ v H5=>C σ3 v H5)
  (fin:∀ D ys H',H1 D=none->Same H1 H'->H' D=some (.lst ys)->ys.length=xs.length->(∀ i v,ys[i]?=some v->R i v H')->Q (.ref D) H'):CompGo own js g tTrue te σ Q (Itn true K a) H1:=by
 have s1:∀ H',Same H1 H'->SqX true K H' a xs:=λ H' s=>SqX.of (t:=true) (s _ _ hx);refine fG xs.length Sg R hn h0 mono (λ i H' hi s=>⟨xs,xs[i],s1 H' s,by simp [hi]⟩) (λ H' s=>⟨xs,s1 H' s,i6 _⟩) (λ i x σ' H' H2 hi s hy sg C hC=>?_) fin;obtain⟨T,y,hT,rfl,rfl,e⟩:=hy;exact step i y T σ' H' (e _ (s1 H' s)) s hT sg C hC
end
end L3
namespace Far
section
variable {A B:List (Nat × Nat × Int)}{s u v:Nat}{x y:Int}
end
end Far
namespace Far
section
variable {G:Nat->Option Int}{len:Nat->Int}
end
end Far
namespace Far
section
variable {A:List (Nat × Nat × Int)}{s:Nat}
end
end Far
namespace L3
open PySem PySem.Spec PyProof.Rows L2
def allIn (ts:List Tie)(ks:List Nat)(t:Int):Prop:=∀ k,k∈outs ts.length ks->withinB t (tieAt ts k).2.2 (gO ts ks k)=true
section
variable {n:Int}{ts:List Tie}{ks:List Nat}{prs:List (Option Int × Int)}
end
end L3
namespace L2
open PySem PySem.Spec PyProof.Rows
section
variable {X:Cx}{k v:uby}{pos:Pos}{tk tv:TE}
end
end L2
namespace L3
open PySem PySem.Spec PyProof.Rows L2
section
variable {n:Int}{ts:List Tie}
def hN (hs:List Int)(v:Nat):Int:=hs.getD v 0
end
theorem iteTe {b:Bool}{A B:Prop}(e:b=true)(h:A):if b=true then A else B:=by rw[ug7 e];exact h
theorem iteFe {b:Bool}{A B:Prop}(e:b=false)(h:B):if b=true then A else B:=by rw[e];exact h
end L3
namespace Srt
open PySem PyProof.Rows
section
variable {prog:n0}{w:uak}{A:uaj}{E:c9->d8->Prop}{s:d8}{a:j8}
end
end Srt
namespace L3
open PySem PySem.Spec PyProof.Rows L2
section
variable {X:Cx}
end
section
variable {n:Int}{ts:List Tie}
def WyV (H:Hp)(ts:List Tie)(o:Option (List Nat))(v:V):Prop:=(o=none/\v=.non)\/∃ t ws,o=some ws/\v=.ref t/\H t=some (.tup (natV ws))/\ws.length<=24/\linked ts ws
def wyD:Option (List Nat)->r8
 | none=>.none
 | some ws=>tupH (keepI ws)
end
theorem zb6 (ws:List Nat):cutV (natV ws) (some 1) none=natV (ws.drop 1):=by
 unfold cutV;have h1:HT.sIx (natV ws).length (natV ws).length none=(natV ws).length:=rfl;rw[h1];by_cases z:ws=[]
 ·subst z;rfl
 ·have pos:=udj.mpr z;have lenW:(natV ws).length=ws.length:=by unfold natV;rw[i5]
  have h0:HT.sIx (natV ws).length 0 (some 1)=1:=by
   unfold HT.sIx;simp;left
  rw[h0,ubj (by rw[o6];exact i6 _)];unfold natV;rw[ud5]
end L3
namespace Z3
open PySem
section
variable {prog:n0}{w:uak}{A:uaj}{E:c9->d8->Prop}{s:d8}
end
end Z3
namespace L3
open PySem PySem.Spec PyProof.Rows L2
section
variable {n:Int}{ts:List Tie}{ks:List Nat}
noncomputable def wyK (ts:List Tie)(ks:List Nat)(a b:Nat):Option (List Nat):=@dite _ (∃ ws,Far.MinW (arcsB ts ks) a b ws) (Classical.propDecidable _) (λ h=>some (Classical.choose h)) (λ _=>none)
noncomputable def dK (ts:List Tie)(ks:List Nat)(u v:Nat):Option Int:=Classical.epsilon λ o=>Far.Dst (arcs ts ks) u v o
noncomputable def dKL (n:Int)(ts:List Tie)(ks:List Nat)(u:Nat):List (Option Int):=(d7 n.toNat).map λ v=>dK ts ks u v
noncomputable def htK (n:Int)(ts:List Tie)(ks:List Nat)(t:Int)(k:Nat):List Int:=(dKL n ts ks (tieAt ts k).1.toNat).map (capO (t*(tieAt ts k).2.2+1))
end
def winK (ts:List Tie)(ks:List Nat)(t:Int)(k:Nat):Prop:=withinB t (tieAt ts k).2.2 (gO ts ks k)=true
noncomputable def wyT (ts:List Tie)(ks:List Nat)(k:Nat):Option (List Nat):=wyK ts ks (tieAt ts k).1.toNat (tieAt ts k).2.1.toNat
def FirstOut (ts:List Tie)(ks:List Nat)(t:Int)(i k:Nat):Prop:=(outs ts.length ks)[i]?=some k/\¬ winK ts ks t k/\∀ j k',j<i->(outs ts.length ks)[j]?=some k'->winK ts ks t k'
inductive TdD (n:Int)(ts:List Tie)(ks:List Nat)(t:Int):r8->Prop
 | keeps:allIn ts ks t->TdD n ts ks t (.tuple [.str "keeps",.tuple ((outs ts.length ks).map λ k=>wyD (wyT ts ks k))])
 | far {i k:Nat}:FirstOut ts ks t i k->TdD n ts ks t (.tuple [.str "far",.int (k:Int),tupH (htK n ts ks t k)])
end L3
namespace Dp
open PySem PySem.Spec PyProof.Rows
theorem uK:typeLookup (.type "tuple") "keys"=pure none:=by rw[typeLookup_type,ufb];kernel_rfl
theorem lY:entryFor table "dict.update.loop"=some Builtin.«dict.update.loop»:=entryFor_of_tree (by kernel_rfl)
theorem gE:plainId "dict.update.loop"=true:=by symm
theorem zK {prog:n0}{w:uak}{A:uaj}{E:c9->d8->Prop}{s:d8}{a:j8}{o:Obj}{xs:Array c9}{k:Nat}{Q:Option c9->d8->Prop}
  (hx:s.heap.get? a=some o) (hc:o.cls=.type "tuple") (hdat:o.data=.seq xs k) (hd:o.dict=none) (hA:A.handled=none)
  (h:∀ h' tk,(∀ b ob,s.heap.get? b=some ob->h'.get? b=some ob)->Q none { s with heap:=h',toks:=tk }):j7 (p9 prog w) A (getAttr? (.ref a) "keys") Q E s:=by
 obtain⟨c,dct,dat,sl⟩:=o;simp only at hc hdat hd;subst hc hdat hd;obtain⟨hp,g,d,tk,os⟩:=s;have hT:∀ tk',(⟨hp,g,d,tk',os⟩:d8).TypeIs (.ref a) "tuple":=λ _=>⟨_,hx,rfl⟩;have f1:=sub_AttributeError;have f3:=uej.lookup;have f4:=uej.bind (.ref a);have f5:=am_tuple_getattr_none;unfold getAttr? getAttrBy? getAttrBy
 repeat (any_goals (first | assumption | exact hT _ | ((with_reducible show j7 _ _ (call (Value.builtin "tuple.__getattribute__") _ _) _ _ _);refine udr uej (hT _) am_entry_tuple_getattribute (F.args_tuple_getattribute_2 _ _) (meets_getattribute_miss_tuple a xs k sl "keys" _ uK (by decide) (by decide)) ⟨hx,hA,λ h' tk' e hx'=>?_⟩) | wp_step))
 obtain⟨t',u',he⟩:=hx'.there;show j7 _ _ (getattributeRaised _ _ _ _ _ _ _) _ _ _;unfold getattributeRaised
 repeat (any_goals (first | assumption | wp_step))
 exact h _ _ hx'.keeps
section
variable {prog:n0}{w:uak}{K:Type}[DecidableEq K]{knd:KeyKind prog w K}{A:uaj}{R:Result->d8->Prop}{I ax D:j8}{items:Array c9}
theorem uL {A:uaj}{E:c9->d8->Prop}{s:d8}{d:j8}{kvs:List (K × c9)}{k:K}{key v:c9}{Q:Unit->d8->Prop}(hkey:knd.is k key=true)(hm:s.heap.DictOf knd d kvs)
  (hQ:∀ h' tk,h'.DictOf knd d (stored kvs k v)->Heap.SameBut d s.heap h'->Q () { s with heap:=h',toks:=tk }) (hsz:kvs.length<=o7):j7 (p9 prog w) A (dictSet d key v) Q E s:=by
 unfold dictSet
 try with_reducible refine uae ?_
 refine a8 (knd.pyHash hkey ?_);exact wpAny_dictSetHashed_pairs (s:={ s with toks:=s.toks+1 }) hkey hm (λ h' h1 h2=>hQ h' _ h1 h2) hsz
theorem vR (hh:A.in1.handled=none)(hIa:ax≠I)(hDI:D≠I)(hDa:D≠ax)(kvs:List (K × c9))(hn:kvs.length=items.size)(hsz:kvs.length<=o7)(s0:d8)(hp:∀ (i:Nat) (v:c9),items[i]?=some v->∃ (c:j8) (key val:c9) (k:K),v=Value.ref c/\c≠D/\c≠I/\s0.heap.IsTuple c #[key,val]/\kvs[i]?=some (k,val)/\knd.is k key=true) :
  ∀ (m i:Nat)(s:d8)(tk:Tok),items.size-i=m->i<=items.size->s.heap.IsTupleIter I ax i->s.heap.IsTuple ax items->s.heap.DictOf knd D (merged [] (kvs.take i))->(∀ b o,b≠D->b≠I->s0.heap.get? b=some o->s.heap.get? b=some o)->s.gens=s0.gens->s.drawn=s0.drawn->s.os=s0.os ->
   (∀ h' tk,h'.DictOf knd D (merged [] kvs)->(∀ b o,b≠D->b≠I->s0.heap.get? b=some o->h'.get? b=some o)->R (.ok (.ret .none)) { s0 with heap:=h',toks:=tk }) ->
   codeAny (p9 prog w) A (.builtin "dict.update.loop" ⟨[.ref D,.ref I,.int (i:Int) tk,.none],[]⟩) R s:=by
 have W:=Walks.tuple (prog:=prog) (w:=w) (A:=A.in1) hh I ax hIa items;intro m;induction m with
 | zero =>
  intro i s tk hm hi h1 h2 hd hk g1 g2 g3 hR;have hin:i=items.size:=by left
  subst hin;refine uaz lY ?_;rw[Around.under_plainId gE _];show j7 _ A.in1 (pyNext (.ref I) >>= _) _ _ s;refine a8 (W.done s _ _ ⟨h1,h2⟩ λ h' tk' kk=>?_);show j7 _ A.in1 (Builtin.Dict.addKeywords D [] >>= λ _=>ret Value.none) _ _ _;refine a8 (c8 (c8 ?_));rw[← hn,ufy] at hd;have:=hR h' tk' (by
   obtain⟨o,es,ep,ho,r⟩:=hd;exact⟨o,es,ep,kk D o (by simpa using hDI) ho,r⟩) (λ b o n1 n2 e=>kk b o (by simpa using n2) (hk b o n1 n2 e))
  rw[← g1,← g2,← g3] at this;exact this
 | succ m ih =>
  intro i s tk hm hi h1 h2 hd hk g1 g2 g3 hR;have hlt:i<items.size:=by left
  refine uaz lY ?_;rw[Around.under_plainId gE _];show j7 _ A.in1 (pyNext (.ref I) >>= _) _ _ s;refine a8 (W.item i s _ _ hlt ⟨h1,h2⟩ λ v h' tk' hv st kk=>?_);obtain⟨c,key,val,k,rfl,cD,cI,hc0,hkv,hkey⟩:=hp i v hv;obtain⟨oc,e0,ec,nc,dc⟩:=hc0;have e1:h'.get? c=some oc:=kk c oc (by simpa using cI) (hk c oc cD cI e0);have hd':h'.DictOf knd D (merged [] (kvs.take i)):=by
   obtain⟨o,es,ep,ho,r⟩:=hd;exact⟨o,es,ep,kk D o (by simpa using hDI) ho,r⟩
  show j7 _ A.in1 ((holding [Value.ref c] _) >>= _) _ _ _;refine a8 (uae ?_);refine a8 (ucj ?_);unfold Builtin.Dict.pairItems;refine a8 (uc5 (s:={ s with heap:=h',toks:=tk' }) (T:="tuple") ⟨oc,e1,ec⟩ ?_);rw[ug7 (by decide)];refine a8 (ua3 (s:={ s with heap:=h',toks:=tk' }) e1 dc (c8 ?_));show j7 _ A.in1 (holding [key,val] (dictSet D key val)) _ _ _;refine uae ?_;have ml:(merged [] (kvs.take i)).length<=o7:=by
   have:=merged_length_le [] (kvs.take i);rw[udm,Nat.zero_add,uac] at this;left
  refine uL (s:={ s with heap:=h',toks:=tk' }) hkey hd' (λ h2' tk2 hd2 sb=>?_) ml;rw[← merged_take_succ [] kvs i (k,val) hkv] at hd2;refine c8 ⟨ubq gE _,?_⟩;have keep2:∀ b o,b≠D->h'.get? b=some o->h2'.get? b=some o:=λ b o nb e=>(sb.2 b nb).trans e;have:=ih (i+1) { s with heap:=h2',toks:=tk2 } 0 (by left) hlt (st.1.at λ o e=>keep2 I o (Ne.symm hDI) e) (st.2.at λ o e=>keep2 ax o (Ne.symm hDa) e) hd2 (λ b o n1 n2 e=>keep2 b o n1 (kk b o (by simpa using n2) (hk b o n1 n2 e))) g1 g2 g3 hR;exact this
theorem call_dict_pairs {E:c9->d8->Prop}{s:d8}{a:j8}{Q:c9->d8->Prop}(hh:A.handled=none)(hT:L2.TupN s.heap a items)(kvs:List (K × c9))(hn:kvs.length=items.size)(hsz:kvs.length<=o7)
  (hp:∀ (i:Nat)(v:c9),items[i]?=some v->∃ (c:j8)(key val:c9)(k:K),v=Value.ref c/\s.heap.IsTuple c #[key,val]/\kvs[i]?=some (k,val)/\knd.is k key=true)
  (h:∀ h' tk,h'.DictOf knd s.heap.objs.size (merged [] kvs)->(∀ b o,s.heap.get? b=some o->h'.get? b=some o)->Q (.ref s.heap.objs.size) { s with heap:=h',toks:=tk }) :
  j7 (p9 prog w) A (call (.type "dict") [.ref a]) Q E s:=by
 refine callType_codes (Q₁:=λ obj s₁=>obj=.ref s.heap.objs.size/\s₁={ s with heap:=s.heap.push { cls:=.type "dict",data:=.dict #[] } }) F.kt_called_dict (F.kt_typeCall_dict_1 _) F.entry_dict_init (kt_code_dict_new _ ⟨rfl,rfl⟩) ?_;rintro obj s₁ ⟨rfl,rfl⟩;have hnew:(s.heap.push { cls:=.type "dict",data:=.dict #[] }).DictOf knd s.heap.objs.size []:=Heap.DictOf.new s.heap;obtain⟨o,ho,oc,⟨n,od⟩,on⟩:=hT;have ho':(s.heap.push { cls:=.type "dict",data:=.dict #[] }).get? a=some o:=a9 _ ho;refine⟨hnew.typeIs,F.args_dict_init_2 _ _,?_⟩;unfold Builtin.«dict.__init__»;refine a8 ?_;unfold Builtin.Dict.selfAndRest;refine a8 (wpAny_notOrdered_dict hnew.typeIs ?_);show j7 _ _ (pure (s.heap.objs.size,[Value.ref a])) _ _ _;refine c8 ?_;show j7 _ _ (Builtin.Dict.updateFrom "dict.__init__" s.heap.objs.size (.ref a) [] .none) _ _ _;unfold Builtin.Dict.updateFrom;refine a8 (uc5 (s:={ s with heap:=s.heap.push { cls:=.type "dict",data:=.dict #[] } }) (T:="tuple") ⟨o,ho',oc⟩ ?_);rw[ug7 (by decide)];refine a8 (zK (s:={ s with heap:=s.heap.push { cls:=.type "dict",data:=.dict #[] } }) ho' oc od on (by simpa using hh) λ h1 tk1 k1=>?_);rw[ug7 (by rfl)];have hd1:h1.DictOf knd s.heap.objs.size []:=by
  obtain⟨o2,es,ep,ho2,r⟩:=hnew;exact⟨o2,es,ep,k1 _ _ ho2,r⟩
 have Dlt:s.heap.objs.size<h1.objs.size:=by
  obtain⟨o2,es,ep,ho2,r⟩:=hd1;exact i9 ho2
 have ha1:h1.get? a=some o:=k1 _ _ ho';refine a8 (uc2 ?_);refine a8 (uem (s:={ s with heap:=h1,toks:=tk1 }) (show h1.IsTuple a items from ⟨o,ha1,oc,n,od⟩) ?_);refine c8 ⟨ubq gE _,?_⟩;have kb:∀ b o,s.heap.get? b=some o->h1.get? b=some o:=λ b o e=>k1 _ _ (a9 _ e);have aI:a≠h1.objs.size:=l6 (i9 ha1);have aD:s.heap.objs.size≠a:=λ z=>by have:=i9 ho;rw[← z] at this;exact uay _ this
 refine vR (knd:=knd) (A:=A.in1) (I:=h1.objs.size) (ax:=a) (D:=s.heap.objs.size) (items:=items) (by simpa using hh) aI (l6 Dlt) aD kvs hn hsz { s with heap:=h1,toks:=tk1 } (λ i v hv=>?_) items.size 0 _ 0 (by left) (x8 _) ⟨_,i7 _ rfl,rfl,rfl⟩ ⟨o,a9 _ ha1,oc,n,od⟩ ?_ (λ b ob _ _ e=>a9 _ e) rfl rfl rfl ?_
 ·obtain⟨c,key,val,k,e,⟨o3,e3,r3⟩,q1,q2⟩:=hp i v hv;exact⟨c,key,val,k,e,λ z=>by have:=i9 e3;rw[z] at this;exact uay _ this,l6 (i9 (kb _ _ e3)),⟨o3,kb _ _ e3,r3⟩,q1,q2⟩
 ·obtain⟨o2,es,ep,ho2,r⟩:=hd1;exact⟨o2,es,ep,a9 _ ho2,r⟩
 ·intro h' tk hd' kk;refine⟨rfl,h h' tk hd' λ b ob e=>kk b ob (λ z=>?_) (l6 (i9 (kb _ _ e))) (kb _ _ e)⟩;have:=i9 e;rw[z] at this;exact uay _ this
end
end Dp
namespace L3
open PySem PySem.Spec PyProof.Rows L2
section
variable {X:Cx}
theorem zdz {kvs:List (Key × V)}{vs:List (Key × c9)}(h:KV kvs vs):kvs.map (·.1)=vs.map (·.1):=by
 induction h with
 | nil=>rfl
 | cons r _ ih=>rw[ua8,ua8,ih,r.1]
theorem mO {s:d8}:∀ {its:List c9}{kvs:List (Int × V)},its.length=kvs.length->(∀ (i:Nat)(v:c9),its[i]?=some v->∃ (c:j8)(key val:c9)(k:Int)(x:V),v=Value.ref c/\s.heap.IsTuple c #[key,val]/\kvs[i]?=some (k,x)/\keyIs (.inl k) key=true/\RelV x val) ->
  ∃ vs:List (Key × c9),KV (kvs.map λ p=>((Sum.inl p.1,p.2):Key × V)) vs/\vs.length=its.length/\∀ (i:Nat)(v:c9),its[i]?=some v->∃ (c:j8)(key val:c9)(k:Key),v=Value.ref c/\s.heap.IsTuple c #[key,val]/\vs[i]?=some (k,val)/\keyIs k key=true
 | [],[],_,_=>⟨[],.nil,rfl,λ i v h=>by simp at h⟩
 | it::its,kv::kvs,hl,h=>by
  obtain⟨vs,k1,l1,h1⟩:=mO (its:=its) (kvs:=kvs) (by simpa using hl) λ i v hv=>by simpa using h (i+1) v (by simpa using hv)
  obtain⟨c,key,val,k,x,e1,e2,e3,e4,e5⟩:=h 0 it rfl;have e3':kv=(k,x):=by simpa using e3
  subst e3';refine⟨(.inl k,val)::vs,.cons ⟨rfl,e5⟩ k1,by simp [l1],λ i v hv=>?_⟩;cases i with
  | zero =>
   have:it=v:=by simpa using hv
   subst this;exact⟨c,key,val,.inl k,e1,e2,rfl,e4⟩
  | succ i=>simpa using h1 i v (by simpa using hv)
end
end L3
namespace Far
def combM (M:Int)(c:Int × Int):Int:=M*c.1+c.2
def arcsM (M:Int)(B:List Arc):List (Nat × Nat × Int):=B.map λ b=>(b.1,b.2.1,M*b.2.2.1+2^b.2.2.2)
section
variable {B:List Arc}{n s m:Nat}{cs:List (Option (Int × Int))}{as:List (Option Nat)}
end
structure RunI (A:List (Nat × Nat × Int))(s:Nat)(ds:List (Option Int))(as:List (Option Nat)):Prop where
 len:as.length=ds.length
 start:get ds s=some 0
 root:get as s=none
 has:∀ v c,get ds v=some c->v≠s->get as v≠none
 arc:∀ v u,get as v=some u->∃ l cu cv,(u,v,l)∈A/\get ds u=some cu/\get ds v=some cv/\cu+l<=cv
section
variable {A:List (Nat × Nat × Int)}{n s:Nat}{ds:List (Option Int)}{as:List (Option Nat)}
end
end Far
namespace L3
open PySem PySem.Spec PyProof.Rows L2
section
variable {n:Int}{ts:List Tie}{ls:List (List Nat)}
noncomputable def dvC (ts:List Tie)(u v:Nat):Option Int:=Classical.epsilon λ o=>Far.Dst (arcs ts (d7 ts.length)) u v o
theorem qB (ok:WebOk n ts)(u v:Nat):Far.Dst (arcs ts (d7 ts.length)) u v (dvC ts u v):=Classical.epsilon_spec (p:=λ o=>Far.Dst (arcs ts (d7 ts.length)) u v o) (Far.xQ (fI ok (dZ ts)) u v)
noncomputable def dFC (n:Nat)(ts:List Tie)(u:Nat):List (Option Int):=(d7 n).map (dvC ts u)
theorem getC {α:Type}{f:Nat->Option α}{n v:Nat}(h:v<n):Far.get ((d7 n).map f) v=f v:=by
 unfold Far.get;rw[f9,l7,uc0 h];rfl
theorem zby {α:Type}{f:Nat->Option α}{n v:Nat}{a:α}(h:Far.get ((d7 n).map f) v=some a):v<n:=by
 by_cases z:v<n
 ·exact z
 ·unfold Far.get at h;rw[f9,x9 (by rw[i5,t5];left)] at h;cases h
theorem kJ (ok:WebOk n ts)(u:Nat):FarsOf ts n.toNat u (dFC n.toNat ts u):=⟨by unfold dFC;rw[i5,t5],λ v hv=>by
 unfold dFC;rw[getC hv];exact qB ok u v⟩
theorem ze0 (ok:WebOk n ts){u:Nat}{D:List (Option Int)}(h:FarsOf ts n.toNat u D):D=dFC n.toNat ts u:=FarsOf.unique (kJ ok u) h
noncomputable def clB (n:Nat)(ts:List Tie)(ls:List (List Nat))(v w:Nat):Bool:=bunB ls (dFC n ts v) w
noncomputable def clA (n:Int)(ts:List Tie)(ls:List (List Nat))(w:Nat):List (Option Nat):=(d7 n.toNat).map λ v=>if clB n.toNat ts ls v w=true then Far.get (trA n ts w) v else none
theorem oY {w v u:Nat}(h:Far.get (clA n ts ls w) v=some u):v<n.toNat/\clB n.toNat ts ls v w=true/\Far.get (trA n ts w) v=some u:=by
 have hv:=zby h;unfold clA at h;rw[getC hv] at h;split at h
 ·exact⟨hv,by assumption,h⟩
 ·cases h
theorem jX (w:Nat):(clA n ts ls w).length=n.toNat:=by unfold clA;rw[i5,t5]
theorem rG (ok:WebOk n ts){w v u:Nat}(hw:w<n.toNat)(h:Far.get (clA n ts ls w) v=some u):∃ k,tbN ts v u=some k/\k<ts.length/\u<n.toNat/\v<n.toNat:=by
 obtain⟨_,_,e⟩:=oY h;obtain⟨k,l,h1,h2,_,h3,h4⟩:=ze7 ok hw e;exact⟨k,h1,h2,h4,h3⟩
noncomputable def clT (n:Int)(ts:List Tie)(ls:List (List Nat))(w:Nat):List Nat:=(d7 n.toNat).filterMap λ v=>(Far.get (clA n ts ls w) v).bind λ u=>tbN ts v u
theorem clT_mem {w k:Nat}:k∈clT n ts ls w↔∃ v u,Far.get (clA n ts ls w) v=some u/\tbN ts v u=some k:=by
 unfold clT;rw[uco];constructor
 ·rintro ⟨v,_,e⟩;cases h:Far.get (clA n ts ls w) v with
  | none=>rw[h] at e;cases e
  | some u=>rw[h] at e;exact⟨v,u,h,e⟩
 ·rintro ⟨v,u,h,e⟩;exact⟨v,o9.mpr (oY h).1,by rw[h];exact e⟩
theorem ze2 (ok:WebOk n ts){w k:Nat}(hw:w<n.toNat)(h:k∈clT n ts ls w):k<ts.length:=by
 obtain⟨v,u,h1,h2⟩:=clT_mem.mp h;obtain⟨k',e,lt,_⟩:=rG ok hw h1;rw[h2] at e;cases e;exact lt
theorem qH (w:Nat):(clT n ts ls w).length<=n.toNat:=by
 have:=ugw (λ v=>(Far.get (clA n ts ls w) v).bind λ u=>tbN ts v u) (d7 n.toNat);rw[t5] at this;exact this
noncomputable def clK (n:Int)(ts:List Tie)(ls:List (List Nat)):List Nat:=(d7 ts.length).filter λ k=>(d7 n.toNat).any λ w=>(clT n ts ls w).contains k
theorem zdv (ok:WebOk n ts){k:Nat}:k∈clK n ts ls↔∃ w,w<n.toNat/\k∈clT n ts ls w:=by
 unfold clK;rw[ua0,o9,ucn];constructor
 ·rintro ⟨_,w,hw,h⟩;exact⟨w,o9.mp hw,List.contains_iff_mem.mp h⟩
 ·rintro ⟨w,hw,h⟩;exact⟨ze2 ok hw h,w,o9.mpr hw,List.contains_iff_mem.mpr h⟩
theorem kK (n:Int)(ts:List Tie)(ls:List (List Nat)):KeepOk ts.length (clK n ts ls):=⟨List.Pairwise.filter _ ubr,λ k hk=>o9.mp (ua0.mp hk).1⟩
end
section
variable {n:Int}{ts:List Tie}{ls:List (List Nat)}
noncomputable def bnL (n:Nat)(ts:List Tie)(ls:List (List Nat))(v:Nat):List Nat:=(d7 n).filter λ w=>clB n ts ls v w
theorem bnL_mem {v w:Nat}:w∈bnL n.toNat ts ls v↔w<n.toNat/\clB n.toNat ts ls v w=true:=by
 unfold bnL;rw[ua0,o9]
theorem zaf (ls:List (List Nat))(D:List (Option Int))(n:Nat):bunchL ls D n=((d7 n).filter λ w=>bunB ls D w).map (bunD D):=by
 unfold bunchL;induction d7 n with
 | nil=>rfl
 | cons w l ih =>
  rw[ua2,uf0];unfold bunSel;cases h:bunB ls D w with
  | true=>simp only [if_true,ua8];rw[← ih];rfl
  | false=>simp only [ua4,if_false];rw[← ih];rfl
end
noncomputable def bkI (n:Nat)(ts:List Tie)(ls:List (List Nat))(v:Nat):List (Int × V):=(bnL n ts ls v).map λ (w:Nat)=>((w:Int),V.int ((Far.get (dFC n ts v) w).getD 0))
noncomputable def bkv (n:Nat)(ts:List Tie)(ls:List (List Nat))(v:Nat):List (Key × V):=(bkI n ts ls v).map λ p=>(Sum.inl p.1,p.2)
theorem rH (n:Nat)(ts:List Tie)(ls:List (List Nat))(v w:Nat):(valV (bkv n ts ls v) (Sum.inl (w:Int))).isSome=decide (w∈bnL n ts ls v):=by
 rw[← nN];unfold bkv bkI;rw[ua5,List.any_map,uci,ucn,decide_eq_true_eq];constructor
 ·rintro ⟨x,hx,e⟩;have e2:(Sum.inl (x:Int):Key)=Sum.inl (w:Int):=ug4 e;injection e2 with e2;rw[← show x=w by left];exact hx
 ·intro h;exact⟨w,h,ug3 rfl⟩
theorem zag (n:Nat)(ts:List Tie)(ls:List (List Nat))(v:Nat):((bkI n ts ls v).map (·.1)).Nodup:=by
 unfold bkI bnL;rw[ua5];exact uev _ (λ a b h z=>h (by have:(a:Int)=(b:Int):=z;left)) (List.nodup_range.sublist List.filter_sublist)
def BnV (H:Hp)(n:Nat)(ts:List Tie)(ls:List (List Nat))(ys:List V):Prop:=ys.length=n/\∀ v,v<n->∃ d,ys[v]?=some (.ref d)/\H d=some (.dK (bkv n ts ls v))
def NlKeep (H H':Hp):Prop:=∀ (b:j8)(o:HO),(∀ xs,o≠.lst xs)->H b=some o->H' b=some o
section
variable {own:List Str}{js:List Nat}{g:TG}{te:TE}{σ:L2.St}{Q:VK}{H1:Hp}
theorem wO {lo:Int}{n:Nat}(Sg:L2.St->Prop)(R:Nat->V->Hp->Prop)(hn:n<=1000)(h0:Sg (start3 own js σ))(mono:∀ i v H H',NlKeep H H'->R i v H->R i v H')
  (step:∀ i σ' H',i<n->Same H1 H'->Sg σ'->∀ C:L2.St->V->Hp->Prop,(∀ σ3 v H5,Sg σ3->Same H' H5->R i v H5->C σ3 v H5)->g (.int (lo+i)) σ' H' λ σ3 H3=>te σ3 H3 λ v H5=>C σ3 v H5)
  (fin:∀ D ys H',H1 D=none->Same H1 H'->H' D=some (.lst ys)->ys.length=n->(∀ i v,ys[i]?=some v->R i v H')->Q (.ref D) H'):CompGo own js g tTrue te σ Q (Itr lo n) H1:=by
 intro D hD;refine⟨λ i m ys σ' H'=>m=n-i/\i<=n/\Sg σ'/\Same H1 H'/\ys.length=i/\∀ j v,ys[j]?=some v->R j v H',⟨n,rfl,x8 _,h0,aP hD,rfl,λ j v e=>by simp at e⟩,?_⟩;rintro i m ys σ' H' ⟨rfl,hi,sg,sm,hl,hr⟩ hd;by_cases hlt:i<n
 ·refine .inr ⟨hlt,λ x H2 hy=>?_⟩;obtain⟨rfl,rfl⟩:=hy;refine step i σ' _ hlt sm sg (λ σ3 v H5=>H5 D=some (.lst ys)/\ys.length<o7/\∃ m',m'<n-i/\(m'=n-(i+1)/\i+1<=n/\Sg σ3/\Same H1 (upd H5 D (.lst (ys++[v])))/\(ys++[v]).length=i+1/\∀ j u,(ys++[v])[j]?=some u->R j u (upd H5 D (.lst (ys++[v]))))) λ σ3 v H5 sg3 s5 r5=>?_;have hd5:=s5 _ _ hd;refine⟨hd5,ubn (by left:ys.length<=1000) (by decide),n-(i+1),by left,rfl,hlt,sg3,λ b o e=>?_,by rw[i8,k9,hl],λ j u e=>?_⟩
  ·rw[aJ (aY e hD)];exact s5 _ _ (sm _ _ e)
  ·have tk5:NlKeep H5 (upd H5 D (.lst (ys++[v]))):=λ a o no e=>by rw[aJ (λ z=>by rw[z,hd5] at e;cases e;exact no _ rfl)];exact e
   by_cases hj:j<ys.length
   ·rw[ubd hj] at e;exact mono _ _ _ _ tk5 (mono _ _ _ _ (λ a o _ z=>s5 _ _ z) (hr j u e))
   ·rw[uat (by left)] at e;have ej:j=ys.length:=by
     have:=(j6.mp e).1;simp at this;left
    subst ej;have eu:v=u:=by simpa using e
    subst eu;rw[hl];exact mono _ _ _ _ tk5 r5
 ·have e:i=n:=by left
  subst e;exact .inl ⟨i6 _,fin D ys H' hD sm hd hl hr⟩
end
noncomputable def trD (n:Int)(ts:List Tie)(ls:List (List Nat))(w:Nat):r8:=.tuple [.int (w:Int),.tuple ((clA n ts ls w).map oaD)]
noncomputable def treesD (n:Int)(ts:List Tie)(ls:List (List Nat)):r8:=.tuple ((d7 n.toNat).map (trD n ts ls))
theorem qT {K:b9}{H:Hp}:∀ {as:List (Option Nat)}{vs:List V},IsAll K H (as.map oaD) vs->vs=as.map oa
 | [],_,h=>h
 | a::as,vs,⟨v,r,e,h1,h2⟩=>by
  subst e;rw[qT h2];cases a with
  | none=>rw[show v=V.non from h1];rfl
  | some x=>rw[show v=V.int (x:Int) from h1];rfl
theorem vT {K:b9}{H:Hp}{n:Int}{ts:List Tie}{ls:List (List Nat)}{v:V}(h:Is K H (treesD n ts ls) v):∃ p vs,v=.ref p/\H p=some (.tup vs)/\vs.length=n.toNat/\∀ (w:Nat)(x:V),vs[w]?=some x->∃ c t,x=.ref c/\w<n.toNat/\H c=some (.tup [.int (w:Int),.ref t])/\H t=some (.tup ((clA n ts ls w).map oa)):=by
 obtain⟨p,vs,rfl,hp,hall⟩:=h;have hl:=hall.length;rw[i5,t5] at hl;refine⟨p,vs,rfl,hp,hl,λ w x hx=>?_⟩;have hw:w<n.toNat:=by have:=(j6.mp hx).1;left
 obtain⟨d,hd,ix⟩:=hall.get' hx;rw[l7,uc0 hw] at hd;cases hd;obtain⟨c,us,rfl,hc,v1,r1,rfl,h1,v2,r2,rfl,⟨t,zs,rfl,ht,hz⟩,h3⟩:=ix;obtain rfl:v1=.int (w:Int):=h1;obtain rfl:r2=[]:=h3;rw[qT hz] at ht;exact⟨c,t,rfl,hw,hc,ht⟩
theorem zcs {K:b9}{H:Hp}{n:Int}{ts:List Tie}{ls:List (List Nat)}{w:Nat}{c t:j8}(h1:H c=some (.tup [.int (w:Int),.ref t]))(h2:H t=some (.tup ((clA n ts ls w).map oa))):Is K H (trD n ts ls w) (.ref c) :=
 ⟨c,_,rfl,h1,_,_,rfl,rfl,_,_,rfl,⟨t,_,rfl,h2,kF _⟩,rfl⟩
theorem zat {K:b9}{H:Hp}{n:Int}{ts:List Tie}{ls:List (List Nat)}{p:j8}{vs:List V}(hp:H p=some (.tup vs))(hl:vs.length=n.toNat)(h:∀ (w:Nat) (x:V),vs[w]?=some x->∃ c t,x=.ref c/\H c=some (.tup [.int (w:Int),.ref t])/\H t=some (.tup ((clA n ts ls w).map oa))):Is K H (treesD n ts ls) (.ref p):=by
 refine⟨p,vs,rfl,hp,IsAll.of (by rw[i5,t5];exact hl) λ w d x hd hx=>?_⟩;have hw:w<n.toNat:=by have:=(j6.mp hx).1;left
 rw[l7,uc0 hw] at hd;cases hd;obtain⟨c,t,rfl,h1,h2⟩:=h w x hx;exact zcs h1 h2
def FarsN (H:Hp)(lf:j8)(n:Nat)(ts:List Tie):Prop:=∃ ys,H lf=some (.lst ys)/\ys.length=n/\∀ (i:Nat)(v:V),ys[i]?=some v->∃ l,v=.ref l/\H l=some (.lst ((dFC n ts i).map ov))
def spTTG (K:b9):Sp:=λ vs H Q _=>∃ (n:Int)(ts:List Tie)(wv:V)(t:j8)(F:List (Option Nat)),vs=[wv,.ref t]/\Is K H (webD n ts) wv/\ts.length<=60/\H t=some (.tup (F.map oa))/\F.length<=24/\(∀ v u,Far.get F v=some u->∃ k,tbN ts v u=some k) /\
 ∀ l H',Same H H'->H l=none->H' l=some (.lst (natV ((d7 F.length).filterMap λ v=>(Far.get F v).bind λ u=>tbN ts v u)))->Q (.ref l) H'
def spTiesTr (K:b9):Sp:=λ vs H Q _=>∃ (n:Int)(ts:List Tie)(ls:List (List Nat))(wv v:V),vs=[wv,v]/\Is K H (webD n ts) wv/\WebOk n ts/\Is K H (treesD n ts ls) v/\∀ t H',Same H H'->H' t=some (.tup (natV (clK n ts ls)))->Q (.ref t) H'
def spLevKeep (K:b9):Sp:=λ vs H Q _=>∃ (n:Int)(ts:List Tie)(ls:List (List Nat))(wv lv:V),vs=[wv,lv]/\Is K H (webD n ts) wv/\WebOk n ts/\Lv K H n.toNat ls lv/\∀ t H',Same H H'->H' t=some (.tup (natV (clK n ts ls)))->Q (.ref t) H'
end L3
namespace L2
open PySem PySem.Spec PyProof.Rows
def epO (o:Obj):Nat:=match o.data with | .dict _ ep=>ep | _=>0
def Itd (a:j8)(o:Obj)(kvs:List (Key × V)):It :=
 ⟨λ i H=>H a=some (.frz o (.dK kvs))/\i<kvs.length,λ i H x H'=>H'=H/\∃ k v,kvs[i]?=some (k,v)/\x=kV k,λ i H=>H a=some (.frz o (.dK kvs))/\i=kvs.length⟩
theorem kG {X:Cx}{pins:List (j8 × Obj)}{σ:St}{H:Hp}{s:d8}{a:j8}{o:Obj}{kvs:List (Key × V)}(I:Inv X pins σ H s)(h:H a=some (.frz o (.dK kvs))):(a==sysModules)=false/\∃ vs,KV kvs vs/\s.heap.DictAt (mixKind X.prog X.w) a vs (epO o):=by
 obtain⟨e,ob⟩:=(show ObjOk X.prog X.w H s.heap a (.frz o (.dK kvs)) from I.hok a _ h);obtain⟨_,hs,vs,kv,o',es,ep,e1,e2,e3,r⟩:=(show ObjOk X.prog X.w H s.heap a (.dK kvs) from ob);rw[e] at e1;cases e1;refine⟨hs,vs,kv,o,es,e,e2,?_,r⟩;rw[e3];unfold epO;rw[e3]
theorem zdn {P:n0}{w:uak}{k:Key}{v:c9}(h:(mixKind P w).is k v=true):RelV (kV k) v:=by
 rcases cR (by rw[xO] at h;exact h) with ⟨i,t,e4,e5⟩ | ⟨x,t,e4,e5⟩
 ·subst e4;subst e5;exact⟨t,rfl⟩
 ·subst e4;subst e5;exact⟨t,rfl⟩
theorem zfa {kvs:List (Key × V)}{vs:List (Key × c9)}(kv:KV kvs vs){i:Nat}{k:Key}{x:c9}(e:vs[i]?=some (k,x)):∃ v,kvs[i]?=some (k,v):=by
 have e2:(vs.map (·.1))[i]?=some k:=by rw[l7,e];rfl
 rw[← kv.keys,l7] at e2;obtain⟨⟨k',v⟩,h1,h2⟩:=ubc.mp e2;cases h2;exact⟨v,h1⟩
theorem yI {P:n0}{w:uak}{K:b9}{tg:uby}(a it:j8)(o:Obj)(kvs:List (Key × V)):Turn P w K tg (Itd a o kvs) [it] it (λ i h=>h.IsKeyIter it a i kvs.length (epO o)) where
 mem:=by simp
 obj:=λ i h st b hb=>by
  have e:b=it:=by simpa using hb
  subst e;obtain⟨o,e,c,d⟩:=st;exact⟨o,e,λ v z=>by rw[d] at z;cases z⟩
 keep:=λ i h h' st k=>st.at λ o e=>k it (by simp) o e
 item:=by
  intro X hP hw hK hc i pins s σ H E I hf st hg;subst hP hw hK;obtain⟨ha,hi⟩:=hg;obtain⟨hs,vs,kv,da⟩:=kG I ha;obtain⟨f0,f1,f2,f3,f4,f5⟩:=hf it (by simp);have lv:vs.length=kvs.length:=kv.length.symm;obtain⟨⟨k,x⟩,hx⟩:∃ p,vs[i]?=some p:=⟨vs[i]'(by left),c7 (by left)⟩;obtain⟨v,hv⟩:=zfa kv hx;rw[← lv] at st;refine wpAny_pyNext_dict_item st da hx λ key h' hkey hit' sb=>?_;rw[lv] at hit';have I1:Inv X pins σ H { s with heap:=h' }:=I.turned (t':=s.toks) (λ b o hb e=>(sb.2 b hb).trans e) f0 f1 f3 f4 f5;obtain⟨oo,e,c,d⟩:=id hit';exact⟨key,rfl,iH (s:={ s with heap:=h' }) e c d (by decide) ⟨kV k,H,I1,zdn hkey,⟨rfl,k,v,hv,rfl⟩,hit',λ b hb=>(hf b hb).1⟩⟩
 done:=by
  intro X hP hw hK hc i pins s σ H E I hf st hg;subst hP hw hK;obtain⟨ha,hi⟩:=hg;obtain⟨hs,vs,kv,da⟩:=kG I ha;obtain⟨f0,f1,f2,f3,f4,f5⟩:=hf it (by simp);have lv:vs.length=kvs.length:=kv.length.symm;rw[← lv] at st;exact wpAny_pyNext_dict_end (I.ok.hd hc) st da (by rw[hi,← lv];exact x9 (i6 _)) λ h' eb=>⟨rfl,I.turned (t':=s.toks) (λ b o hb e=>eb b o hb e) f0 f1 f3 f4 f5⟩
 self:=λ _ _ _ _ _ st h=>wpAny_pyIter_keyiter st h
section
variable {X:Cx}{tg:uby}
def iDict (tl:TE):TI:=λ σ H R=>tl σ H λ x H1=>∃ a o kvs,x=.ref a/\H1 a=some (.frz o (.dK kvs))/\R (Itd a o kvs) H1
theorem zda {l:uby}{tl:TE}(hl:PE X l tl):PI X tg l (iDict tl):=by
 intro pins s σ H R I h;refine thn (hl pins s σ H _ I h) λ v s1 ⟨x,H1,I1,r1,q1⟩=>?_;obtain⟨a,o,kvs,e,ha,q⟩:=q1;subst e;cases r1;obtain⟨hs,vs,kv,da⟩:=kG I1 ha;refine wpAny_pyIter_dict hs da ?_;have lv:vs.length=kvs.length:=kv.length.symm;refine⟨s1.heap.objs.size,[s1.heap.objs.size],V,H1,rfl,I1.kept (t':=s1.toks) λ b o e=>a9 _ e,yI a _ o kvs,⟨_,i7 _ rfl,rfl,by rw[lv];rfl⟩,λ b hb=>?_,q⟩;have e:b=s1.heap.objs.size:=by simpa using hb
 subst e;exact I1.fpOk (i6 _) (I1.hok.fresh (i6 _))
end
end L2
namespace L3
open PySem PySem.Spec PyProof.Rows L2
section
variable {own:List Str}{js:List Nat}{g:TG}{te:TE}{tt:TT}{σ:L2.St}{Q:VK}{H1:Hp}
theorem xU {K':b9}{a:j8}{o:Obj}{xs:List (Key × V)}(hx:H1 a=some (.frz o (.dK xs)))(Sg:L2.St->Prop)(sel:Nat->Option r8)(tup:∀ i d,sel i=some d->tupD d=true)(hn:xs.length<=1000)(h0:Sg (start3 own js σ))
  (step:∀ i k y x σ' H',xs[i]?=some (k,y)->x=kV k->Same H1 H'->Sg σ'->∀ (C:L2.St->V->Hp->Prop)(L:L2.St->Hp->Prop),(∀ σ3 v d H5,Sg σ3->Same H' H5->sel i=some d->Is K' H5 d v->C σ3 v H5)->(∀ σ3 H5,Sg σ3->Same H' H5->sel i=none->L σ3 H5) ->
   g x σ' H' λ σ3 H3=>tt σ3 H3 λ b H4=>if b=true then te σ3 H4 λ v H5=>C σ3 v H5 else L σ3 H4)
  (fin:∀ D ys H',H1 D=none->Same H1 H'->H' D=some (.lst ys)->ys.length<=xs.length->IsAll K' H' ((d7 xs.length).filterMap sel) ys->Q (.ref D) H'):CompGo own js g tt te σ Q (Itd a o xs) H1:=by
 intro D hD;have tupI:∀ i,tupAll ((d7 i).filterMap sel)=true:=λ i=>by
  have go:∀ is:List Nat,tupAll (is.filterMap sel)=true:=λ is=>by
   induction is with
   | nil=>rfl
   | cons j r ih =>
    rw[ua2];cases e:sel j with
    | none=>exact ih
    | some d=>show (tupD d&&tupAll (r.filterMap sel))=true;rw[tup j d e,ih];rfl
  exact go _
 refine⟨λ i m ys σ' H'=>m=xs.length-i/\i<=xs.length/\Sg σ'/\Same H1 H'/\ys.length<=i/\IsAll K' H' ((d7 i).filterMap sel) ys,⟨xs.length,rfl,x8 _,h0,aP hD,i6 _,rfl⟩,?_⟩;rintro i m ys σ' H' ⟨rfl,hi,sg,sm,ly,ia⟩ hd;have sq:=sm _ _ hx;by_cases hlt:i<xs.length
 ·refine .inr ⟨⟨sq,hlt⟩,λ x H2 hy=>?_⟩;obtain⟨rfl,k,y,hy,ex⟩:=hy;refine step i k y x σ' _ hy ex sm sg
   (λ σ3 v H5=>H5 D=some (.lst ys)/\ys.length<o7/\∃ m',m'<xs.length-i/\(m'=xs.length-(i+1)/\i+1<=xs.length/\Sg σ3/\Same H1 (upd H5 D (.lst (ys++[v])))/\(ys++[v]).length<=i+1/\IsAll K' (upd H5 D (.lst (ys++[v]))) ((d7 (i+1)).filterMap sel) (ys++[v])))
   (λ σ3 H5=>H5 D=some (.lst ys)/\∃ m',m'<xs.length-i/\(m'=xs.length-(i+1)/\i+1<=xs.length/\Sg σ3/\Same H1 H5/\ys.length<=i+1/\IsAll K' H5 ((d7 (i+1)).filterMap sel) ys)) (λ σ3 v d H5 sg3 s5 e hv=>?_) (λ σ3 H5 sg3 s5 e=>?_)
  ·have hd5:=s5 _ _ hd;have b5:But D H5 (upd H5 D (.lst (ys++[v]))):=λ b o hb z=>by rw[aJ hb];exact z
   refine⟨hd5,ubn (by left:ys.length<=1000) (by decide),xs.length-(i+1),by left,rfl,hlt,sg3,λ b o z=>?_,by rw[i8,k9];left,?_⟩
   ·rw[aJ (aY z hD)];exact s5 _ _ (sm _ _ z)
   ·rw[uba,ua6,show [i].filterMap sel=[d] by simp [e]];exact IsAll.snoc (Is.but b5 hd5 _ (tup i d e) hv) (IsAll.but b5 hd5 _ (tupI i) (IsAll.same s5 _ ia))
  ·refine⟨s5 _ _ hd,xs.length-(i+1),by left,rfl,hlt,sg3,sm.trans s5,by left,?_⟩;rw[uba,ua6,show [i].filterMap sel=[] by simp [e],uct];exact IsAll.same s5 _ ia
 ·have e:i=xs.length:=by left
  subst e;exact .inl ⟨⟨sq,rfl⟩,fin D ys H' hD sm hd ly ia⟩
end
section
variable {X:Cx}
inductive call_dictPF_i  (xs:List V) (H:Hp) (Q:VK):Prop
 | mk:∀ (p:j8)(ys:List V)(kvs:List (Int × V)),(xs=[.ref p])->(H p=some (.tup ys))->(ys.length=kvs.length)->((∀ (i:Nat)(y:V),ys[i]?=some y->∃ (c:j8)(k:Int)(v:V),kvs[i]?=some (k,v)/\y=.ref c/\H c=some (.tup [.int k,v])))->((kvs.map (·.1)).Nodup)->(∀ l o H',Same H H'->H l=none->H' l=some (.frz o (.dK (kvs.map λ p=>(Sum.inl p.1,p.2))))->Q (.ref l) H')->call_dictPF_i xs H Q
theorem lQ (hc:X.calm=true):CallR X (.type "dict") (call_dictPF_i):=by
 intro pins s σ H xs us Q I r h;obtain⟨p,ys,kvs,rfl,hp,hl,hy,nd,q⟩:=h;obtain⟨u,rfl,ru⟩:=vals1 r;cases ru;obtain⟨hz,its,rv,ht⟩:=(show ObjOk X.prog X.w H s.heap p (.tup ys) from I.hok p _ hp);have fr:H s.heap.objs.size=none:=I.hok.fresh (i6 _);have li:its.length=kvs.length:=by rw[← rv.length,hl]
 have pr:∀ (i:Nat)(v:c9),its[i]?=some v->∃ (c:j8)(key val:c9)(k:Int)(x:V),v=Value.ref c/\s.heap.IsTuple c #[key,val]/\kvs[i]?=some (k,x)/\keyIs (.inl k) key=true/\RelV x val:=λ i v hv=>by
  have hi:i<ys.length:=by have:=(j6.mp hv).1;left
  obtain⟨c,k,x,e1,e2,e3⟩:=hy i _ (c7 hi);obtain⟨u,hu,ru⟩:=rv.get (c7 hi);rw[hv] at hu;cases hu;rw[e2] at ru;obtain rfl:v=Value.ref c:=ru;obtain⟨_,us,rus,tn⟩:=(show ObjOk X.prog X.w H s.heap c (.tup [.int k,x]) from I.hok c _ e3);cases rus with
  | cons r1 r2 =>
   cases r2 with
   | cons r2 r3 =>
    cases r3;obtain⟨t,rfl⟩:=r1;exact⟨c,V,k,x,rfl,tn.tup,e1,by simp [keyIs,Value.isInt],r2⟩
 obtain⟨vs,kv,lv,hv⟩:=mO li pr;have nd2:(vs.map (·.1)).Nodup:=by
  have e:vs.map (·.1)=(kvs.map (·.1)).map Sum.inl:=by
   rw[← zdz kv,ua5,ua5];rfl
  rw[e];exact uev _ (λ a b h z=>h (by injection z)) nd
 refine Dp.call_dict_pairs (knd:=mixKind X.prog X.w) (items:=its.toArray) (I.ok.hd hc) ht vs (by rw[j5,lv]) (by rw[lv,li,← hl];exact hz) (λ i v h=>hv i v (by simpa using h)) λ h' tk hd kk=>?_;rw[merged_nil_of_nodup vs nd2] at hd;have lk:(kvs.map λ p=>((Sum.inl p.1,p.2):Key × V)).length<=o7:=by rw[i5,← hl];exact hz
 have big:(s.heap.objs.size==sysModules)=false:=by
  have:=Inv.big I;simp only [beq_eq_false_iff_ne];exact λ z=>by rw[z] at this;exact uay _ this
 obtain⟨oD,es,ep,eD,rD⟩:=id hd;exact⟨.ref s.heap.objs.size,upd H s.heap.objs.size (.frz oD (.dK (kvs.map λ p=>(Sum.inl p.1,p.2)))),I.laid (t':=tk) (o:=.frz oD (.dK (kvs.map λ p=>(Sum.inl p.1,p.2)))) kk (i6 _) ⟨eD,lk,big,vs,kv,hd⟩,rfl,q _ oD _ (aP fr) fr aM⟩
end
theorem hV {H:Hp}{a:j8}{o:Obj}{kvs:List (Key × V)}{k:Key}(e:H a=some (.frz o (.dK kvs))):DGet H a (kV k) (valV kvs k):=.inl ⟨kvs,k,.inr ⟨o,e⟩,P⟩
def BnF (H:Hp)(n:Nat)(ts:List Tie)(ls:List (List Nat))(ys:List V):Prop:=ys.length=n/\∀ v,v<n->∃ d o,ys[v]?=some (.ref d)/\H d=some (.frz o (.dK (bkv n ts ls v)))
theorem BnF.same {H H':Hp}{n:Nat}{ts:List Tie}{ls:List (List Nat)}{ys:List V}(S:Same H H')(h:BnF H n ts ls ys):BnF H' n ts ls ys:=⟨h.1,λ v hv=>let ⟨d,o,e1,e2⟩:=h.2 v hv;⟨d,o,e1,S _ _ e2⟩⟩
def spBunchesF (K:b9):Sp:=λ vs H Q _=>∃ (n:Int)(ts:List Tie)(ls:List (List Nat))(wv lv:V),vs=[wv,lv]/\Is K H (webD n ts) wv/\WebOk n ts/\Lv K H n.toNat ls lv/\∀ l ys H',Same H H'->H l=none->H' l=some (.lst ys)->BnF H' n.toNat ts ls ys->Q (.ref l) H'
def spClTreeF (K:b9):Sp:=λ vs H Q _=>∃ (n:Int)(ts:List Tie)(ls:List (List Nat))(wv:V)(lb:j8)(ys:List V)(w:Nat),vs=[wv,.ref lb,.int (w:Int)]/\Is K H (webD n ts) wv/\WebOk n ts/\H lb=some (.lst ys)/\BnF H n.toNat ts ls ys/\w<n.toNat/\∀ t H',Same H H'->H' t=some (.tup ((clA n ts ls w).map oa))->Q (.ref t) H'
def spClTreesF (K:b9):Sp:=λ vs H Q _=>∃ (n:Int)(ts:List Tie)(ls:List (List Nat))(wv:V)(lb:j8)(ys:List V),vs=[wv,.ref lb]/\Is K H (webD n ts) wv/\WebOk n ts/\H lb=some (.lst ys)/\BnF H n.toNat ts ls ys/\∀ v H',Same H H'->Is K H' (treesD n ts ls) v->Q v H'
noncomputable def dq (ts:List Tie)(u v:Nat):Int:=(dvC ts u v).getD 0
variable {n:Int}{ts:List Tie}{ls:List (List Nat)}{a b:Nat}
theorem qI (ok:WebOk n ts){v w:Nat}(hv:v<n.toNat)(h:w∈bnL n.toNat ts ls v):valV (bkv n.toNat ts ls v) (Sum.inl (w:Int))=some (.int (dq ts v w)):=by
 have hw:=(bnL_mem.mp h).1;have go:∀ l:List Nat,w∈l->valV ((l.map λ (w:Nat)=>((w:Int),V.int ((Far.get (dFC n.toNat ts v) w).getD 0))).map λ p=>((Sum.inl p.1,p.2):Key × V)) (Sum.inl (w:Int))=some (.int (dq ts v w)):=λ l=>by
  induction l with
  | nil=>intro h;cases h
  | cons x r ih =>
   intro h;by_cases z:x=w
   ·subst z;rw[ua8,ua8,gK rfl,show Far.get (dFC n.toNat ts v) x=dvC ts v x from getC hw];rfl
   ·rw[ua8,ua8,gL (λ e=>z (by injection e with e;left))];exact ih ((j4.mp h).resolve_left (Ne.symm z))
 exact go _ h
def Bth (n:Nat)(ts:List Tie)(ls:List (List Nat))(a b w:Nat):Prop:=w∈bnL n ts ls a/\w∈bnL n ts ls b
noncomputable def sdK (ts:List Tie)(a b w:Nat):List Int:=[dq ts a w+dq ts b w,(w:Int)]
def IsSd (n:Nat)(ts:List Tie)(ls:List (List Nat))(a b w:Nat):Prop:=Bth n ts ls a b w/\∀ w',Bth n ts ls a b w'->HT.lexLt (sdK ts a b w') (sdK ts a b w)=false
noncomputable def sdF (n:Nat)(ts:List Tie)(ls:List (List Nat))(a b:Nat):Nat:=Classical.epsilon (IsSd n ts ls a b)
theorem lex2 {x y x' y':Int}(h:HT.lexLt [x,y] [x',y']=false):x'<x\/(x'=x/\y'<=y):=by
 rw[HT.dX,HT.dX] at h;by_cases e:x=x'
 ·rw[ug7 e] at h;by_cases e2:y=y'
  ·exact .inr ⟨e.symm,by left⟩
  ·rw[ug8 e2] at h;have:=ug6 h;exact .inr ⟨e.symm,by left⟩
 ·rw[ug8 e] at h;have:=ug6 h;exact .inl (by left)
theorem zd4 {w w':Nat}(h:IsSd n.toNat ts ls a b w)(h':IsSd n.toNat ts ls a b w'):w=w':=by
 have h1:=lex2 (h.2 w' h'.1);have h2:=lex2 (h'.2 w h.1);left
theorem zd5 {w:Nat}(h:IsSd n.toNat ts ls a b w):w=sdF n.toNat ts ls a b:=zd4 h (Classical.epsilon_spec (p:=IsSd n.toNat ts ls a b) ⟨w,h⟩)
theorem zeh (ls:List (List Nat))(m:Nat)(D:List (Option Int)):∃ o,IsPiv ls m D o:=by
 have go:∀ L:List Nat,(∀ q∈L,Far.get D q=none)\/∃ p∈L,∃ x,Far.get D p=some x/\∀ q∈L,∀ y,Far.get D q=some y->x<=y/\(y=x->topN ls q<=topN ls p/\(topN ls q=topN ls p->p<=q)):=λ L=>by
  induction L with
  | nil=>exact .inl λ q h=>by cases h
  | cons c r ih =>
   cases ec:Far.get D c with
   | none =>
    rcases ih with h | ⟨p,hp,x,ex,a⟩
    ·exact .inl λ q hq=>(j4.mp hq).elim (λ z=>by rw[z];exact ec) (h q)
    ·refine .inr ⟨p,l9 _ hp,x,ex,λ q hq y ey=>?_⟩;rcases j4.mp hq with z | z
     ·rw[z,ec] at ey;cases ey
     ·exact a q z y ey
   | some z0 =>
    rcases ih with h | ⟨p,hp,x,ex,a⟩
    ·refine .inr ⟨c,j3,z0,ec,λ q hq y ey=>?_⟩;rcases j4.mp hq with z | z
     ·rw[z,ec] at ey;cases ey;rw[z];exact⟨uau _,λ _=>⟨i6 _,λ _=>i6 _⟩⟩
     ·rw[h q z] at ey;cases ey
    ·by_cases k:z0<x\/(z0=x/\(topN ls p<topN ls c\/(topN ls p=topN ls c/\c<=p)))
     ·refine .inr ⟨c,j3,z0,ec,λ q hq y ey=>?_⟩;rcases j4.mp hq with z | z
      ·rw[z,ec] at ey;cases ey;rw[z];exact⟨uau _,λ _=>⟨i6 _,λ _=>i6 _⟩⟩
      ·obtain⟨a1,a2⟩:=a q z y ey;refine⟨by left,λ e=>?_⟩;have:=a2 (by left);refine⟨by left,λ e2=>?_⟩;have:=this.2 (by left);left
     ·refine .inr ⟨p,l9 _ hp,x,ex,λ q hq y ey=>?_⟩;rcases j4.mp hq with z | z
      ·rw[z,ec] at ey;cases ey;rw[z];refine⟨by left,λ e=>⟨by left,λ e2=>by left⟩⟩
      ·exact a q z y ey
 rcases go (lvl ls m) with h | ⟨p,hp,x,ex,a⟩
 ·exact⟨none,λ _=>h,λ p e=>by cases e⟩
 ·exact⟨some p,λ e=>(by cases e),λ q e=>by cases e;exact⟨hp,x,ex,a⟩⟩
theorem rS (ok:WebOk n ts)(lo:LevOk n.toNat ls){d:Int}(d0:0<=d):∀ (k j:Nat){w a b:Nat}{Da Db:List (Option Int)}{x:Int},ls.length<=j+k->Cs ts n.toNat ls d j w a b Da Db x->∃ w',w'<n.toNat/\bunB ls Da w'=true/\bunB ls Db w'=true/\∃ x y,Far.get Da w'=some x/\Far.get Db w'=some y/\x+y<=(2*(ls.length:Int)-1)*d
 | k,j,w,a,b,Da,Db,x,hk,h=>by
  have tl:=(dU lo h.wn).1;have tp:=h.tp;cases nb:bunB ls Db w with
  | true =>
   obtain⟨y,ey⟩:=h.yb;have w1:=(h.fa.2 w h.wn).1 x h.xa;have w2:=(h.fb.2 a h.an).1 d h.ba;obtain⟨y2,e2,l2⟩:=(h.fb.2 w h.wn).2 _ (w2.trans w1);rw[ey] at e2;cases e2;refine⟨w,h.wn,h.bu,nb,x,y,h.xa,ey,?_⟩;have lim:=h.lim;have m:(2*(j:Int)+1)*d<=(2*(ls.length:Int)-1)*d:=Int.mul_le_mul_of_nonneg_right (by left) d0;have e:(2*(j:Int)+1)*d=2*(j*d)+d:=by rw[Int.add_mul,Int.one_mul,Int.mul_assoc]
   left
  | false =>
   obtain⟨o,po⟩:=zeh ls (topN ls w+1) Db;obtain⟨p,x',_,_,h'⟩:=h.step ok lo nb po;have tl':=(dU lo h'.wn).1;have tp':=h'.tp
   match k,hk with
   | 0,hk=>left
   | k+1,hk =>
    obtain⟨w',a1,a2,a3,x1,y1,a4,a5,a6⟩:=rS ok lo d0 k (j+1) (by left) h';exact⟨w',a1,a3,a2,y1,x1,a5,a4,by left⟩
theorem zc1 (ok:WebOk n ts)(lo:LevOk n.toNat ls)(an:a<n.toNat)(bn:b<n.toNat){d:Int}(d0:0<=d)(ab:dvC ts a b=some d):∃ w,Bth n.toNat ts ls a b w/\dq ts a w+dq ts b w<=(2*(ls.length:Int)-1)*d:=by
 have st:=Cs.start ok lo (kJ ok a) (kJ ok b) an bn (by rw[show Far.get (dFC n.toNat ts a) b=dvC ts a b from getC bn];exact ab);obtain⟨w,hw,b1,b2,x,y,ex,ey,le⟩:=rS ok lo d0 ls.length 0 (by left) st;rw[show Far.get (dFC n.toNat ts a) w=dvC ts a w from getC hw] at ex;rw[show Far.get (dFC n.toNat ts b) w=dvC ts b w from getC hw] at ey;refine⟨w,⟨bnL_mem.mpr ⟨hw,b1⟩,bnL_mem.mpr ⟨hw,b2⟩⟩,?_⟩;unfold dq;rw[ex,ey];exact le
theorem zav (ok:WebOk n ts){k:Nat}(hk:k<ts.length):∃ d,dvC ts (tieAt ts k).1.toNat (tieAt ts k).2.1.toNat=some d/\0<=d/\d<=(tieAt ts k).2.2:=by
 have m:((tieAt ts k).1.toNat,(tieAt ts k).2.1.toNat,(tieAt ts k).2.2)∈arcs ts (d7 ts.length):=arcs_mem.mpr ⟨k,o9.mpr hk,a2_iff.mpr (.inl ⟨P⟩)⟩;have D:=qB ok (tieAt ts k).1.toNat (tieAt ts k).2.1.toNat;have w:=(Far.Walk.nil (A:=arcs ts (d7 ts.length)) (s:=(tieAt ts k).1.toNat)).snoc m;obtain⟨d,e,le⟩:=D.2 _ w;exact⟨d,e,(D.1 d e).nonneg (fI ok (allOk ts)),by left⟩
end L3
namespace X9
open PySem PySem.Spec PyProof.Rows
structure Chg (S:List j8)(a:j8)(X:List j8)(h h':Heap):Prop where
 keep:∀ b o,b∉S->b≠a->b∉X->h.get? b=some o->h'.get? b=some o
 slot:∀ b o,b≠a->b∉X->h.get? b=some o->∃ sl,h'.get? b=some { o with slots:=sl }
 sz:h.objs.size<=h'.objs.size
structure Fly (h:Heap)(a:j8)(C:c9)(T:j8):Prop where
 ex:∃ oe vs,h.get? a=some oe/\oe.cls=C/\oe.data=.fields vs/\vs[1]?=some (.ref T)/\oe.dict=none
 tr:∃ oT ts,h.get? T=some oT/\oT.data=.fields ts/\ts[3]?=some .none
 ne:T≠a
theorem oU {o:Obj}{vs:Array c9}{f:Array c9->Array c9}(dv:o.data=.fields vs)(dn:o.dict=none):(o.mapFields f).dict=none:=by
 obtain⟨c,d,dt,sl⟩:=o;cases dv;exact dn
section
variable {M:Model}{A:uaj}{E:c9->d8->Prop}{s:d8}
theorem newEntryS {base:Heap}{env:Env}{outer:List Env}{L a:j8}{oe:Obj}{vs:Array c9}{hd0:c9}{nx:Bool}{Q:Unit->d8->Prop}
  (fr:A.frames=some (env::outer)) (ff:s.heap.FunFrames base (env::outer)) (fL:env.frame=some L)
  (ha:s.heap.get? a=some oe) (dv:oe.data=.fields vs) (dn:oe.dict=none) (l1:1<vs.size)
  (q:∀ h' T,s.heap.objs.size<=T->Chg ((env::outer).filterMap (·.frame)) a [] s.heap h'->Fly h' a oe.cls T->Q () { s with heap:=h' }) :
  j7 M A (do let x ← frameOf env;let pl ← entryPlaceOf L nx;let b ← EntryCells.newEntry hd0 x .none (rawInt L) .none pl;setField (.ref a) 1 b)
   (λ _ s'=>j7 M A (setFlight (.ref a) none) Q E s') E s:=by
 have nS:a∉(env::outer).filterMap (·.frame):=λ m=>by
  obtain⟨_,o,h1,h2⟩:=ff.mem m;rw[ha] at h1;cases h1;exact h2 vs dv
 refine a8 (wpAny_frameOf_fun fr ff fL λ h1 so=>a8 (wpAny_entryPlaceOf λ pl hp=>?_));unfold EntryCells.newEntry newFields;refine a8 (v8 ?_ (hp.sizeOk5 _ _ _ _ _));have a1:h1.get? a=some oe:=(so.2.1 a nS).trans ha;have n1:h1.objs.size≠a:=ubh (i9 a1);generalize eo:({ cls:=.type "traceback",dict:=none,data:=.fields ([hd0,.ref L,.none,rawInt L,.none]++(if pl.isEmpty then m5 6 Value.none else pl)).toArray }:Obj)=tb;have dtb:∃ ws:Array c9,tb.data=.fields ws/\3<ws.size:=by
  rw[← eo];exact⟨A,by simp only [j5,i8,ubs,udm];left⟩
 obtain⟨ws,dws,l3⟩:=dtb;have nf:tb.isFreed=false:=Obj.isFreed_of_fields dws;have a2:(h1.push tb).get? a=some oe:=a9 tb a1;refine ubm a2 dv l1 ?_;have d3:=Obj.data_mapFields dv (·.setIfInBounds 1 (Value.ref h1.objs.size));have a3:=uag (Obj.mapFields (·.setIfInBounds 1 (Value.ref h1.objs.size))) a2 (Obj.isFreed_of_fields d3);have t3:((h1.push tb).update a (Obj.mapFields (·.setIfInBounds 1 (Value.ref h1.objs.size)))).get? h1.objs.size=some tb :=
  (j0 _ _ n1.symm).trans (i7 h1 nf)
 unfold setFlight;refine a8 (uab a3 d3 (x:=.ref h1.objs.size) (by simp [l1]) ?_);rw[ug7 (show (Value.ref h1.objs.size != Value.none)=true by simp)];refine ubm t3 dws l3 (q _ h1.objs.size (ubi so.1.symm) ⟨λ b o hb ne _ e=>?_,λ b o ne _ e=>?_,?_⟩ ?_)
 ·have e1:h1.get? b=some o:=(so.2.1 b hb).trans e;rw[j0 _ _ (ubh (i9 e1)),j0 _ _ ne.symm];exact a9 tb e1
 ·obtain⟨sl,e1⟩:=so.2.2 b o e;refine⟨sl,?_⟩;rw[j0 _ _ (ubh (i9 e1)),j0 _ _ ne.symm];exact a9 tb e1
 ·show s.heap.objs.size<=_;rw[uax,uax,uaq,so.1];exact ubv _
 ·refine⟨⟨V,(j0 _ _ n1).trans a3,Obj.cls_mapFields _ _,d3,by simp [l1],oU dv dn⟩,⟨V,uag _ t3 (Obj.isFreed_of_fields (Obj.data_mapFields dws _)),Obj.data_mapFields dws _,by simp [l3]⟩,n1⟩
theorem zI {base:Heap}{env:Env}{outer:List Env}{L a:j8}{oe:Obj}{vs:Array c9}{Q:Unit->d8->Prop}
  (fr:A.frames=some (env::outer)) (ff:s.heap.FunFrames base (env::outer)) (fL:env.frame=some L) (ha:s.heap.get? a=some oe) (dv:oe.data=.fields vs) (dn:oe.dict=none) (v1:vs[1]?=some .none)
  (q:∀ h' T,s.heap.objs.size<=T->Chg ((env::outer).filterMap (·.frame)) a [] s.heap h'->Fly h' a oe.cls T->Q () { s with heap:=h' }):j7 M A (leaving env (.ref a)) Q E s:=by
 unfold leaving noteFrame;simp only [fL];refine a8 (a8 (uab ha dv v1 ?_));rw[ug8 (by decide)];exact newEntryS fr ff fL ha dv dn (ual.mp v1).1 q
theorem zbp {base:Heap}{env:Env}{outer:List Env}{L a T0:j8}{C:c9}{Q:Unit->d8->Prop}
  (fr:A.frames=some (env::outer)) (ff:s.heap.FunFrames base (env::outer)) (fL:env.frame=some L) (fl:Fly s.heap a C T0)
  (q:∀ h' T,s.heap.objs.size<=T->Chg ((env::outer).filterMap (·.frame)) a [T0] s.heap h'->Fly h' a C T->Q () { s with heap:=h' }):j7 M A (leaving env (.ref a)) Q E s:=by
 obtain⟨⟨oe,vs,ha,hc,dv,v1,dn⟩,⟨oT,ts,hT,dT,t3⟩,ne⟩:=fl;subst hc;unfold leaving noteFrame;simp only [fL];refine a8 (a8 (uab ha dv v1 ?_));rw[ug7 (show (Value.ref T0 != Value.none)=true by simp)];refine a8 (uab hT dT t3 ?_);rw[ug8 (show ¬ ((Value.none==rawInt L)=true) by simp [rawInt])];refine a8 (ubm hT dT (ual.mp t3).1 ?_);have oth:∀ b,b≠T0->(s.heap.update T0 (Obj.mapFields (·.setIfInBounds 3 Value.none))).get? b=s.heap.get? b:=λ b hb=>j0 _ _ hb.symm;have rec_:∀ b o,s.heap.get? b=some o->(∀ ws,o.data≠.fields ws)->b≠T0:=λ b o e n z=>by
  rw[z,hT] at e;cases e;exact n ts dT
 refine newEntryS (base:=base) fr (ff.of_keeps λ b o e n=>⟨o,(oth b (rec_ b o e n)).trans e,rfl⟩) fL ((oth a ne.symm).trans ha) dv dn (ual.mp v1).1 λ h' T lt cg fl'=>?_;refine q h' T (o8 (ubi (uax ..).symm) lt) ⟨λ b o hb n1 n2 e=>?_,λ b o n1 n2 e=>?_,o8 (ubi (uax ..).symm) cg.sz⟩ fl'
 ·exact cg.keep b o hb n1 (by simp) ((oth b (by simpa using n2)).trans e)
 ·exact cg.slot b o n1 (by simp) ((oth b (by simpa using n2)).trans e)
theorem zdg {base:Heap}{env:Env}{outer:List Env}{L a T0:j8}{C:c9}{Q:Unit->d8->Prop}
  (fr:A.frames=some (env::outer)) (ff:s.heap.FunFrames base (env::outer)) (fL:env.frame=some L) (fl:Fly s.heap a C T0)
  (q:∀ h' T,s.heap.objs.size<=T->Chg ((env::outer).filterMap (·.frame)) a [T0] s.heap h'->Fly h' a C T->Q () { s with heap:=h' }):j7 M A (noteFrame (.ref a) env) (λ _ s'=>j7 M A (setFlight (.ref a) none) Q E s') E s:=by
 obtain⟨⟨oe,vs,ha,hc,dv,v1,dn⟩,⟨oT,ts,hT,dT,t3⟩,ne⟩:=fl;subst hc;unfold noteFrame;simp only [fL];refine a8 (uab ha dv v1 ?_);rw[ug7 (show (Value.ref T0 != Value.none)=true by simp)];refine a8 (uab hT dT t3 ?_);rw[ug8 (show ¬ ((Value.none==rawInt L)=true) by simp [rawInt])];refine a8 (ubm hT dT (ual.mp t3).1 ?_);have oth:∀ b,b≠T0->(s.heap.update T0 (Obj.mapFields (·.setIfInBounds 3 Value.none))).get? b=s.heap.get? b:=λ b hb=>j0 _ _ hb.symm;have rec_:∀ b o,s.heap.get? b=some o->(∀ ws,o.data≠.fields ws)->b≠T0:=λ b o e n z=>by
  rw[z,hT] at e;cases e;exact n ts dT
 refine newEntryS (base:=base) fr (ff.of_keeps λ b o e n=>⟨o,(oth b (rec_ b o e n)).trans e,rfl⟩) fL ((oth a ne.symm).trans ha) dv dn (ual.mp v1).1 λ h' T lt cg fl'=>?_;refine q h' T (o8 (ubi (uax ..).symm) lt) ⟨λ b o hb n1 n2 e=>?_,λ b o n1 n2 e=>?_,o8 (ubi (uax ..).symm) cg.sz⟩ fl'
 ·exact cg.keep b o hb n1 (by simp) ((oth b (by simpa using n2)).trans e)
 ·exact cg.slot b o n1 (by simp) ((oth b (by simpa using n2)).trans e)
end
end X9
namespace X9
open PySem PySem.Spec PyProof.Rows PySem.W
structure XC (K:Frag)(C:j8):Prop where
 ga:findIn K (.ref C) "__getattribute__"=some (some (.builtin "BaseException.__getattribute__"))
 gt:findIn K (.ref C) "__getattr__"=some none
 cl:findIn K (.ref C) "__class__"=some (some (.builtin "object.__class__"))
 ob:mroIn K C (.type "object")=some true
 be:subIn K (.ref C) (.type "BaseException")=some true
 is:(clsIn K C).isSome=true
section
variable {prog:n0}{w:uak}{A:uaj}{E:c9->d8->Prop}{K:Frag}{h:Heap}{g:Array GenState}{d:Drawn}{t:Nat}{os:OsState}{a C:j8}{o:Obj}
theorem zX {tk:Tok}{Q:Fin->d8->Prop}(c:XC K C)(X:K.In h)(hx:h.get? a=some o)(hc:o.cls=.ref C)(hd:∃ vs,o.data=.fields vs)(hdn:o.dict=none)(hq:Q (.done (.ret (.ref C))) ⟨h,g,d,t,os⟩) :
  j7 (p9 prog w) A (Builtin.«object.__getattribute__» ⟨[.ref a,.str "__class__" tk],[]⟩) Q E ⟨h,g,d,t,os⟩:=by
 have I:InstAt h a o C none:=⟨hx,hc,by obtain⟨vs,e⟩:=hd;unfold notCls;rw[e],by rw[hdn];trivial⟩;have L0:=I.type (M:=p9 prog w);have L1:=looks_findIn (M:=p9 prog w) X c.cl;have hT5:(⟨h,g,d,t,os⟩:d8).TypeIs (.builtin "object.__class__") "getset_descriptor":=F.typeOf_object_class;have f5:=F.typeOf_object_class;have f6:=F.slot_gs_get.lookup;have f7:=F.slot_gs_set.lookup
 repeat (any_goals (first | assumption | (with_reducible refine wpAny_loadPart_at hx ?_;rw[hc]) | (with_reducible refine L1.at ?_) | wp_step))
 refine class_get X I c.ob ?_;exact c8 hq
theorem zY {M:Model}{nv:c9}{Q:Unit->d8->Prop}(c:XC K C)(X:K.In h)(hx:h.get? a=some o)(hc:o.cls=.ref C)(hd:∃ vs,o.data=.fields vs)(hdn:o.dict=none)(hq:Q () ⟨h,g,d,t,os⟩) :
  j7 M A (checkBuiltinCall "BaseException.__getattribute__" ⟨[.ref a,nv],[]⟩) Q E ⟨h,g,d,t,os⟩:=by
 have hk:builtinKind "BaseException.__getattribute__"=some .slot:=by symm
 have hs:splitId "BaseException.__getattribute__"=some ("BaseException","__getattribute__"):=by symm
 have ha:=F.args_bexc_ga (.ref a) nv;have I:InstAt h a o C none:=⟨hx,hc,by obtain⟨vs,e⟩:=hd;unfold notCls;rw[e],by rw[hdn];trivial⟩;have L0:=I.type (M:=M);have L1:=looks_subIn (M:=M) X c.be;simp only [checkBuiltinCall,hk,hs];refine a8 ?_;unfold isInstance;refine a8 (L0.at (L1.at ?_))
 repeat (any_goals (first | assumption | wp_step))
theorem ze1 {tk:Tok}{Q:c9->d8->Prop}(c:XC K C)(X:K.In h)(hx:h.get? a=some o)(hc:o.cls=.ref C)(hd:∃ vs,o.data=.fields vs)(hdn:o.dict=none)(hq:Q (.ref C) ⟨h,g,d,t,os⟩) :
  j7 (p9 prog w) A (getAttrBy (.ref a) (.str "__class__" tk) false) Q E ⟨h,g,d,t,os⟩:=by
 have I:InstAt h a o C none:=⟨hx,hc,by obtain⟨vs,e⟩:=hd;unfold notCls;rw[e],by rw[hdn];trivial⟩;have L0:=I.type (M:=p9 prog w);have L1:=looks_findIn (M:=p9 prog w) X c.ga;have L2:=looks_findIn (M:=p9 prog w) X c.gt;have f3:=ufx.ga.bind (.ref a);have hx2:(Value.builtin "BaseException.__getattribute__"==Value.builtin "object.__getattribute__")=false:=by symm
 have hx1:(onTheHeap (Value.ref C)&&Value.builtin "BaseException.__getattribute__"==Value.builtin "object.__getattribute__")=false:=by rw[hx2];rfl
 unfold getAttrBy;refine uae (a8 (L0.at (a8 (L1.at ?_))));simp only [hx1];rw[ug8 (by decide)];unfold getAttrByItsOwn hookBefore;rw[ug7 (show onTheHeap (Value.ref C)=true from rfl)];refine a8 (L2.at (a8 (ucq (uae ?_))));unfold callGetattribute;rw[ug8 (by decide)];unfold boundAndCalled;rw[f3];refine a8 (c8 ?_);refine ufd (ud9 ufx.ga.plain F.entry_bexc_ga (zY c X hx hc hd hdn (zX c X hx hc hd hdn ?_)))
 repeat (any_goals (first | assumption | wp_step))
theorem zcb {Q:Option c9->d8->Prop}(c:XC K C)(X:K.In h)(hx:h.get? a=some o)(hc:o.cls=.ref C)(hd:∃ vs,o.data=.fields vs)(hdn:o.dict=none)(hq:Q (some (.ref C)) ⟨h,g,d,t+1,os⟩) :
  j7 (p9 prog w) A (getAttr? (.ref a) "__class__") Q E ⟨h,g,d,t,os⟩:=by
 unfold getAttr? getAttrBy?;refine a8 (wpAny_mkText (a8 (ucq (ze1 c X hx hc hd hdn ?_))));exact c8 hq
end
def IsX (a C:j8)(h:Heap):Prop:=∃ o,h.get? a=some o/\o.cls=.ref C/\(∃ vs,o.data=.fields vs)/\o.dict=none
theorem IsX.no {a C:j8}{h:Heap}(x:IsX a C h):∃ o,InstAt h a o C none:=by
 obtain⟨o,hx,hc,hd,hdn⟩:=x;exact⟨o,hx,hc,by obtain⟨vs,e⟩:=hd;unfold notCls;rw[e],by rw[hdn];trivial⟩
theorem jH {K:Frag}{a C:j8}(c:XC K C):KitX K (.ref a) (.ref C) (IsX a C) where
 ty:=λ _ _ _ x=>let ⟨_,I⟩:=x.no;I.type
 it:=λ _ _ X _=>by
  have z:=c.is;unfold clsIn at z;split at z
  ·rename_i e;intro A' Q' E' s' k q;unfold isType loadHead;exact a8 (wpAny_loadPart (k _ _ (X _ _ e)) (c8 q))
  ·cases z
 ne:=λ h tp dd its n sl X e=>by
  refine uaw.mpr λ q=>?_;have z:=c.is;cases Value.ref.inj (beq_iff_eq.mp q);unfold clsIn at z;split at z
  ·rename_i e2;cases (X _ _ e2).symm.trans e
  ·cases z
 ca:=λ {_ _ _ _ _ s} X x k=>by
  obtain⟨h,g,d,t,os⟩:=s;obtain⟨o,hx,hc,hd,hdn⟩:=x;exact zcb c X hx hc hd hdn k
end X9
namespace X9
open PySem PySem.Spec PyProof.Rows
theorem lZ {α:Type}{p:α->Bool}:∀ {l:List α}{i:Nat},(∀ x,l[i]?=some x->p x=false)->(l.eraseIdx i).find? p=l.find? p
 | [],i,_=>by simp
 | a::l,0,h=>by
  have:=h a rfl;simp [uch,this]
 | a::l,i+1,h=>by
  rw[List.eraseIdx_cons_succ,uch,uch,lZ (l:=l) (i:=i) λ x e=>h x (by simpa using e)]
theorem zcy {v:c9}{x y:Str}(h:v.isStr x=true)(n:y≠x):v.isStr y=false:=by
 cases v with
 | str s t =>
  have e:s=x:=by simpa [Value.isStr] using h
  subst e;simpa [Value.isStr] using λ z=>n z.symm
 | _=>cases h
section
variable {M:Model}{A:uaj}{E:c9->d8->Prop}{s:d8}
theorem nsDelS {a:j8}{m:Str->Option c9}{name:Str}{Q:Bool->d8->Prop}(hn:s.heap.Ns a m)(hs:(m name).isSome=true)
  (hQ:∀ h' m',h'.Ns a m'->(∀ x,x≠name->m' x=m x)->Heap.SameBut a s.heap h'->Q true { s with heap:=h' }):j7 M A (nsDel a name) Q E s:=by
 obtain⟨o,es,ep,ho,hd,hk,hm⟩:=id hn;have has:es.any (·.key.isStr name)=true:=by
  rw[← hm name] at hs;unfold nsFind findBy at hs;rw[Option.isSome_map,Array.find?_isSome] at hs;obtain⟨x,hx,hp⟩:=hs;rw[Array.any_eq_true];obtain⟨i,hi,rfl⟩:=Array.mem_iff_getElem.mp hx;exact⟨i,hi,hp⟩
 have hh:nsHas name o=pure true:=by
  rw[nsHas_eq];unfold nsHasByArray;rw[hd];show (if (es.any λ x=>x.key.isStr name)=true then _ else _)=_;rw[has];rfl
 unfold nsDel;refine a8 (wpAny_loadPart ho ?_);rw[hh];refine a8 (c8 ?_);rw[ug7 rfl];refine a8 (wpAny_updatePart ho (c8 ?_));obtain⟨cl,d,dt,sl⟩:=o;subst hd;cases hi:es.findIdx? (·.key.isStr name) with
 | none =>
  rw[Array.findIdx?_eq_none_iff] at hi;rw[Array.any_eq_true] at has;obtain⟨i,h1,h2⟩:=has;have:=hi _ (Array.getElem_mem h1);rw[h2] at this;cases this
 | some i =>
  have e1:(Obj.dropName name ⟨cl,d,.dict es ep,sl⟩)=⟨cl,d,.dict (es.eraseIdxIfInBounds i) (ep+1),sl⟩:=by
   simp only [Obj.dropName_eq,Obj.dropNameByArray,hi] <;> rfl
  have g:=uag (Obj.dropName name) ho (by rw[e1];rfl);rw[e1] at g;refine hQ _ (nsFind (es.eraseIdxIfInBounds i)) ⟨V,_,g,rfl,hk.erase i,λ _=>rfl⟩ (λ x nx=>?_) (ubz ..);rw[← hm x];unfold nsFind findBy;rw[← uea,← uea,Array.toList_eraseIdxIfInBounds];rw[lZ];intro y hy;obtain⟨h1,h2,_⟩:=Array.findIdx?_eq_some_iff_getElem.mp hi;rw[ubw,ubb h1] at hy;cases hy;exact zcy h2 nx
theorem nameGoesS {env:Env}{n:Str}{pos:Pos}{m:Str->Option c9}{Q:Unit->d8->Prop}(hl:env.kindOf n=some .local)(hn:s.heap.Ns env.locals m)
  (hp:(env.scope.kind==.class||(env.scope.kind==.module&&env.locals != env.globals))=false)
  (h:∀ h' m',h'.Ns env.locals m'->(∀ x,x≠n->m' x=m x)->Heap.SameBut env.locals s.heap h'->Q () { s with heap:=h',toks:=s.toks+1 }) :
  j7 M A (do bindName env n .none;unbindBehindTheSuite env n pos) Q E s:=by
 refine a8 (wpAny_bindName (wpAny_storeName_local hl hn (λ h1 n1 s1=>?_) hp));unfold unbindBehindTheSuite;refine ue0 ?_;unfold unbindName;refine a8 (wpAny_point (a8 ?_));unfold deleteName;simp only [hl,hp];rw[ug8 (by decide)];refine a8 (nsDelS n1 (by simp) λ h2 m2 n2 k2 s2=>?_);simp only [if_true,Bool.not_true,ua4,if_false];exact c8 (wpAny_point (h h2 m2 n2 (λ x nx=>by rw[k2 x nx];simp [nx]) (s1.trans s2)))
end
end X9
namespace L3
open PySem PySem.Spec PyProof.Rows L2 X9
def CX1 (P:n0)(w:uak):CXT:=λ outer H s E e s'=>∃ a C T H',e=.ref a/\s'.os=s.os/\AllBare s'.gens/\Un (frs outer) [] H H' s.heap s'.heap/\HOk P w H' s'.heap/\Fly s'.heap a (.ref C) T /\
 s.heap.get? a=none/\s.heap.get? T=none/\H' a=none/\H' T=none/\E (.ref C) none H'
section
variable {X:Cx}{pins:List (j8 × Obj)}{σ:L2.St}{H:Hp}{s:d8}
theorem gP (I:Inv X pins σ H s)(hex:X.ex=[]){h2:Heap}{a:j8}{Xs:List j8}(cg:Chg (frs X.stack) a Xs s.heap h2)(ha:X.s₀.heap.get? a=none/\H a=none)(hx:∀ b∈Xs,X.s₀.heap.get? b=none/\H b=none) :
  Un X.fs [] X.H₀ H X.s₀.heap h2/\HOk X.prog X.w H h2:=by
 have old:∀ b o,X.s₀.heap.get? b=some o->b≠a/\b∉Xs:=λ b o e=>by
  exact⟨λ z=>(by rw[z,ha.1] at e;cases e),λ z=>(by rw[(hx b z).1] at e;cases e)⟩
 have nL:∀ b o,X.s₀.heap.get? b=some o->b≠X.env.locals:=λ b o e z=>by
  have l:=i9 e;exact uay _ (o0 l (z ▸ I.ok.above))
 have ub:Un X.fs [] X.H₀ H X.s₀.heap s.heap:=by have:=I.base;rw[hex] at this;exact this
 refine⟨⟨λ b o e n nf _=>?_,λ b o e n mf _=>?_,ub.free,λ b o e _=>?_,ub.tups,ub.frzs,ub.tbls⟩,λ b u e=>?_⟩
 ·have e1:=ub.keep b o e n nf (by simp);refine cg.keep b o (λ z=>?_) (old b o e).1 (old b o e).2 e1;rcases j4.mp (I.stkSub b z) with q | q
  ·exact nL b o e q
  ·exact nf q
 ·obtain⟨sl,e1⟩:=ub.slot b o e n mf (by simp);obtain⟨sl',e2⟩:=cg.slot b _ (old b o e).1 (old b o e).2 e1;exact⟨sl',e2⟩
 ·obtain⟨o',e1⟩:=ub.there b o e (by simp);obtain⟨sl,e2⟩:=cg.slot b _ (old b o e).1 (old b o e).2 e1;exact⟨_,e2⟩
 ·refine (I.hok b u e).stay (λ c v hc q=>?_) (λ _ q=>q) λ _ _ q=>q;have hc':H c≠none:=by
   rcases hc with z | z
   ·rw[z,e];simp
   ·rw[z];simp
  exact cg.keep c v (λ z=>hc' (I.stkFree c z)) (λ z=>hc' (z ▸ ha.2)) (λ z=>hc' (hx c z).2) q
end
theorem cB {X:Cx}{pins:List (j8 × Obj)}{σ:L2.St}{H:Hp}{s:d8}(I:Inv X pins σ H s)(hex:X.ex=[]){a:j8}(h:s.heap.get? a=none):X.s₀.heap.get? a=none:=by
 cases e:X.s₀.heap.get? a with
 | none=>rfl
 | some o =>
  obtain⟨o',e'⟩:=I.base.there a o e (by rw[hex];simp);rw[h] at e';cases e'
theorem mP {P:n0}{w:uak}{H:Hp}{h:Heap}{a:j8}:∀ {u:HO},ObjOk P w H h a u->∃ o,h.get? a=some o:=by
 intro u x;induction u with
 | lst xs=>obtain⟨_,_,_,_,e⟩:=x;exact⟨_,e⟩
 | tup xs=>obtain⟨_,_,_,o,e,_⟩:=x;exact⟨o,e⟩
 | dK kvs=>obtain⟨_,_,_,_,o,_,_,e,_⟩:=x;exact⟨o,e⟩
 | dT kvs=>obtain⟨_,_,_,_,o,_,_,e,_⟩:=x;exact⟨o,e⟩
 | set S n=>obtain⟨o,_,_,_,e,_⟩:=x;exact⟨o,e⟩
 | ins C dx fs=>obtain⟨_,_,_,e,_⟩:=x;exact⟨_,e⟩
 | own _=>exact x
 | xd fs=>obtain⟨_,⟨o,_,_,e,_⟩,_⟩:=x;exact⟨o,e⟩
 | rng lo hi=>obtain⟨_,_,_,e⟩:=x;exact⟨_,e⟩
 | frz o u _=>exact⟨_,x.1⟩
 | tbl ps=>exact⟨_,x⟩
 | met f y=>exact⟨_,x⟩
 | ext φ=>exact x.2.1
theorem zdq {P:n0}{w:uak}{H:Hp}{h:Heap}(x:HOk P w H h){a:j8}(e:h.get? a=none):H a=none:=by
 cases q:H a with
 | none=>rfl
 | some u=>obtain⟨o,z⟩:=mP (x a u q);rw[e] at z;cases z
theorem passes1 {P:n0}{w:uak}{K:b9}{mg:Str->Option c9}{base:Heap}{N:List Str}{qual:Str}{scope:ue1}{f:j8}{cd:c9}{A:uaj}{outer:List Env}{s:d8}{H:Hp}{E:XK} :
  Passes (CX1 P w) (cxOf (CX1 P w) P w K mg base N qual scope f cd A outer s H E) E:=by
 intro pins σ H1 s1 e s2 I h;obtain⟨a,C,T,H2,rfl,os,bare,un,hok,fl,la,lT,na,nT,q⟩:=h;have I2:Inv (cxOf (CX1 P w) P w K mg base N qual scope f cd A outer s H E) pins σ H2 s2:=I.call' os un hok bare (λ b z=>absurd z (by simp));have sz:=I.sz;show j7 _ _ (leaving _ _) _ _ _;refine zbp (base:=base) I2.ok.frames I2.stack rfl fl λ h' T' lt cg fl'=>?_;obtain⟨u,ho⟩:=gP I2 rfl cg ⟨cB I rfl la,na⟩ (λ b hb=>by rw[l8.mp hb];exact⟨cB I rfl lT,nT⟩);refine⟨a,C,T',H2,rfl,I2.os,I2.bare,u,ho,fl',cB I rfl la,cB I2 rfl (ucr lt),na,I2.hok.fresh lt,q⟩
def nsB (K:b9)(N:j8)(x:Str):Bool:=match K.lookup N with
 | some ⟨_,_,.dict es _,_⟩=>(es.toList.all λ e=>match e.key with | .str _ _=>true | _=>false)&&(es.toList.find? (·.key.isStr x)).isNone
 | _=>false
theorem rN {K:b9}{N:j8}{x:Str}(e:nsB K N x=true):∃ m:Str->Option c9,m x=none/\∀ h:Heap,K.In h->h.Ns N m:=by
 unfold nsB at e;split at e
 ·rename_i c d es n sl ho;obtain⟨e1,e2⟩:=(uaa _ _).mp e;refine⟨nsFind es,?_,λ h X=>⟨_,es,n,X _ _ ho,rfl,λ en hen=>?_,λ _=>rfl⟩⟩
  rotate_left
  ·have:=uas.mp e1 en (ue5.mpr hen);cases k:en.key with
   | str y t=>exact⟨y,t,rfl⟩
   | _=>rw[k] at this;cases this
  ·unfold nsFind findBy;rw[← uea];cases z:es.toList.find? (·.key.isStr x) with
   | none=>rfl
   | some y=>rw[z] at e2;cases e2
 ·cases e
inductive TailK (K:b9):List c9->Prop
 | base:TailK K [.type "ValueError",.type "Exception",.type "BaseException",.type "object"]
 | own {A:j8} {c0:c9} {dd:Option j8} {cd:ClassData} {sl:Array (Option c9)} {tl:List c9}:K.lookup A=some ⟨c0,dd,.cls cd,sl⟩->nsB K cd.ns "__init__"=true->TailK K tl->TailK K (.ref A::tl)
theorem TailK.tail {K:b9}{h:Heap}{l:List c9}(X:K.In h)(t:TailK K l):OwnTail h [.type "ValueError",.type "Exception",.type "BaseException",.type "object"] l:=by
 induction t with
 | base=>exact .base
 | own a b _ ih=>obtain⟨m,h1,h2⟩:=rN b;exact .own (X _ _ a) (h2 h X) h1 ih
def XM (K:b9)(C:j8):Prop:=∃ nm q N bs bm hdct sn sub ab col dd k0 k1 k2 k3 k5,K.lookup C=some (excClassObj nm q C N bs bm hdct sn sub ab col dd k0 k1 k2 k3 k5 "ValueError.__new__")/\nsB K N "__init__"=true/\TailK K bm/\bm.contains (.type "BaseException")=true
theorem zbb {P:n0}{w:uak}{K:b9}{mg:Str->Option c9}{base:Heap}{N:List Str}{qual:Str}{scope:ue1}{f:j8}{cd:c9}{A:uaj}{outer:List Env}{s:d8}{H:Hp}{E:XK}{x:Str}{C:j8}{np cpos pos:Pos}{m:Str}{j:Nat}{p2:Pos}
  (hh:A.handled=none) (hg:Gl (cxOf (CX1 P w) P w K mg base N qual scope f cd A outer s H E) x) (hm:mg x=some (.ref C)) (c:XM K C) (hdb:(x==("__debug__":Str))=false:=by decide) :
  PS (cxOf (CX1 P w) P w K mg base N qual scope f cd A outer s H E) (.Raise (some (.Call (.Name x np) [.Constant (.str m) j p2] [] cpos)) none pos) (λ _ _ H1=>E (.ref C) none H1):=by
 intro pins s1 σ H1 D I h;obtain⟨nm,q,NN,bs,bm,hdct,sn,sub,ab,col,dd,k0,k1,k2,k3,k5,hC,hN,hT,hb⟩:=c;have B:=F.excBase_ValueError;obtain⟨mN,hni,hns⟩:=rN hN;refine wpAny_Raise_call_subU (nm:=nm) (q:=q) (N:=NN) (bs:=bs) (bm:=bm) (hdct:=hdct) (sn:=sn) (sub:=sub) (ab:=ab) (col:=col) (dd:=dd) (k0:=k0) (k1:=k1) (k2:=k2) (k3:=k3) (k5:=k5) B (by decide) B (mN:=mN) hb hh rfl hni (fN I hg hm ⟨rfl,?_⟩ hdb);refine PySem.Calls.evalArgs_plain (x:=eval (.Constant (.str m) j p2) _) (rest:=[]) ?_;have pa:=aA (X:=cxOf (CX1 P w) P w K mg base N qual scope f cd A outer s H E) (iC (x:=m) (j:=j) (pos:=p2)) aB;refine thn (pa cpos pins s1 σ H1 (λ vs J=>vs.length<=1000/\E (.ref C) none J) I ⟨(by show 1<=1000;decide),h⟩) λ us s2 ⟨vs,H2,I2,r,l1,q2⟩=>?_;have X2:=I2.kIn;refine⟨rfl,?_,X2 _ _ hC,hns _ X2,hT.tail X2,λ h' e mx=>?_⟩
 ·show us.length<=o7;rw[← r.length];exact o8 l1 (by decide)
 obtain⟨tt,he,hnt,htt⟩:=mx.there;have I3:Inv (cxOf (CX1 P w) P w K mg base N qual scope f cd A outer s H E) pins σ H2 { s2 with heap:=h' }:=I2.kept mx.keeps;show j7 _ _ (leaving _ _) _ _ _;refine zI (base:=base) I3.ok.frames I3.stack rfl he rfl rfl rfl λ h2 T lt cg fl=>?_;have fe:=zdq I2.hok mx.new;obtain⟨u,ho⟩:=gP I3 rfl cg ⟨cB I2 rfl mx.new,fe⟩ (λ b hb=>by cases hb);exact⟨e,C,T,H2,rfl,I3.os,I3.bare,u,ho,fl,cB I2 rfl mx.new,cB I3 rfl (ucr lt),fe,I3.hok.fresh lt,q2⟩
def OkX (P:n0)(w:uak)(K:b9)(mg:Str->Option c9)(base:Heap)(k:Nat)(x:Str)(ps:List Str)(sp:Sp):Prop :=
 ∃ (f:j8)(fd:FuncData),FnOk P w K mg base (CX1 P w) k f fd ps sp/\Binds K fd ps []/\udc K (.ref f)=true/\mg x=some (.ref f)
section
variable {P:n0}{w:uak}{K:b9}{mg:Str->Option c9}{base:Heap}{x:Str}{ps N:List Str}{sp:Sp}{k:Nat}{st:uc9}
theorem OkX.mono {j:Nat}(O:OkX P w K mg base j x ps sp)(h:j<=k):OkX P w K mg base k x ps sp:=let ⟨f,fd,F,r⟩:=O;⟨f,fd,F.mono h,r⟩
theorem dG (D:DefOk K mg x st ps)(S:FnScope N ps (defScope st))(len:∀ vs H Q E,sp vs H Q E->vs.length=ps.length)
  (hbody:∀ (f:j8)(cdv:c9)(A:uaj)(outer:List Env)(s:d8)(H:Hp)(vs:List V)(Q:VK)(E:XK),Room k (A.deeper (envOfC x (defScope st) s.heap.objs.size f cdv))->sp vs H Q E ->
   ∃ t,PSs (cxOf (CX1 P w) P w K mg base N x (defScope st) f cdv A outer s H E) (defBody st) t/\t { nx:=λ _ H'=>Q .non H',rt:=Q } (start N vs) H):OkX P w K mg base (k+1) x ps sp:=by
 obtain⟨f,fd,F,b,m⟩:=D;have kp:=F.kp;obtain⟨oc,od,kV,doc,pm,an,cdv,ct,osl,rfl,lk,hcd⟩:=F.ex;exact⟨f,_,rQ lk hcd S len λ A outer s H vs Q E hr h=>hbody f cdv A outer s H vs Q E hr h,b,kp,m⟩
theorem cT {qual:Str}{scope:ue1}{f:j8}{cd:c9}{A:uaj}{outer:List Env}{s:d8}{H:Hp}{E:XK}{p pos:Pos}{e:uby}{es:List uby}{t:TA}(O:OkX P w K mg base k x ps sp)
  (hr:Room k (cxOf (CX1 P w) P w K mg base N qual scope f cd A outer s H E).A) (hg:Gl (cxOf (CX1 P w) P w K mg base N qual scope f cd A outer s H E) x) (ha:PA (cxOf (CX1 P w) P w K mg base N qual scope f cd A outer s H E) (e::es) t)
  (hdb:(x==("__debug__":Str))=false:=by decide) (he:uav (e::es) (cxOf (CX1 P w) P w K mg base N qual scope f cd A outer s H E).env=(false,eval e (cxOf (CX1 P w) P w K mg base N qual scope f cd A outer s H E).env)::uav es (cxOf (CX1 P w) P w K mg base N qual scope f cd A outer s H E).env:=by rfl) (hpl:(backTo pos (uav es (cxOf (CX1 P w) P w K mg base N qual scope f cd A outer s H E).env)).any (·.1)=false:=by rfl) :
  PE (cxOf (CX1 P w) P w K mg base N qual scope f cd A outer s H E) (.Call (.Name x p) (e::es) [] pos) (tCall sp [] E t):=by
 obtain⟨g,fd,F,b,kp,m⟩:=O;exact jQ F hr hg m kp b .nil passes1 ha hdb he hpl
end
theorem PA.nox {X:Cx}{es:List uby}{t:TA}(h:PA X.nox es t):PA X es t:=λ pos pins s σ H Q I hw =>
 ua9 (h pos pins s σ H Q (I.wish _) hw) (λ _ _ ⟨v,H',I',r,q⟩=>⟨v,H',I'.unwish,r,q⟩) λ _ _ z=>False.elim z
theorem zcf {X:Cx}{k:Nat}{x:Str}{ps:List Str}{sp:Sp}{E:XK}{p pos:Pos}{e:uby}{es:List uby}{t:TA}(O:OkX X.prog X.w X.K X.mg X.base k x ps sp)(hr:Room k X.A)(hg:Gl X x)(ha:PA X.nox (e::es) t)
  {pins:List (j8 × Obj)} {s:d8} {σ:L2.St} {H:Hp} {Q:VK} {Z:c9->d8->Prop} (I:Inv X pins σ H s) (h:t σ H λ vs H1=>sp vs H1 Q E)
  (hz:∀ H1 s1 ev s',Inv X pins σ H1 s1->CX1 X.prog X.w X.stack H1 s1 E ev s'->Z ev s')
  (hdb:(x==("__debug__":Str))=false:=by decide) (he:uav (e::es) X.env=(false,eval e X.env)::uav es X.env:=by rfl) (hpl:(backTo pos (uav es X.env)).any (·.1)=false:=by rfl) :
  j7 (p9 X.prog X.w) X.A (eval (.Call (.Name x p) (e::es) [] pos) X.env) (EP X pins σ Q) Z s:=by
 obtain⟨f,fd,F,hb,hk,hm⟩:=O;have ha':PA (X.wish Z) (e::es) t:=PA.nox (X:=X.wish Z) ha;have I':Inv (X.wish Z) pins σ H s:=I.wish Z;refine ud0 (fN I hg hm ?_ hdb);refine PySem.W.callWith_K (h₀:=X.base) I.ok.mod.kin hk (thn (ha' pos pins s σ H _ I' h) λ us s1 ⟨vs,H1,I1,r,q⟩=>⟨I1.kIn,?_⟩) he hpl;have J:=I1.unwish;have hl:us.length=ps.length:=by rw[← r.length];exact F.len _ _ _ _ q
 have bd:=hb s1 us J.kIn (by rw[uct];exact hl);rw[uct] at bd;refine ufd (udf (F.run X.A X.stack s1 H1 ⟨us,[]⟩ us vs Q E hr J.env0 bd r q) λ rr s2 hq=>?_);cases rr with
 | error ev=>exact hz H1 s1 ev s2 J hq
 | ok fl =>
  cases fl with
  | ret u=>exact J.after hq
  | next=>exact False.elim hq
  | brk=>exact False.elim hq
  | cont=>exact False.elim hq
section
variable {X:Cx}{pins:List (j8 × Obj)}{σ:L2.St}{H:Hp}{s:d8}
structure Off (X:Cx)(pins:List (j8 × Obj))(H:Hp)(a:j8):Prop where
 s0:X.s₀.heap.get? a=none
 no:H a=none
 lc:a≠X.env.locals
 cl:∀ x c,X.env.cells.lookup x=some c->c≠a
 pn:∀ p∈X.pn++pins,p.1≠a
theorem kB (I:Inv X pins σ H s)(hex:X.ex=[]){a:j8}(h:s.heap.get? a=none){H':Hp}(n:H' a=none):Off X pins H' a:=by
 refine⟨cB I hex h,n,λ z=>?_,λ x c e z=>?_,λ p hp z=>?_⟩
 ·obtain⟨m,⟨o,_,_,ho,_⟩,_⟩:=I.loc;rw[← z,h] at ho;cases ho
 ·obtain⟨v,o,ho,_⟩:=I.cell x c e;rw[z,h] at ho;cases ho
 ·have:=(I.pin p hp).1;rw[z,h] at this;cases this
theorem oK (I:Inv X pins σ H s)(hex:X.ex=[]){h2:Heap}{a:j8}{Xs:List j8}{tk:Nat}(cg:Chg (frs X.stack) a Xs s.heap h2)(oa:Off X pins H a)(ox:∀ b∈Xs,Off X pins H b) :
  Inv X pins σ H { s with heap:=h2,toks:=tk }:=by
 obtain⟨u,ho⟩:=gP I hex cg ⟨oa.s0,oa.no⟩ λ b hb=>⟨(ox b hb).s0,(ox b hb).no⟩;have nx:∀ b,(∀ z∈Xs,b≠z)->b∉Xs:=λ b h z=>h b z rfl;have cellK:∀ x c,X.env.cells.lookup x=some c->∀ v,s.heap.IsCell c v->h2.IsCell c v:=λ x c e v ⟨o,e1,e2⟩=>by
  obtain⟨sl,q⟩:=cg.slot c o (oa.cl x c e) (nx c λ z hz=>(ox z hz).cl x c e) e1;exact⟨_,q,e2⟩
 refine⟨I.ok,I.os,I.bare,by rw[hex];exact u,?_,λ x c e=>?_,I.free,I.freeC,λ p hp=>?_,ho,I.len⟩
 ·obtain⟨m,⟨o,es,ep,e1,e2,r⟩,hl⟩:=I.loc;obtain⟨sl,q⟩:=cg.slot _ o oa.lc.symm (nx _ λ z hz=>(ox z hz).lc.symm) e1;refine⟨m,⟨_,es,ep,q,e2,r⟩,λ i x v h1 h2' h3=>?_⟩;obtain⟨uu,rr,l⟩:=hl i x v h1 h2' h3;refine⟨uu,rr,?_⟩;rcases l with l | ⟨k,c,e,z⟩
  ·exact .inl l
  ·exact .inr ⟨k,c,e,cellK x c e _ z⟩
 ·obtain⟨v,z⟩:=I.cell x c e;exact⟨v,cellK x c e v z⟩
 ·obtain⟨e,n,ne,nf,d⟩:=I.pin p hp;refine⟨cg.keep p.1 p.2 (λ z=>?_) (oa.pn p hp) (nx _ λ z hz=>(ox z hz).pn p hp) e,n,ne,nf,d⟩;rcases j4.mp (I.stkSub p.1 z) with q | q
  ·exact ne q
  ·exact nf q
theorem zQ (I:Inv X pins σ H s){a:j8}{φ:Heap->Prop}(oa:Off X pins H a)(hφ:φ s.heap)(he:∃ o,s.heap.get? a=some o)(st:∀ h1 h2:Heap,φ h1->(∀ o,h1.get? a=some o->h2.get? a=some o)->φ h2):Inv X pins σ (upd H a (.ext φ)) s:=by
 have neK:∀ b u,H b=some u->b≠a:=λ b u e z=>by rw[z,oa.no] at e;cases e
 refine⟨I.ok,I.os,I.bare,⟨I.base.keep,I.base.slot,λ b o e n hx=>?_,I.base.there,λ b xs e=>?_,λ b o u e=>?_,λ b ps e=>?_⟩,I.loc,I.cell,?_,λ x c e=>?_,λ p hp=>?_,λ b u e=>?_,I.len⟩
 ·rw[aJ (λ z=>by rw[z,oa.s0] at e;cases e)];exact I.base.free b o e n hx
 ·have:=I.base.tups b xs e;rw[aJ (neK b _ this)];exact this
 ·have:=I.base.frzs b o u e;rw[aJ (neK b _ this)];exact this
 ·obtain⟨more,this⟩:=I.base.tbls b ps e;exact⟨more,by rw[aJ (neK b _ this)];exact this⟩
 ·rw[aJ oa.lc.symm];exact I.free
 ·rw[aJ (oa.cl x c e)];exact I.freeC x c e
 ·obtain⟨e,n,ne,nf,d⟩:=I.pin p hp;exact⟨e,by rw[aJ (oa.pn p hp)];exact n,ne,nf,d⟩
 ·by_cases z:b=a
  ·subst z;rw[aM] at e;cases e;exact⟨hφ,he,st⟩
  ·rw[aJ z] at e;refine (I.hok b u e).stay (λ _ _ _ q=>q) (λ c q=>?_) λ c xs q=>?_
   ·rw[aJ (neK c _ q)];exact q
   ·rw[aJ (neK c _ q)];exact q
abbrev Cx.within (X:Cx)(v:c9):Cx:={ X with A:=X.A.mark (some v),calm:=false,xe:=λ _ _=>False }
theorem Inv.within (I:Inv X pins σ H s)(v:c9):Inv (Cx.within X v) pins σ H s :=
 ⟨⟨I.ok.mod,I.ok.kind,I.ok.glob,I.ok.blt,I.ok.above,I.ok.inj,I.ok.has,I.ok.cab,λ z=>(by cases z),I.ok.frames,I.ok.stk,I.ok.exf,I.ok.bs,I.ok.bsz,I.ok.noex,I.ok.exfs,I.ok.funs,I.ok.frf⟩,I.os,I.bare,I.base,I.loc,I.cell,I.free,I.freeC,I.pin,I.hok,I.len⟩
theorem Inv.without (hd:X.calm=true->X.A.handled=none){v:c9}(I:Inv (Cx.within X v) pins σ H s):Inv X pins σ H s :=
 ⟨⟨I.ok.mod,I.ok.kind,I.ok.glob,I.ok.blt,I.ok.above,I.ok.inj,I.ok.has,I.ok.cab,hd,I.ok.frames,I.ok.stk,I.ok.exf,I.ok.bs,I.ok.bsz,I.ok.noex,I.ok.exfs,I.ok.funs,I.ok.frf⟩,I.os,I.bare,I.base,I.loc,I.cell,I.free,I.freeC,I.pin,I.hok,I.len⟩
end
def caughtE (K:b9)(B:j8)(i j:Nat)(nx:L2.St->Hp->Prop)(σ:L2.St):XK:=λ C _ H=>∃ c,C=.ref c/\PySem.W.exmOne K (.ref c) (.ref B)=some true /\
 ∀ a,H a=none->nx (((σ.set j (some (.ref a))).set i (some (.ref a))).set j none) (upd H a (.ext (IsX a c)))
theorem zbt {a c:j8}(h1 h2:Heap)(x:IsX a c h1)(k:∀ o,h1.get? a=some o->h2.get? a=some o):IsX a c h2:=let ⟨o,e,r⟩:=x;⟨o,k o e,r⟩
theorem zds {h:Heap}{a c T:j8}(f:Fly h a (.ref c) T):IsX a c h:=let ⟨⟨o,vs,e,ec,ed,_,en⟩,_,_⟩:=f;⟨o,e,ec,⟨vs,ed⟩,en⟩
theorem zT {X:Cx}{pins:List (j8 × Obj)}{σ:L2.St}{H1:Hp}{s1 s2:d8}{ev:c9}{D:Ends}{Z:c9->d8->Prop}{B:j8}{i j:Nat}{tn en cn:Str}{tp cp ep apos hpos:Pos}
  (hex:X.ex=[]) (hst:X.stack=X.env::X.outer) (hfr:X.env.frame=some X.env.locals) (hcm:X.A.handled=none) (hN:X.N.Nodup) (hi:X.N[i]?=some cn) (hj:X.N[j]?=some en) (hij:i≠j)
  (li:X.env.scope.names.lookup cn=some .local) (lj:X.env.scope.names.lookup en=some .local) (hg:Gl X tn) (hm:X.mg tn=some (.ref B)) (hdb:(tn==("__debug__":Str))=false) (hdc:(en==("__debug__":Str))=false) (hcc:(en==("__classdict__":Str))=false)
  (hsw:swapsWith (.Name en ep) (some (.Name cn cp)) apos.line X.env=pure false)
  (I:Inv X pins σ H1 s1) (h:CX1 X.prog X.w X.stack H1 s1 (caughtE X.K B i j D.nx σ) ev s2) :
  j7 (p9 X.prog X.w) X.A (noteFrame ev X.env) (λ _ s3=>j7 (p9 X.prog X.w) X.A (setFlight ev none) (λ _ s4=>j7 (p9 X.prog X.w) X.A (handleBy ev X.env [.ExceptHandler (some (.Name tn tp)) (some en) [.Assign [.Name cn cp] (.Name en ep) apos] hpos]) (SP X pins D) Z s4) Z s3) Z s2:=by
 obtain⟨a,C0,T,H2,rfl,os,bare,un,hok,fl,la,lT,na,nT,c,ec,ex,nx⟩:=h;have e0:c=C0:=by injection ec with z;exact z.symm
 subst e0;have I2:Inv X pins σ H2 s2:=I.call' os un hok bare (λ b z=>absurd z (by simp));have oa:Off X pins H2 a:=kB I hex la na;have oT:Off X pins H2 T:=kB I hex lT nT;have ff:=I2.stack;have fr:=I2.ok.frames;rw[hst] at ff fr;refine zdg (base:=X.base) fr ff hfr fl λ h3 T3 lt cg fl3=>?_;rw[show (X.env::X.outer).filterMap (·.frame)=frs X.stack by rw[hst];rfl] at cg;have I3:Inv X pins σ H2 { s2 with heap:=h3 }:=oK I2 hex cg oa λ b hb=>by rw[l8.mp hb];exact oT
 have oT3:Off X pins H2 T3:=kB I2 hex (ucr lt) (I2.hok.fresh lt);have W3:=Inv.within I3 (.ref a);refine wpAny_handleBy_cons (codeAny_handlers_test ?_) (by intro q;cases q);refine fN (X:=Cx.within X (.ref a)) W3 hg hm ?_ hdb;have LT:PySem.W.Looks (p9 X.prog X.w) h3 (typeOf (.ref a)) (.ref c):=let ⟨_,J⟩:=(zds fl3).no;J.type;refine (PySem.W.exm_one I3.kIn LT ex).at ?_;show codeAny _ _ _ _ _;refine codeAny_handlers_suite_as ?_;obtain⟨⟨oe,vs,ha,hc,dv,v1,dn⟩,⟨oT',ts,hT,dT,t3⟩,ne⟩:=fl3;refine wpAny_setFlight_none ha dv v1 hT dT (ual.mp t3).1 ?_;have cg4:Chg (frs X.stack) a [T3] h3 (h3.update T3 (Obj.mapFields (·.setIfInBounds 3 .none))):=by
  refine⟨λ b o _ _ n e=>?_,λ b o _ n e=>⟨o.slots,?_⟩,ubi (uax ..).symm⟩
  ·rw[j0 _ _ (λ z=>n (by simp [z]))];exact e
  ·rw[j0 _ _ (λ z=>n (by simp [z]))];exact e
 have I4:Inv X pins σ H2 { s2 with heap:=h3.update T3 (Obj.mapFields (·.setIfInBounds 3 .none)) }:=oK I3 hex cg4 oa λ b hb=>by rw[l8.mp hb];exact oT3
 have x4:IsX a c (h3.update T3 (Obj.mapFields (·.setIfInBounds 3 .none))):=⟨oe,(j0 _ _ ne).trans ha,hc,⟨vs,dv⟩,dn⟩;have I5:Inv X pins σ (upd H2 a (.ext (IsX a c))) _:=zQ I4 oa x4 (let ⟨o,e,_⟩:=x4;⟨o,e⟩) zbt;have W5:=Inv.within I5 (.ref a);refine fA (X:=Cx.within X (.ref a)) (v:=.ref a) W5 hN hj (.inl lj) rfl (λ s6 W6=>?_) (.inr lj);have as_:=aE (aQ (X:=Cx.within X (.ref a)) (i:=i) (pos:=apos) (pos':=cp) hN hi (.inl li) (qO (X:=Cx.within X (.ref a)) (i:=j) (pos:=ep) hj (.inl lj) hdc hcc) hsw (.inr li));refine ua9 (as_ pins s6 _ _ { nx:=λ τ J=>τ=(σ.set j (some (.ref a))).set i (some (.ref a))/\J=upd H2 a (.ext (IsX a c)),rt:=λ _ _=>False } W6 ⟨_,?_,rfl,rfl⟩) (λ fl s7 q=>?_) λ _ _ z=>z.elim
 ·have jl:j<σ.length:=by rw[I2.len];exact (j6.mp hj).1
  rw[uc7 jl]
 cases fl with
 | next =>
  obtain⟨τ,J,W7,rfl,rfl⟩:=q;have I7:=Inv.without (X:=X) (λ _=>hcm) W7;obtain⟨m,hn,hl⟩:=I7.loc;have hcls:(X.env.scope.kind==.class||(X.env.scope.kind==.module&&X.env.locals != X.env.globals))=false:=by rw[I7.ok.kind];rfl
  show j7 _ _ _ _ _ _;refine nameGoesS lj hn hcls λ h8 m8 n8 k8 sb=>?_;refine⟨((σ.set j (some (.ref a))).set i (some (.ref a))).set j none,_,?_,nx a na⟩;have trk:HOk X.prog X.w (upd H2 a (.ext (IsX a c))) h8:=λ b ob e=>(I7.hok b ob e).stay (λ cc w' hc' q=>(sb.2 cc (λ z=>by
   subst z;rcases hc' with z | z
   ·rw[← z,I7.free] at e;cases e
   ·rw[I7.free] at z;cases z)).trans q) (λ _ q=>q) λ _ _ q=>q
  obtain⟨oL,_,_,hoL,_⟩:=id hn;refine⟨I7.ok,I7.os,I7.bare,⟨λ b o e n hb hx=>?_,λ b o e n hb hx=>?_,I7.base.free,λ b o e hx=>?_,I7.base.tups,I7.base.frzs,I7.base.tbls⟩,⟨m8,n8,λ k y v e1 e2 e3=>?_⟩,λ y cc e=>?_,I7.free,I7.freeC,λ p hp=>?_,trk,by simpa using I7.len⟩
  ·exact (sb.2 b (l6 (o0 (i9 e) I7.ok.above))).trans (I7.base.keep b o e n hb hx)
  ·obtain⟨sl,e1⟩:=I7.base.slot b o e n hb hx;exact⟨sl,(sb.2 b (l6 (o0 (i9 e) I7.ok.above))).trans e1⟩
  ·obtain⟨o',e1⟩:=I7.base.there b o e hx;exact⟨o',(sb.2 b (l6 (o0 (i9 e) I7.ok.above))).trans e1⟩
  ·by_cases hk:k=j
   ·subst hk;have jl:k<((σ.set k (some (.ref a))).set i (some (.ref a))).length:=by rw[ub3,ub3,I2.len];exact (j6.mp hj).1
    rw[uc7 jl] at e2;cases e2
   ·rw[ud4 (Ne.symm hk)] at e2;obtain⟨u',r',q⟩:=hl k y v e1 e2 e3;refine⟨u',r',?_⟩;rcases q with ⟨kk,e⟩ | ⟨kk,cc,e,z⟩
    ·exact .inl ⟨kk,by rw[k8 y (λ e=>hk (jD hN e1 (e ▸ hj)))];exact e⟩
    ·exact .inr ⟨kk,cc,e,z.sameBut sb (I7.cne y cc e)⟩
  ·obtain⟨w',z⟩:=I7.cell y cc e;exact⟨w',z.sameBut sb (I7.cne y cc e)⟩
  ·obtain⟨e,n,ne',nf,d⟩:=I7.pin p hp;exact⟨(sb.2 p.1 ne').trans e,n,ne',nf,d⟩
 | ret v=>obtain⟨_,_,_,_,_,z⟩:=q;exact z.elim
 | brk=>obtain⟨_,_,_,z⟩:=q;exact z.elim
 | cont=>obtain⟨_,_,_,z⟩:=q;exact z.elim
def tTry (K:b9)(sp:Sp)(B:j8)(i j:Nat)(t:TA):TS:=λ D σ H=>t σ H λ vs H1=>sp vs H1 (λ _ H2=>D.nx σ H2) (caughtE K B i j D.nx σ)
theorem zeb {X:Cx}{k:Nat}{x:Str}{ps:List Str}{sp:Sp}{p pos:Pos}{e:uby}{es:List uby}{t:TA}{B:j8}{i j:Nat}{tn en cn:Str}{tp cp ep apos hpos xpos tpos:Pos}
  (O:OkX X.prog X.w X.K X.mg X.base k x ps sp) (hr:Room k X.A) (hg:Gl X x) (ha:PA X.nox (e::es) t) (hN:X.N.Nodup) (hm:X.mg tn=some (.ref B)) (hi:X.N[i]?=some cn:=by rfl) (hj:X.N[j]?=some en:=by rfl) (hij:i≠j:=by decide)
  (li:X.env.scope.names.lookup cn=some .local:=by rfl) (lj:X.env.scope.names.lookup en=some .local:=by rfl) (hgt:Gl X tn:=by rfl)
  (hex:X.ex=[]:=by rfl) (hst:X.stack=X.env::X.outer:=by rfl) (hfr:X.env.frame=some X.env.locals:=by rfl)
  (hdb:(x==("__debug__":Str))=false:=by decide) (hdt:(tn==("__debug__":Str))=false:=by decide) (hdc:(en==("__debug__":Str))=false:=by decide) (hcc:(en==("__classdict__":Str))=false:=by decide)
  (hsw:swapsWith (.Name en ep) (some (.Name cn cp)) apos.line X.env=pure false:=by rfl) (hs:swapsWith (.Call (.Name x p) (e::es) [] pos) none xpos.line X.env=pure false:=by rfl)
  (he:uav (e::es) X.env=(false,eval e X.env)::uav es X.env:=by rfl) (hpl:(backTo pos (uav es X.env)).any (·.1)=false:=by rfl) :
  PS X (.Try [.Expr (.Call (.Name x p) (e::es) [] pos) xpos] [.ExceptHandler (some (.Name tn tp)) (some en) [.Assign [.Name cn cp] (.Name en ep) apos] hpos] [] [] tpos) (tTry X.K sp B i j t):=by
 intro pins s σ H D I h;refine wpAny_Try_except (ugq (wpAny_Expr_any (thn (zcf O hr hg ha I h (λ H1 s1 ev s2 J q=>zT hex hst hfr hr.hd hN hi hj hij li lj hgt hm hdt hdc hcc hsw J q) hdb he hpl) λ v s1 ⟨y,H1,I1,r1,q1⟩=>?_) I.quiet hs));exact udz (udz ⟨σ,H1,I1,q1⟩)
section
variable {X:Cx}
inductive call_isiX_i (K:b9)(xs:List V)(H:Hp)(Q:VK):Prop
 | mk:∀ a c C b,(xs=[.ref a,.ref C])->(H a=some (.ext (IsX a c)))->(XC K c)->(uds K (.ref c) (.ref C)=some b)->(Q (.bl b) H)->call_isiX_i K xs H Q
theorem zad:CallR X (.builtin "isinstance") (call_isiX_i X.K):=by
 intro pins s σ H xs us Q I r h;obtain⟨a,c,C,b,rfl,ha,xc,e,q⟩:=h;obtain⟨u,v,rfl,ru,rv⟩:=r.two;cases ru;cases rv;exact ubo (jH xc) I.kIn (I.hok _ _ ha).1 e (by intro z;cases z) λ tk=>⟨.bl b,H,I.tok tk,rfl,q⟩
inductive call_isiXB_i (K:b9)(n:String)(xs:List V)(H:Hp)(Q:VK):Prop
 | mk:∀ a c b,(xs=[.ref a,.ty n])->(H a=some (.ext (IsX a c)))->(XC K c)->(uds K (.ref c) (.type n)=some b)->(Q (.bl b) H)->call_isiXB_i K n xs H Q
theorem xY {n:String}:CallR X (.builtin "isinstance") (call_isiXB_i X.K n):=by
 intro pins s σ H xs us Q I r h;obtain⟨a,c,b,rfl,ha,xc,e,q⟩:=h;obtain⟨u,v,rfl,ru,rv⟩:=r.two;cases ru;cases rv;exact ubo (jH xc) I.kIn (I.hok _ _ ha).1 e (by intro z;cases z) λ tk=>⟨.bl b,H,I.tok tk,rfl,q⟩
theorem mI:∀ {cs:List j8}{us:List c9},Vals (cs.map V.ref) us->us=cs.map Value.ref
 | [],_,.nil=>rfl
 | c::cs,_,.cons r t=>by cases r;rw[mI t];rfl
inductive call_isiXT_i (K:b9)(xs:List V)(H:Hp)(Q:VK):Prop
 | mk:∀ (a c p:j8)(cs:List j8)(b:Bool),(xs=[.ref a,.ref p])->(H a=some (.ext (IsX a c)))->(H p=some (.tup (cs.map V.ref)))->(XC K c)->(uf4 K (.ref c) (cs.map Value.ref)=some b)->(Q (.bl b) H)->call_isiXT_i K xs H Q
theorem mH:CallR X (.builtin "isinstance") (call_isiXT_i X.K):=by
 intro pins s σ H xs us Q I r h;obtain⟨a,c,p,cs,b,rfl,ha,hp,xc,e,q⟩:=h;obtain⟨u,v,rfl,ru,rv⟩:=r.two;cases ru;cases rv;obtain⟨_,its,rr,o,e1,e2,⟨n,e3⟩,e4⟩:=(show ObjOk X.prog X.w H s.heap p (.tup (cs.map V.ref)) from I.hok _ _ hp);have:=mI rr;subst this;obtain⟨oc,od,dt,sl⟩:=o;cases e2;cases e3;cases e4;exact PySem.W.kia_tup (jH xc) I.kIn (I.hok _ _ ha).1 e1 e (by intro z;cases z) λ tk=>⟨.bl b,H,I.tok tk,rfl,q⟩
end
end L3
namespace X9
open PySem PySem.Spec PyProof.Rows
structure FlyA (h:Heap)(a:j8)(C:c9)(T:j8):Prop where
 ex:∃ oe vs,h.get? a=some oe/\oe.cls=C/\oe.data=.fields vs/\vs[1]?=some (.ref T)/\oe.dict=none
 tr:∃ oT ts v,h.get? T=some oT/\oT.data=.fields ts/\ts[3]?=some v
 ne:T≠a
theorem Fly.any {h:Heap}{a:j8}{C:c9}{T:j8}(f:Fly h a C T):FlyA h a C T:=⟨f.ex,let ⟨o,t,h1,h2,h3⟩:=f.tr;⟨o,t,_,h1,h2,h3⟩,f.ne⟩
theorem Chg.refl {S:List j8}{a:j8}{X:List j8}{h:Heap}:Chg S a X h h:=⟨λ _ _ _ _ _ e=>e,λ b o _ _ e=>⟨o.slots,by rw[e]⟩,i6 _⟩
theorem Chg.trans {S:List j8}{a:j8}{X Y:List j8}{h h1 h2:Heap}(c:Chg S a X h h1)(d:Chg S a Y h1 h2):Chg S a (X++Y) h h2 :=
 ⟨λ b o nS na nX e=>d.keep b o nS na (λ z=>nX (r6 _ z)) (c.keep b o nS na (λ z=>nX (ubg _ z)) e),λ b o na nX e=>by
  obtain⟨sl,e1⟩:=c.slot b o na (λ z=>nX (ubg _ z)) e;obtain⟨sl2,e2⟩:=d.slot b _ na (λ z=>nX (r6 _ z)) e1;exact⟨sl2,e2⟩,o8 c.sz d.sz⟩
theorem Chg.at (S:List j8)(a T:j8)(h:Heap)(f:Obj->Obj):Chg S a [T] h (h.update T f):=by
 have oth:∀ b,b∉[T]->(h.update T f).get? b=h.get? b:=λ b hb=>j0 _ _ (λ z=>hb (by rw[z];exact l8.mpr rfl));exact⟨λ b o _ _ n e=>(oth b n).trans e,λ b o _ n e=>⟨o.slots,(oth b n).trans e⟩,ubi (uax ..).symm⟩
section
variable {M:Model}{A:uaj}{E:c9->d8->Prop}{s:d8}
theorem newEntryA {base:Heap}{env:Env}{outer:List Env}{L a:j8}{oe:Obj}{vs:Array c9}{hd0:c9}{nx:Bool}{Q:Unit->d8->Prop}
  (fr:A.frames=some (env::outer)) (ff:s.heap.FunFrames base (env::outer)) (fL:env.frame=some L)
  (ha:s.heap.get? a=some oe) (dv:oe.data=.fields vs) (dn:oe.dict=none) (l1:1<vs.size)
  (q:∀ h' T,s.heap.objs.size<=T->Chg ((env::outer).filterMap (·.frame)) a [] s.heap h'->FlyA h' a oe.cls T->Q () { s with heap:=h' }) :
  j7 M A (do let x ← frameOf env;let pl ← entryPlaceOf L nx;let b ← EntryCells.newEntry hd0 x .none (rawInt L) .none pl;setField (.ref a) 1 b) Q E s:=by
 have nS:a∉(env::outer).filterMap (·.frame):=λ m=>by
  obtain⟨_,o,h1,h2⟩:=ff.mem m;rw[ha] at h1;cases h1;exact h2 vs dv
 refine a8 (wpAny_frameOf_fun fr ff fL λ h1 so=>a8 (wpAny_entryPlaceOf λ pl hp=>?_));unfold EntryCells.newEntry newFields;refine a8 (v8 ?_ (hp.sizeOk5 _ _ _ _ _));have a1:h1.get? a=some oe:=(so.2.1 a nS).trans ha;have n1:h1.objs.size≠a:=ubh (i9 a1);generalize eo:({ cls:=.type "traceback",dict:=none,data:=.fields ([hd0,.ref L,.none,rawInt L,.none]++(if pl.isEmpty then m5 6 Value.none else pl)).toArray }:Obj)=tb;have dtb:∃ ws:Array c9,tb.data=.fields ws/\3<ws.size:=by
  rw[← eo];exact⟨A,by simp only [j5,i8,ubs,udm];left⟩
 obtain⟨ws,dws,l3⟩:=dtb;have nf:tb.isFreed=false:=Obj.isFreed_of_fields dws;have a2:(h1.push tb).get? a=some oe:=a9 tb a1;refine ubm a2 dv l1 ?_;have d3:=Obj.data_mapFields dv (·.setIfInBounds 1 (Value.ref h1.objs.size));have a3:=uag (Obj.mapFields (·.setIfInBounds 1 (Value.ref h1.objs.size))) a2 (Obj.isFreed_of_fields d3);have t3:((h1.push tb).update a (Obj.mapFields (·.setIfInBounds 1 (Value.ref h1.objs.size)))).get? h1.objs.size=some tb :=
  (j0 _ _ n1.symm).trans (i7 h1 nf)
 refine q _ h1.objs.size (ubi so.1.symm) ⟨λ b o hb ne _ e=>?_,λ b o ne _ e=>?_,?_⟩ ?_
 ·have e1:h1.get? b=some o:=(so.2.1 b hb).trans e;rw[j0 _ _ ne.symm];exact a9 tb e1
 ·obtain⟨sl,e1⟩:=so.2.2 b o e;refine⟨sl,?_⟩;rw[j0 _ _ ne.symm];exact a9 tb e1
 ·show s.heap.objs.size<=_;rw[uax,uaq,so.1];exact ubv _
 ·exact⟨⟨V,a3,Obj.cls_mapFields _ _,d3,by simp [l1],oU dv dn⟩,⟨V,ws[3],t3,dws,by simp [l3]⟩,n1⟩
theorem qU {base:Heap}{env:Env}{outer:List Env}{L a T0:j8}{C:c9}{Q:Unit->d8->Prop}
  (fr:A.frames=some (env::outer)) (ff:s.heap.FunFrames base (env::outer)) (fL:env.frame=some L) (fl:FlyA s.heap a C T0)
  (q:∀ h' T,(T=T0\/s.heap.objs.size<=T)->Chg ((env::outer).filterMap (·.frame)) a [T0] s.heap h'->FlyA h' a C T->Q () { s with heap:=h' }):j7 M A (noteFrame (.ref a) env) Q E s:=by
 have fl0:=fl;obtain⟨⟨oe,vs,ha,hc,dv,v1,dn⟩,⟨oT,ts,v,hT,dT,t3⟩,ne⟩:=fl;subst hc;unfold noteFrame;simp only [fL];refine a8 (uab ha dv v1 ?_);rw[ug7 (show (Value.ref T0 != Value.none)=true by simp)];refine a8 (uab hT dT t3 ?_);refine uef (λ _=>c8 (q _ T0 (.inl rfl) Chg.refl fl0)) λ _=>?_;refine a8 (ubm hT dT (ual.mp t3).1 ?_);have oth:∀ b,b≠T0->(s.heap.update T0 (Obj.mapFields (·.setIfInBounds 3 Value.none))).get? b=s.heap.get? b:=λ b hb=>j0 _ _ hb.symm;have rec_:∀ b o,s.heap.get? b=some o->(∀ ws,o.data≠.fields ws)->b≠T0:=λ b o e n z=>by
  rw[z,hT] at e;cases e;exact n ts dT
 refine newEntryA (base:=base) fr (ff.of_keeps λ b o e n=>⟨o,(oth b (rec_ b o e n)).trans e,rfl⟩) fL ((oth a ne.symm).trans ha) dv dn (ual.mp v1).1 λ h' T lt cg fl'=>?_;refine q h' T (.inr (o8 (ubi (uax ..).symm) lt)) ⟨λ b o hb n1 n2 e=>?_,λ b o n1 n2 e=>?_,o8 (ubi (uax ..).symm) cg.sz⟩ fl'
 ·exact cg.keep b o hb n1 (by simp) ((oth b (by simpa using n2)).trans e)
 ·exact cg.slot b o n1 (by simp) ((oth b (by simpa using n2)).trans e)
theorem oQ {a T:j8}{C:c9}{f:Option j8}{S:List j8}{Q:Unit->d8->Prop}(fl:FlyA s.heap a C T)
  (q:∀ h',Chg S a [T] s.heap h'->FlyA h' a C T->(f=none->Fly h' a C T)->Q () { s with heap:=h' }):j7 M A (setFlight (.ref a) f) Q E s:=by
 obtain⟨⟨oe,vs,ha,hc,dv,v1,dn⟩,⟨oT,ts,v,hT,dT,t3⟩,ne⟩:=fl;unfold setFlight;refine a8 (uab ha dv v1 ?_);rw[ug7 (show (Value.ref T != Value.none)=true by simp)];have l3:=(ual.mp t3).1;refine ubm hT dT l3 ?_;obtain⟨x,hx⟩:∃ x,x=f.elim Value.none λ f=>rawInt f:=⟨_,rfl⟩;rw[← hx];have dd:=Obj.data_mapFields dT (·.setIfInBounds 3 x);have hT':=uag (Obj.mapFields (·.setIfInBounds 3 x)) hT (Obj.isFreed_of_fields dd);have ha':(s.heap.update T (Obj.mapFields (·.setIfInBounds 3 x))).get? a=some oe:=(j0 _ _ ne).trans ha;refine q _ (Chg.at ..) ⟨⟨oe,vs,ha',hc,dv,v1,dn⟩,⟨V,x,hT',dd,by simp [l3]⟩,ne⟩ λ e=>⟨⟨oe,vs,ha',hc,dv,v1,dn⟩,⟨_,_,hT',dd,?_⟩,ne⟩;subst e;rw[hx];simp [l3]
theorem zdl {base:Heap}{env:Env}{outer:List Env}{L a T0:j8}{C:c9}{Q:Unit->d8->Prop}
  (fr:A.frames=some (env::outer)) (ff:s.heap.FunFrames base (env::outer)) (fL:env.frame=some L) (fl:FlyA s.heap a C T0)
  (q:∀ h' T,(T=T0\/s.heap.objs.size<=T)->Chg ((env::outer).filterMap (·.frame)) a [T0,T] s.heap h'->Fly h' a C T->Q () { s with heap:=h' }):j7 M A (leaving env (.ref a)) Q E s:=by
 unfold leaving;refine a8 (qU (base:=base) fr ff fL fl λ h1 T hT c1 f1=>?_);exact oQ (s:={ s with heap:=h1 }) (S:=(env::outer).filterMap (·.frame)) f1 λ h2 c2 _ f2=>q h2 T hT (c1.trans c2) (f2 rfl)
end
end X9
namespace L3
open PySem PySem.Spec PyProof.Rows L2
section
variable {X:Cx}
theorem xH {elts es:List uby}{c:Nat}{p:Pos}{env:Env}:uav (.Tuple elts c p::es) env=(false,eval (.Tuple elts c p) env)::uav es env:=by rfl
theorem zbh {elts es:List uby}{c:Nat}{p:Pos}{te:TE}{t:TA}(ha:PE X (.Tuple elts c p) te)(hr:PA X es t):PA X (.Tuple elts c p::es) (tCons te t):=aA ha hr xH
theorem jK {elts es:List uby}{c:Nat}{p:Pos}{te:TE}{t:TA}(a:BE X (.Tuple elts c p) te)(b:BA X es t):BA X (.Tuple elts c p::es) (tCons te t):=⟨zbh a.h b.h⟩
theorem eG {cv:Const}{c:Nat}{p:Pos}{es:List uby}{te:TE}{t:TA}(a:BE X (.Constant cv c p) te)(b:BA X es t):BA X (.Constant cv c p::es) (tCons te t):=⟨aA a.h b.h (by rfl)⟩
theorem eH {l r:uby}{op:Operator}{p:Pos}{es:List uby}{te:TE}{t:TA}(a:BE X (.BinOp l op r p) te)(b:BA X es t):BA X (.BinOp l op r p::es) (tCons te t):=⟨aA a.h b.h (by rfl)⟩
theorem pB {x:Str}{p:Pos}{es:List uby}{te:TE}{t:TA}(a:BE X (.Name x p) te)(b:BA X es t):BA X (.Name x p::es) (tCons te t):=⟨aA a.h b.h (by rfl)⟩
theorem jL {f:uby}{as:List uby}{kw:List Keyword}{p:Pos}{es:List uby}{te:TE}{t:TA}(a:BE X (.Call f as kw p) te)(b:BA X es t):BA X (.Call f as kw p::es) (tCons te t):=⟨aA a.h b.h (by rfl)⟩
theorem pA {l r:uby}{p:Pos}{es:List uby}{te:TE}{t:TA}(a:BE X (.Subscript l r p) te)(b:BA X es t):BA X (.Subscript l r p::es) (tCons te t):=⟨aA a.h b.h (by rfl)⟩
theorem zcn {ks:List (Option uby)}{vs:List uby}{p:Pos}{es:List uby}{te:TE}{t:TA}(a:BE X (.Dict ks vs p) te)(b:BA X es t):BA X (.Dict ks vs p::es) (tCons te t):=⟨aA a.h b.h (by rfl)⟩
theorem kQ {c:uby}{a b:List uc9}{tc:TT}{t u:TS}{pos:Pos}(hc:PT X c tc)(ha:BSs X a t)(hb:BSs X b u):BS X (.If c a b pos) (tIfS tc t u):=⟨aT hc ha.h hb.h⟩
theorem jY:BSs X [] tNext:=⟨aS⟩
theorem ze4 {e:uby}{te:TE}{pos:Pos}(he:BE X e te):BS X (.Return (some e) pos) (tRet te):=⟨aH he.h⟩
theorem kR {a b:uby}{ta tb:TE}{pos:Pos}{r:R2}(hr:IxR X r)(ha:BE X a ta)(hb:BE X b tb)(hs:PlainIx b):BE X (.Subscript a b pos) (tOp r ta tb):=⟨aK hr ha.h hb.h hs⟩
end
end L3
namespace X9
open PySem PySem.Spec PyProof.Rows
theorem FlyA.but {h h':Heap}{a T:j8}{C:c9}(f:FlyA h a C T)(ka:h'.get? a=h.get? a)(kT:h'.get? T=h.get? T):FlyA h' a C T:=by
 obtain⟨⟨oe,vs,ha,r⟩,⟨oT,ts,v,hT,r'⟩,ne⟩:=f;exact⟨⟨oe,vs,ka.trans ha,r⟩,⟨oT,ts,v,kT.trans hT,r'⟩,ne⟩
theorem Chg.but {S:List j8}{a c:j8}{h h':Heap}(sb:Heap.SameBut c h h'):Chg S a [c] h h' :=
 ⟨λ b o _ _ n e=>(sb.2 b (by simpa using n)).trans e,λ b o _ n e=>⟨o.slots,(sb.2 b (by simpa using n)).trans e⟩,ubi sb.1.symm⟩
theorem rR {h h' base:Heap}:∀ {l:List Env},(∀ b∈l.filterMap (·.frame),∀ o,h.get? b=some o->(∀ vs,o.data≠.fields vs)->∃ o',h'.get? b=some o'/\o'.data=o.data)->h.FunFrames base l->h'.FunFrames base l
 | [],_,_=>trivial
 | env::rest,k,hl=>by
  obtain⟨hk,⟨L,o,hf,hn,ho,hd⟩,hr⟩:=hl;obtain⟨o',ho',hd'⟩:=k L (uco.mpr ⟨env,j3,hf⟩) o ho hd;exact⟨hk,⟨L,o',hf,hn,ho',by rw[hd'];exact hd⟩,rR (λ b hb=>k b (by
   obtain⟨e,he,hb⟩:=uco.mp hb;exact uco.mpr ⟨e,l9 _ he,hb⟩)) hr⟩
end X9
namespace L3
open PySem PySem.Spec PyProof.Rows L2 X9
structure XX (X:Cx)(E:XK):Prop where
 stk:X.stack=X.env::X.outer
 frm:X.env.frame=some X.env.locals
 ex:X.ex=[]
 xe:∀ e s',j7 (p9 X.prog X.w) X.A (leaving X.env e) (λ _ s''=>CX1 X.prog X.w X.outer X.H₀ X.s₀ E e s'') (λ e' s''=>CX1 X.prog X.w X.outer X.H₀ X.s₀ E e' s'') s'->X.xe e s'
theorem ze6 {P:n0}{w:uak}{K:b9}{mg:Str->Option c9}{base:Heap}{N:List Str}{qual:Str}{scope:ue1}{f:j8}{cd:c9}{A:uaj}{outer:List Env}{s:d8}{H:Hp}{E:XK}:XX (cxOf (CX1 P w) P w K mg base N qual scope f cd A outer s H E) E:=⟨rfl,rfl,rfl,λ _ _ h=>h⟩
section
variable {prog:n0}{w:uak}{A:uaj}{R:Result->d8->Prop}{s:d8}
theorem wN {elt tg iter:uby}{ifs:List uby}{scope:ue1}{pos:Pos}{it acc:c9}{env:Env}(W:Nat->d8->Prop)
  (step:∀ n s,W n s->j7 (p9 prog w) A (pyNext it) (λ r s1=>(r=none/\R (.ok .next) s1)\/∃ v,r=some v /\
   j7 (p9 prog w) A (letOwnedTupleGo tg it v) (λ _ s2=>j7 (p9 prog w) A (assign tg env v) (λ _ s3 =>
    j7 (p9 prog w) A (testsOf ifs env) (λ ok s4=>if ok=true then j7 (p9 prog w) A (eval elt env) (λ x s5 =>
     j7 (p9 prog w) A (call (.builtin "list.append") [acc,x]) (λ _ s6=>∃ m,m<n/\W m s6) Fls s5) (notedBy (p9 prog w) A env λ e s'=>R (.error e) s') s4 else ∃ m,m<n/\W m s4) Fls s3) Fls s2) Fls s1) Fls s)
  (n:Nat) (h:W n s):codeAny (p9 prog w) A (.compLoop (.ListComp elt [⟨tg,iter,ifs,0⟩] scope pos) 0 it acc env) R s:=by
 refine codeAny_loop rfl W (λ k s1 hk=>?_) n h;show j7 _ A ((compTurn (.ListComp elt [⟨tg,iter,ifs,0⟩] scope pos) 0 it acc env).onRaise (λ x=>do noteFrame x env;theTreesLotGoes x)) _ _ s1;refine wpAny_noted ?_;rw[compTurn_list];refine a8 (udx (a8 (ua9 (step k s1 hk) (λ r s2 h2=>?_) λ _ _ z=>z.elim)));rcases h2 with ⟨rfl,h2⟩ | ⟨v,rfl,h2⟩
 ·exact c8 h2
 ·refine a8 (ua9 h2 (λ _ s3 h3=>?_) λ _ _ z=>z.elim);refine a8 (ua9 h3 (λ _ s4 h4=>?_) λ _ _ z=>z.elim);refine a8 (ua9 h4 (λ ok s5 h5=>?_) λ _ _ z=>z.elim);cases ok with
  | false=>exact c8 ⟨rfl,h5⟩
  | true =>
   refine a8 (a8 (ua9 h5 (λ x s6 h6=>?_) λ _ _ z=>z));refine a8 (ua9 h6 (λ _ s7 h7=>?_) λ _ _ z=>z.elim);exact c8 (c8 ⟨rfl,h7⟩)
end
section
variable {X:Cx}{elt tg iter:uby}{ifs:List uby}{scope sc0:ue1}{pos:Pos}{own fr N:List Str}{js:List Nat}{wi:TI}{g:TG}{tt:TT}{te:TE}
theorem xW {E:XK}{pins:List (j8 × Obj)}{s:d8}{σ:L2.St}{H:Hp}{Q:VK}{use:Option (c9->Sem Unit)}{Qo:c9->d8->Prop}{cpos:Pos}
  (hc:X.calm=true) (hi:PI X tg iter wi) (hg:∀ fp pins s3 H3,PG (cxComp X own fr scope fp pins s3 H3) tg g) (ht:∀ fp pins s3 H3,PTs (cxComp X own fr scope fp pins s3 H3) ifs tt)
  (G:XX X E) (he:∀ fp pins s3 H3 Z,Passes (CX1 X.prog X.w) ((cxComp X own fr scope fp pins s3 H3).wish Z) E->PE ((cxComp X own fr scope fp pins s3 H3).wish Z) elt te) (hok:compOk N sc0 scope fr js=true) (hN:X.N=N) (hsc:X.env.scope=sc0)
  (hs:∀ x,foldedSetIterable iter X.env x=pure x) (I:Inv X pins σ H s) (h:tComp own js wi g tt te σ H Q)
  (fin:∀ (C D:j8)(s6:d8)(H6:Hp)(m6:Str->Option c9),Inv X pins σ H6 s6->FpOk X pins H6 C->s6.heap.Ns C m6->Q (.ref D) H6->compPost (p9 X.prog X.w) X.A X.xe use Qo (.ref D) C (.ok .next) s6) :
  j7 (p9 X.prog X.w) X.A (comprehension (.ListComp elt [⟨tg,iter,ifs,0⟩] scope pos) scope X.env cpos (newList []) false (eval iter X.env) use) Qo X.xe s:=by
 have hok':=hok;unfold compOk at hok';simp only [uaa,decide_eq_true_eq,uas] at hok';obtain⟨⟨⟨hk,hall⟩,hlen⟩,hfr⟩:=hok';have hcell:∀ y∈scope.names,y.2≠.cell:=λ y hy=>(hall y hy).1.1;have hloc:∀ y∈scope.names,y.2=.local->scope.names.lookup y.1=some .local:=λ y hy e=>by
  have q:=(hall y hy).2;simp only [udp,decide_eq_true_eq] at q;rcases q with q | q
  ·exact absurd e q
  ·exact q
 have hfree:∀ y∈scope.names,y.2=.free->∃ c,X.env.cells.lookup y.1=some c:=λ y hy e=>by
  have q:=(hall y hy).1.2;simp only [udp,decide_eq_true_eq] at q;rw[← hsc] at q;rcases q with (q | q) | q
  ·exact absurd e q
  ·exact I.ok.has y.1 (.inl q)
  ·exact I.ok.has y.1 (.inr q)
 refine wpAny_comprehension_free (use:=use) rfl hs (mE hfree) hk hloc (thn (hi pins s σ H _ I h) λ v s1 h1=>thn h1 λ itv s2 h2=>?_);obtain⟨it,fp,tn,J,H2,e,I2,T,st2,f2,rd⟩:=h2;subst e;have hD2:H2 s2.heap.objs.size=none:=I2.fresh;obtain⟨W,⟨m0,w0⟩,turn⟩:=rd s2.heap.objs.size hD2
 refine udy ?_ (x8 _);have I3:Inv X pins σ (upd H2 s2.heap.objs.size (.lst [])) { s2 with heap:=s2.heap.push { cls:=.type "list",data:=.seq ([]:List c9).toArray } }:=I2.lnew (t':=s2.toks) .nil (x8 _);generalize hs3:({ s2 with heap:=s2.heap.push { cls:=.type "list",data:=.seq ([]:List c9).toArray } }:d8)=s3 at I3;generalize hD:s2.heap.objs.size=D at *;have fpl:∀ b∈fp,b<D:=λ b hb=>by
  obtain⟨o,ho,_⟩:=T.obj _ _ st2 b hb;rw[← hD];exact i9 ho
 have k23:∀ b o,s2.heap.get? b=some o->s3.heap.get? b=some o:=λ b o e=>by rw[← hs3];exact a9 _ e
 have hD3:s3.heap.objs.size=D+1:=by rw[← hs3,← hD];exact uaq ..
 have f3:∀ b∈fp,FpOk X pins (upd H2 D (.lst [])) b:=λ b hb=>by
  obtain⟨f0,f⟩:=f2 b hb;exact⟨by rw[aJ (l6 (fpl b hb))];exact f0,f⟩
 refine wpAny_newFunctionEnv hcell (by intro y hy;simp at hy) (λ h4 hns4 hsb4=>?_) hk;have k34:∀ b o,s3.heap.get? b=some o->h4.get? b=some o:=λ b o e=>hsb4.extBut b o (l6 (i9 e)) (a9 _ e);have I4:=oM (own:=own) (t4:=s3.toks+([]:List (Str × c9)).length) hN hsc hok I3 f3 (λ b hb=>o0 (fpl b hb) (by rw[hD3];exact ubv _)) k34 hns4;have tn4:tn 0 h4:=T.keep 0 s2.heap h4 st2 λ b hb o e=>k34 b o (k23 b o e);have I4o:=I4.ok;have fpS:∀ {H'':Hp},(∀ b∈fp,H'' b=none)->∀ b∈fp,FpOk (cxComp X own fr scope fp pins s3 (upd H2 D (.lst []))) [] H'' b:=λ hn b hb =>
  ⟨hn b hb,(I4o.exf b hb).1,I4o.exfs b hb,.inl hb,(I4o.exf b hb).2,λ p hp=>(f2 b hb).2.2.2.2.2 p (by
   have:p∈(X.pn++pins)++([]:List (j8 × Obj)):=hp;simpa using this)⟩
 have toX:∀ {pins':List (j8 × Obj)}{σ':L2.St}{H5:Hp}{s6:d8},Inv (cxComp X own fr scope fp pins s3 (upd H2 D (.lst []))) pins' σ' H5 s6->Inv X pins σ H5 s6:=λ {pins' σ' H5 s6} I6=>by
  have u1:Un (frs X.stack) fp H2 H5 s2.heap s6.heap:=(Un.laid k23 (ubi hD) hD2).trans I6.base;exact I2.call' (s':=s6) (ch:=fp) (by
   have:=I6.os;rw[← hs3] at this;exact this) u1 I6.hok I6.bare λ b hb=>by
    obtain⟨_,g1,_,g3,g4,g5⟩:=f2 b hb;exact⟨g3,g1,g4,g5⟩
 have hp:Passes (CX1 X.prog X.w) ((cxComp X own fr scope fp pins s3 (upd H2 D (.lst []))).wish (notedBy (p9 X.prog X.w) X.A (compEnvC scope (clOf X.env.cells scope.names []) s3.heap.objs.size X.env) λ e s'=>compPost (p9 X.prog X.w) X.A X.xe use Qo (.ref D) s3.heap.objs.size (.error e) s')) E:=by
  intro pins' σ' H1 s1 e s2' I' h;obtain⟨a,C,T,H',rfl,os,bare,un,hok,fl,la,lT,na,nT,q⟩:=h;have I'':=I'.call' os un hok bare (λ b z=>absurd z (by simp));have J1:Inv (cxComp X own fr scope fp pins s3 (upd H2 D (.lst []))) pins' σ' H1 s1:=I'.unwish;have J2:Inv (cxComp X own fr scope fp pins s3 (upd H2 D (.lst []))) pins' σ' H' s2':=I''.unwish;have IX1:=toX J1;have IX2:=toX J2;have hC3:s3.heap.get? s3.heap.objs.size=none:=ucr (i6 _);obtain⟨m1,⟨o1,es1,ep1,ho1,_⟩,_⟩:=J1.loc;have ho1':s1.heap.get? s3.heap.objs.size=some o1:=ho1;obtain⟨m,⟨o2,es2,ep2,ho2,hd2,hk2,hf2⟩,_⟩:=J2.loc;have ho2':s2'.heap.get? s3.heap.objs.size=some o2:=ho2;have nCa:s3.heap.objs.size≠a:=λ z=>by rw[z,la] at ho1';cases ho1'
  have nCT:s3.heap.objs.size≠T:=λ z=>by rw[z,lT] at ho1';cases ho1'
  have fr:X.A.frames=some (X.env::X.outer):=by rw[← G.stk];exact IX2.ok.frames
  have ff:s2'.heap.FunFrames X.base (X.env::X.outer):=by rw[← G.stk];exact IX2.stack
  have nCf:s3.heap.objs.size∉frs X.stack:=λ z=>by
   have:=(I3.stack.mem z).2;obtain⟨o,e,_⟩:=this;rw[hC3] at e;cases e
  show j7 _ _ (noteFrame (.ref a) X.env) _ _ s2';refine qU (base:=X.base) fr ff G.frm fl.any λ h1 T1 hT1 c1 f1=>?_;have c1':Chg (frs X.stack) a [T] s2'.heap h1:=by rw[G.stk];exact c1
  have nCT1:T1≠s3.heap.objs.size:=by
   rcases hT1 with z | z
   ·rw[z];exact nCT.symm
   ·exact λ y=>absurd (o0 (i9 ho2') (y ▸ z)) (uay _)
  obtain⟨sl,hC1⟩:=c1'.slot _ _ nCa (by simpa using nCT) ho2';have post:∃ m,h1.Ns s3.heap.objs.size m/\∀ h',Heap.SameBut s3.heap.objs.size h1 h'->∀ cenv:Env,cenv.locals=s3.heap.objs.size->j7 (p9 X.prog X.w) X.A (PySem.passOn "comprehension.variables-let-go" (.ref a) cenv:Sem c9) (λ _ _=>False) X.xe { s2' with heap:=h' }:=by
   refine⟨m,⟨_,es2,ep2,hC1,hd2,hk2,hf2⟩,λ h2 sb cenv _=>?_⟩;have f2':FlyA h2 a (.ref C) T1:=f1.but (sb.2 a nCa.symm) (sb.2 T1 nCT1);have f2e:=f2'.ex;obtain⟨oe,vs,ha,hc',dv,v1,dn⟩:=f2e;unfold PySem.passOn;refine a8 (uab (s:={ s2' with heap:=h2 }) ha dv v1 ?_);have nz:(Value.ref T1==Value.none)=false:=rfl;rw[nz];refine uef (λ z=>absurd z (by decide)) λ _=>?_;refine a8 (oQ (s:={ s2' with heap:=h2 }) (S:=frs X.stack) f2' λ h3 c3 f3 _=>wpAny_throw (G.xe _ _ ?_));have cc:Chg (frs X.stack) a ([T]++[s3.heap.objs.size]++[T1]) s2'.heap h3:=(c1'.trans (Chg.but sb)).trans c3;have nfl:∀ b∈frs X.stack,b≠a/\b∉[T]++[s3.heap.objs.size]++[T1]:=λ b hb=>by
    obtain⟨_,o,e,n⟩:=IX1.stack.mem hb;refine⟨λ z=>(by rw[z,la] at e;cases e),λ z=>?_⟩;rcases w8.mp z with z | z
    ·rcases w8.mp z with z | z
     ·rw[l8.mp z,lT] at e;cases e
     ·exact nCf (l8.mp z ▸ hb)
    ·rw[l8.mp z] at e hb;rcases hT1 with y | y
     ·rw[y,lT] at e;cases e
     ·obtain⟨_,o',e',_⟩:=IX2.stack.mem hb;exact absurd (o0 (i9 e') y) (uay _)
   have ff3:h3.FunFrames X.base (X.env::X.outer):=rR (λ b hb o e _=>by
    have hb':b∈frs X.stack:=by rw[G.stk];exact hb
    obtain⟨sl,e'⟩:=cc.slot b o (nfl b hb').1 (nfl b hb').2 e;exact⟨_,e',rfl⟩) ff
   refine zdl (s:={ s2' with heap:=h3 }) (base:=X.base) fr ff3 G.frm f3 λ h4 T4 hT4 c4 fl4=>?_;have c4':Chg (frs X.stack) a [T1,T4] h3 h4:=by rw[G.stk];exact c4
   have hT:X.s₀.heap.get? T=none/\H' T=none:=⟨cB IX1 G.ex lT,nT⟩;have big:∀ {b:j8},s2'.heap.objs.size<=b->X.s₀.heap.get? b=none/\H' b=none:=λ le=>⟨cB IX2 G.ex (ucr le),IX2.hok.fresh le⟩;have hT1':X.s₀.heap.get? T1=none/\H' T1=none:=by
    rcases hT1 with y | y
    ·rw[y];exact hT
    ·exact big y
   have hT4':X.s₀.heap.get? T4=none/\H' T4=none:=by
    rcases hT4 with y | y
    ·rw[y];exact hT1'
    ·exact big (o8 cc.sz y)
   have hCC:X.s₀.heap.get? s3.heap.objs.size=none/\H' s3.heap.objs.size=none:=⟨cB I3 G.ex hC3,J2.free⟩;have cg:=cc.trans c4';obtain⟨u,ho⟩:=gP IX2 G.ex cg ⟨cB IX1 G.ex la,na⟩ (λ b hb=>by
    simp only [w8,j4,m7,or_false] at hb;rcases hb with ((rfl | rfl) | rfl) | rfl | rfl
    ·exact hT
    ·exact hCC
    ·exact hT1'
    ·exact hT1'
    ·exact hT4')
   exact⟨a,C,T4,H',rfl,IX2.os,IX2.bare,u,ho,fl4,cB IX1 G.ex la,hT4'.1,na,hT4'.2,q⟩
  cases use <;> exact post
 have loop : codeAny (p9 X.prog X.w) X.A (.compLoop (.ListComp elt [⟨tg, iter, ifs, 0⟩] scope pos) 0 (.ref it) (.ref D) (compEnvC scope (clOf X.env.cells scope.names []) s3.heap.objs.size X.env))
     (compPost (p9 X.prog X.w) X.A X.xe use Qo (.ref D) s3.heap.objs.size) { s3 with heap:=h4,toks:=s3.toks+([]:List (Str × c9)).length }:=by
  refine wN (λ n s'=>∃ i ys σ' H',Inv (cxComp X own fr scope fp pins s3 (upd H2 D (.lst []))) [] σ' H' s'/\tn i s'.heap/\(∀ b∈fp,H' b=none)/\H' D=some (.lst ys)/\W i n ys σ' H')
   ?step m0 ⟨0,[],_,_,I4,tn4,λ b hb=>(f3 b hb).1,aM,w0⟩
  rintro n s5 ⟨i,ys,σ5,H5,I5,tn5,fr5,d5,w5⟩;rcases turn i n ys σ5 H5 w5 d5 with ⟨stop,q⟩ | ⟨go,stp⟩
  ·refine thn (T.done (cxComp X own fr scope fp pins s3 (upd H2 D (.lst []))) rfl rfl rfl hc i [] s5 σ5 H5 Fls I5 (fpS fr5) tn5 stop) λ r s6 ⟨hr,I6⟩=>.inl ⟨hr,?_⟩;obtain⟨m6,hn6,_⟩:=id I6.loc;have u1:Un (frs X.stack) fp H2 H5 s2.heap s6.heap:=(Un.laid k23 (ubi hD) hD2).trans I6.base;have fC:H5 s3.heap.objs.size=none:=I6.free;have IX:Inv X pins σ H5 s6:=I2.call' (s':=s6) (ch:=fp) (by
    have:=I6.os;rw[← hs3] at this;exact this) u1 I6.hok I6.bare λ b hb=>by
     obtain⟨_,g1,_,g3,g4,g5⟩:=f2 b hb;exact⟨g3,g1,g4,g5⟩
   exact fin s3.heap.objs.size D s6 H5 m6 IX (I2.fpOk (by rw[hD3,hD];exact ubv _) fC) hn6 q
  ·refine thn (T.item (cxComp X own fr scope fp pins s3 (upd H2 D (.lst []))) rfl rfl rfl hc i [] s5 σ5 H5 Fls I5 (fpS fr5) tn5 go) λ r s6 ⟨u,hr,h6⟩=>.inr ⟨u,hr,thn h6 λ _ s7 ⟨x,H7,I7,r7,y7,tn7,fr7⟩=>?_⟩;have I7':=I7.pinned (fpS fr7) (T.obj _ _ tn7);refine thn (hg fp pins s3 (upd H2 D (.lst [])) _ s7 σ5 H7 x u _ I7' r7 (stp x H7 y7)) λ _ s8 ⟨σ8,H8,I8,q8⟩=>?_;refine thn (ht fp pins s3 (upd H2 D (.lst [])) _ s8 σ8 H8 _ I8 q8) λ ok s9 ⟨H9,I9,q9⟩=>?_;have back:∀ {σ':L2.St}{H':Hp}{s':d8},Inv (cxComp X own fr scope fp pins s3 (upd H2 D (.lst []))) ([]++pinsAt fp s7.heap) σ' H' s'->tn (i+1) s'.heap/\∀ b∈fp,H' b=none:=λ {σ' H' s'} J=>by
    refine⟨T.keep _ _ _ tn7 λ b hb o e=>(J.pin (b,o) (r6 _ (r6 _ (dW hb e)))).1,λ b hb=>?_⟩;obtain⟨o,e,_⟩:=T.obj _ _ tn7 b hb;exact (J.pin (b,o) (r6 _ (r6 _ (dW hb e)))).2.1
   cases ok with
   | false =>
    rw[ug8 j9] at q9;obtain⟨d9,m',hm,w9⟩:=q9;rw[ug8 j9];exact⟨m',hm,i+1,ys,σ8,H9,I9.unpinned,(back I9).1,(back I9).2,d9,w9⟩
   | true =>
    rw[ug7 rfl] at q9 ⊢;refine thn (he fp pins s3 (upd H2 D (.lst [])) _ hp _ s9 σ8 H9 _ (I9.wish _) q9) λ xv s10 ⟨v,H10,I10',r10,d10,len,m',hm,w10⟩=>?_;have I10:=I10'.unwish;refine thn (eX (X:=cxComp X own fr scope fp pins s3 (upd H2 D (.lst []))) _ s10 σ8 H10 (.ref D) [v] (.ref D) [xv] (λ _ H'=>H'=upd H10 D (.lst (ys++[v]))) I10 rfl (.cons r10 .nil) ⟨D,ys,v,rfl,rfl,d10,len,rfl⟩) λ _ s11 ⟨_,H11,I11,_,e11⟩=>?_;subst e11;exact⟨m',hm,i+1,ys++[v],σ8,_,I11.unpinned,(back I11).1,(back I11).2,aM,w10⟩
 exact codeAny_compStart_list loop (T.self X.A 0 _ _ _ tn4 loop)
theorem zbf {E:XK}(hc:X.calm=true)(G:XX X E)(hi:PI X tg iter wi)(hg:∀ fp pins s3 H3,PG (cxComp X own fr scope fp pins s3 H3) tg g)(ht:∀ fp pins s3 H3,PTs (cxComp X own fr scope fp pins s3 H3) ifs tt)
  (he:∀ fp pins s3 H3 Z,Passes (CX1 X.prog X.w) ((cxComp X own fr scope fp pins s3 H3).wish Z) E->PE ((cxComp X own fr scope fp pins s3 H3).wish Z) elt te) (hok:compOk N sc0 scope fr js=true:=by symm) (hN:X.N=N:=by rfl) (hsc:X.env.scope=sc0:=by rfl)
  (hs:∀ x,foldedSetIterable iter X.env x=pure x:=by intro _;rfl):PE X (.ListComp elt [⟨tg,iter,ifs,0⟩] scope pos) (tComp own js wi g tt te):=by
 intro pins s σ H Q I h;rw[eval_ListComp];refine xW hc hi hg ht G he hok hN hsc hs I h λ C D s6 H6 m6 I6 f6 n6 q6=>⟨m6,n6,λ h7 sb=>⟨.ref D,H6,?_,rfl,q6⟩⟩;obtain⟨f0,f1,_,f3,f4,f5⟩:=f6;exact I6.turned (it:=C) (t':=s6.toks) (λ b o hb e=>sb.extBut b o hb e) f0 f1 f3 f4 f5
theorem yT {E:XK}{k:Nat}{x:Str}{ps:List Str}{sp:Sp}{p pos:Pos}{e:uby}{es:List uby}{t:TA}(O:OkX X.prog X.w X.K X.mg X.base k x ps sp)(hr:Room k X.A)(hg:Gl X x)(hp:Passes (CX1 X.prog X.w) X E)(ha:PA X (e::es) t)
  (hdb:(x==("__debug__":Str))=false:=by decide) (he:uav (e::es) X.env=(false,eval e X.env)::uav es X.env:=by rfl) (hpl:(backTo pos (uav es X.env)).any (·.1)=false:=by rfl) :
  PE X (.Call (.Name x p) (e::es) [] pos) (tCall sp [] E t):=by
 obtain⟨g,fd,F,b,kp,m⟩:=O;exact jQ F hr hg m kp b .nil hp ha hdb he hpl
end
end L3
namespace Hx
open PySem PySem.W
structure Ch where
 i:Nat
 a:Nat
 t:Nat
 j:Nat
 u:Nat
 b:Nat:=0
def stt (p:n0)(i:Nat):uc9:=p.main.body.getD i (.Pass ⟨0,0,0,0⟩)
def fileS:Str:=v4 "/claim/cut.py"
def mdV (p:n0)(c:Ch):c9:=match stt p c.j with
 | .Assign _ (.Constant (.str x) _ _) _=>.str x c.u
 | _=>.str (v4 "__main__") c.u
def sT (xs:List c9):Obj:=⟨.type "tuple",none,.seq xs.toArray 0,#[]⟩
def fE (xs:List c9):Obj:=⟨.none,none,.fields xs.toArray,#[]⟩
def tks:List Str->Nat->List c9
 | [],_=>[]
 | v::r,t=>.str v t::tks r (t+1)
def z:c9:=.int 0 0
def cdO (nm q:Str)(t:Nat)(l:Int)(na fl:Int)(k:c9)(fn:Bool)(tb vs cs tp:c9)(u:Nat):Obj :=
 ⟨.type "code",none,.fields #[.str nm t,.str q (t+1),.str fileS (t+2),.int l 0,.int na 0,z,z,.int fl 0,k,.bool fn,.int 181 0,tb,.none,vs,cs,tp,.int u 0,.int l 0,.str fileS (u+1)],#[]⟩
def ent (P:Params)(s:Str)(t:Nat)(v:c9):DictEntry:=⟨PyData.keyHash P s,.str s t,v⟩
def dO (es:List DictEntry)(n:Nat):Obj:=⟨.type "dict",none,.dict es.toArray n,#[]⟩
structure Got where
 os:List Obj
 en:List DictEntry
 tb:List c9
def fO (P:Params)(md:c9)(a t:Nat)(name:Str)(args:Arguments)(body:List uc9)(scope:ue1)(bind:Str)(pos:Pos):Got :=
 let fd:FuncData:=⟨name,bind,args,.stmts body,scope,0,[],.none,.none,.none,.none,none,.none,.none,0⟩;let k (vs cs:c9) (b u:Nat) (h:List Obj):Got :=
  ⟨h++[⟨.none,none,.func fd,#[]⟩,cdO name bind t pos.line args.args.length 3 (.ref a) true (.ref (a+1)) vs cs (.ref b) u,
   ⟨.type "function",none,.func ⟨name,bind,args,.stmts body,scope,3,[],.none,.none,.none,md,none,.ref (b+1),.none,0⟩,#[]⟩],
   [ent P name (u+2) (.ref (b+2))],[.int pos.line 0,.int pos.col 0,.ref (b+1)]⟩
 match localNames args scope (.stmts body) with
 | none=>k .none .none (a+2) (t+3) [sT [],fE []]
 | some (vs,cs)=>k (.ref (a+2)) (.ref (a+3)) (a+4) (t+3+vs.length+cs.length) [sT [],fE [],sT (tks vs (t+3)),sT (tks cs (t+3+vs.length))]
def mro0:List c9:=[.type "ValueError",.type "Exception",.type "BaseException",.type "object"]
def clO (P:Params)(md:c9)(a t:Nat)(base:Option Nat)(sub:List c9)(name bind:Str)(pos:Pos):Got :=
 let l:Int:=pos.line;let w:=base.isNone;let C:=a+9-(if w then 0 else 0);let bs:c9:=match base with | none=>.type "ValueError" | some b=>.ref b
 let e1:=ent P (v4 "__module__") (t+7) md;let e2:=ent P (v4 "__firstlineno__") (t+11) (.int l (t+10));let e3:=ent P (v4 "__static_attributes__") (t+12) (.ref (a+7))
 ⟨[sT [bs],⟨.type "builtin_function_or_method",none,.fields #[.builtin "type.__prepare__",.type "type"],#[]⟩,
  dO [e1,ent P (v4 "__qualname__") (t+9) (.str bind (t+8)),e2,e3] 4,sT [],fE [],
  cdO name bind (t+2) l 0 0 (.ref (a+3)) false (.ref (a+4)) .none .none .none (t+5),
  ⟨.type "frame",none,.plain,#[some (.ref (a+5)),some (.ref 3),some (.ref (a+2)),none,some md,none,some (.ref 0)]⟩,sT [],
  dO (e1::e2::e3::(if w then [ent P (v4 "__weakref__") (t+14) (.ref (a+10)),ent P (v4 "__doc__") (t+15) .none] else [ent P (v4 "__doc__") (t+13) .none])) (if w then 3 else 2),
  ⟨.type "type",none,.cls ⟨name,[bs],.ref C::(match base with | none=>mro0 | some b=>.ref b::mro0),a+8,bind,true,[],sub,false,none,false⟩,
   #[some (.ref a),none,some (.str name t),some (.str bind (t+8)),some (.builtin "ValueError.__new__"),some (.bool true)]⟩] ++
  (if w then [⟨.type "getset_descriptor",none,.fields #[.str (v4 "__weakref__") (t+13),.ref C,.builtin "ExceptionGroup.__weakref__",.none],#[]⟩] else []) ++
  [⟨.type "super",none,.fields #[.ref C,.ref C,.ref C],#[]⟩,⟨.type "builtin_function_or_method",none,.fields #[.builtin "object.__init_subclass__",.ref C],#[]⟩],
  [ent P name (t+(if w then 17 else 15)) (.ref C)],[.int l 0,.int pos.col 0,.ref (a+5)]⟩
def got (p:n0)(P:Params)(cs:List Ch)(c:Ch):Got:=match stt p c.i with
 | .FunctionDef name args body _ _ _ scope _ bind pos=>fO P (mdV p c) c.a c.t name args body scope bind pos
 | .ClassDef name _ _ _ _ _ _ _ bind _ pos=>clO P (mdV p c) c.a c.t (if c.b==0 then none else some c.b) (cs.filterMap λ d=>if d.b==c.a+9 then some (.ref (d.a+9)) else none) name bind pos
 | _=>⟨[],[],[]⟩
def nameNow (p:n0)(cs:List Ch):Option c9:=match cs.getLast? with
 | some c=>some (mdV p { c with j:=c.j,u:=c.u })
 | none=>none
def setName (P:Params)(v:Option c9):List DictEntry->List DictEntry
 | e::r=>(match v with | some v=>{ e with val:=v } | none=>e)::r
 | []=>[]
def globO (p:n0)(P:Params)(cs:List Ch)(en:List DictEntry):Obj->Obj
 | ⟨c,d,.dict es n,s⟩=>⟨c,d,.dict (setName P (nameNow p cs) es.toList++en).toArray (n+en.length),s⟩
 | o=>o
def objs (p:n0)(P:Params)(B:List Obj)(cs:List Ch):List Obj :=
 let gs:=cs.map (got p P cs)
 match B with
 | b0::b1::b2::b3::r=>b0::b1::b2::globO p P cs (gs.flatMap (·.en)) b3::(r++(sT []::fE (gs.flatMap (·.tb)) ::
  cdO (v4 "<module>") (v4 "<module>") 182 1 0 0 (.ref 11) false (.ref 12) .none .none .none 185 ::
  ⟨.type "frame",none,.plain,#[some (.ref 13),some (.ref 3),some (.ref 3),none,some (.str (v4 "__main__") 164),none,some (.ref 0)]⟩::gs.flatMap (·.os)))
 | _=>[]
def spl:List Obj->List Obj × List Obj
 | []=>([],[])
 | x::r=>(x::(spl r).2,(spl r).1)
def braun:Nat->List Obj->BT
 | 0,_=>.nil
 | _+1,[]=>.nil
 | f+1,o::r=>.node o (braun f (spl r).1) (braun f (spl r).2)
structure Cut where
 k:Nat
 n:Nat
 t:Nat
def hpT (p:n0)(B:Params->List Obj)(cs:List Ch)(c:Cut)(P:Params):Heap:=absHeap (braun 12 (objs p P (B P) (cs.take c.k))) c.n {}
def stT (p:n0)(B:Params->List Obj)(D:Drawn)(cs:List Ch)(c:Cut)(w:uak)(os:OsState):SharedT :=
 ⟨braun 12 (objs p w.params (B w.params) (cs.take c.k)),c.n,{},uel [],D,c.t,os⟩
def env (p:n0):Env:={ scope:=p.main.scope,locals:=mainNs,globals:=mainNs,cells:=[],code:=.ref 13,frame:=some 14 }
def cE (p:n0):Code:=.body p.main.body (env p)
def pos0:Pos:=⟨0,0,0,0⟩
def posOf (p:n0):Nat->Pos
 | 0=>pos0
 | k+1=>match stt p k with
  | .Assign [.Name _ q] _ _=>q
  | .FunctionDef _ _ _ _ _ _ _ _ _ q=>q
  | .ClassDef _ _ _ _ _ _ _ _ _ _ q=>q
  | _=>pos0
def ann0:Option c9:=some (.ref 6)
def PieceT (p:n0)(B:Params->List Obj)(D:Drawn)(cs:List Ch)(a b:Cut)(N:Nat):Prop:=∀ w:uak,
 (λ os=>segRunT treeTable p w 11 ann0 1 N (stT p B D cs a w os) (piecesOf ((p.main.body.drop a.k).take (b.k-a.k)) (env p) (cE p) (posOf p a.k) [topFrame pos0]))=λ os=>some (Flow.next,stT p B D cs b w os,cE p,posOf p b.k)
def PreT (p:n0)(B:Params->List Obj)(D:Drawn)(h:Params->Heap)(t:Nat)(cs:List Ch)(a:Cut):Prop:=∀ w:uak,
 (λ os=>topGo treeTable p w 11 ann0 12 ⟨h w.params,uel [],D,t,os⟩ (topStub p))=λ os=>some ((stT p B D cs a w os).abs,⟨denote treeTable (cE p),cE p,pos0,[topFrame pos0]⟩)
def BlockT (p:n0):Prop:=∀ (w:uak)(s:d8),segRun treeTable p w 11 ann0 1 1 s (blockOf p.main.body (env p) (cE p) pos0 [topFrame pos0])=some (.next,s,cE p,pos0)
noncomputable def boots (P:Params):List Obj:=[boot_o_0 P,boot_o_1 P,boot_o_2 P,boot_o_3 P,boot_o_4 P,boot_o_5 P,boot_o_6 P,boot_o_7 P,boot_o_8 P,boot_o_9 P,boot_o_10 P]
def qv (p:n0)(is:List Nat):n0:={ p with main:={ p.main with body:=is.map (stt p) } }
def nmO:uc9->Option Str
 | .FunctionDef n ..=>some n
 | .ClassDef n ..=>some n
 | _=>none
def lz (p:n0)(is:List Nat)(n:Nat):List Str:=(d7 n).filterMap λ i=>if is.contains i then none else nmO (stt p i)
def kk (a:Nat)(g:Got):List (Nat × Obj):=match g.os with
 | [_,_,_,c,f]=>[(a+3,c),(a+4,f)]
 | [_,_,_,_,_,c,f]=>[(a+5,c),(a+6,f)]
 | _::_::_::_::_::_::_::_::d::C::_=>[(a+8,d),(a+9,C)]
 | _=>[]
def Kf (p:n0)(B:Params->List Obj)(cs:List Ch)(P:Params):Frag :=
 let gs:=cs.map (got p P cs)
 (3,globO p P cs (gs.flatMap (·.en)) ((B P).getD 3 (sT [])))::(cs.zip gs).flatMap λ c=>kk c.1.a c.2
def LookA (p:n0)(B:Params->List Obj)(D:Drawn)(h:Params->Heap)(cs:List Ch)(c:Cut):Prop:=∀ w:uak,(λ os =>
  (staticsOk (importedModules p.main.body) (h w.params) (hpT p B cs c w.params)&&namesBound p (hpT p B cs c w.params)&&gensDone ⟨hpT p B cs c w.params,uel [],D,c.t,os⟩&&laidKept (h w.params) (hpT p B cs c w.params)))=λ _:OsState=>true
def LookB (p:n0)(B:Params->List Obj)(D:Drawn)(cs:List Ch)(c:Cut)(is:List Nat)(rc:WRecords):Prop:=∀ w:uak,(λ os =>
  openSeen (qv p is) (lz p is c.k) (importedModules p.main.body) (λ s=>xlAt (qv p is) [] s&&recOk rc s) true ⟨hpT p B cs c w.params,uel [],D,c.t,os⟩)=λ _:OsState=>openGood (qv p is) (lz p is c.k)
def LookC (p:n0)(B:Params->List Obj)(cs:List Ch)(c:Cut)(as:List Nat):Prop:=∀ w:uak,as.map (hpT p B cs c w.params).get?=(Kf p B cs w.params).map λ p=>some p.2
section
variable {p:n0}{D:Drawn}{cs:List Ch}
theorem zdt {w:uak}{s:d8}{c:Code}{q:Pos}:topRun treeTable p w 11 ann0 2 s ⟨doneF .next,c,q,[topFrame pos0]⟩=some s:=rfl
theorem zZ {w:uak}{os:OsState}{c:Cut}(h:p.main.body.drop c.k=[]) :
  topRun treeTable p w 11 ann0 2 (stT p boots boot_drawn cs c w os).abs (restOf (p.main.body.drop c.k) (env p) (cE p) (posOf p c.k) [topFrame pos0])=some (stT p boots boot_drawn cs c w os).abs:=by
 rw[h];exact piece_nil zdt
theorem chain {w:uak}{os:OsState}{a b:Cut}{N M:Nat}{r:d8}(h:PieceT p boots boot_drawn cs a b N)(le:a.k<=b.k)
  (k:topRun treeTable p w 11 ann0 M (stT p boots boot_drawn cs b w os).abs (restOf (p.main.body.drop b.k) (env p) (cE p) (posOf p b.k) [topFrame pos0])=some r) :
  topRun treeTable p w 11 ann0 (N+M) (stT p boots boot_drawn cs a w os).abs (restOf (p.main.body.drop a.k) (env p) (cE p) (posOf p a.k) [topFrame pos0])=some r:=by
 have e:p.main.body.drop a.k=(p.main.body.drop a.k).take (b.k-a.k)++p.main.body.drop b.k:=by
  have x:=(List.take_append_drop (b.k-a.k) (p.main.body.drop a.k)).symm;rw[List.drop_drop,Nat.add_sub_cancel' le] at x;exact x
 rw[e];exact piece_app (segRun_of (congrFun (h w) os)) k
theorem zc2 {w:uak}{os:OsState}{M:Nat}{r:d8}(pre:PreT p boots boot_drawn boot_heap boot_toks cs ⟨0,15,187⟩)(bl:BlockT p)
  (k:topRun treeTable p w 11 ann0 M (stT p boots boot_drawn cs ⟨0,15,187⟩ w os).abs (restOf (p.main.body.drop 0) (env p) (cE p) (posOf p 0) [topFrame pos0])=some r) :
  topRun treeTable p w 11 ann0 (12+(1+M)) ⟨boot_heap w.params,uel [],boot_drawn,boot_toks,os⟩ (topStub p)=some r :=
 go_top (congrFun (pre w) os) (piece_block (bl w _) k)
theorem zdk {is as:List Nat}{rc:WRecords}{c:Cut}{M N:Nat}{e:∀ P,as=(Kf p boots cs P).map (·.1)}
  (op:opening p=plainProg p.main.scope.names) (hN:Nat.ble 600 N=true) (fe:∀ s,fenceModules? p s=some s)
  (size:∀ w:uak,((boot_heap w.params).isNs m9&&(uel []:Array GenState).size==0,(boot_heap w.params).objs.size,(boot_heap w.params).nsMap m9 "__annotations__")=(true,11,ann0))
  (run:∀ (w:uak)(os:OsState),topRun treeTable p w 11 ann0 M ⟨boot_heap w.params,uel [],boot_drawn,boot_toks,os⟩ (topStub p)=some (stT p boots boot_drawn cs c w os).abs) (le:Nat.ble M N=true)
  (hA:LookA p boots boot_drawn boot_heap cs c) (hB:LookB p boots boot_drawn cs c is rc) (hC:LookC p boots cs c as) :
  LeftO p (qv p is) (lz p is c.k) (λ s=>xlAt (qv p is) [] s&&recOk rc s) (Hook.obs (kHook (Kf p boots cs) as e)) (Hook.val (kHook (Kf p boots cs) as e)) N :=
 LeftO.of_pieces (H₀:=boot_heap) (H₁:=hpT p boots cs c) (boot_open op hN fe) size run le λ w=>funext λ os=>by
  have a:=congrFun (hA w) os;have b:=congrFun (hB w) os;have c:=hC w;exact looks_pair a (looks_pair b c)
end
end Hx
set_option hygiene false
local macro_rules | `(tactic| exists $k, $s) => `(tactic| (refine rO (k := $k) D $s (fun vs H Q E h => by first | (obtain ⟨_, rfl, _⟩ := h; rfl) | (obtain ⟨_, _, rfl, _⟩ := h; rfl) | (obtain ⟨_, _, _, rfl, _⟩ := h; rfl) | (obtain ⟨_, _, _, _, rfl, _⟩ := h; rfl) | (obtain ⟨_, _, _, _, _, rfl, _⟩ := h; rfl) | (obtain ⟨_, _, _, _, _, _, rfl, _⟩ := h; rfl) | (obtain ⟨_, _, _, _, _, _, _, rfl, _⟩ := h; rfl) | (obtain ⟨_, _, _, _, _, _, _, _, rfl, _⟩ := h; rfl) | (obtain ⟨_, _, _, _, _, _, _, _, _, rfl, _⟩ := h; rfl) | (obtain ⟨_, _, _, _, _, _, _, _, _, _, rfl, _⟩ := h; rfl) | (obtain ⟨_, _, _, _, _, _, _, _, _, _, _, rfl, _⟩ := h; rfl) | (obtain ⟨_, _, _, _, _, _, _, _, _, _, _, _, rfl, _⟩ := h; rfl) | (obtain ⟨_, _, _, _, _, _, _, _, _, _, _, _, _, rfl, _⟩ := h; rfl) | (obtain ⟨_, _, _, _, _, _, _, _, _, _, _, _, _, _, rfl, _⟩ := h; rfl) | (obtain ⟨_, _, _, _, _, _, _, _, _, _, _, _, _, _, _, rfl, _⟩ := h; rfl)) (fun f cdv A outer s H vs Q E hr h => ?_); have nd := ($s).nd))
local macro_rules | `(tactic| exists $k, $s, $s2) => `(tactic| refine rO (k := $k) D $s (fun vs H Q E h => ?_) (fun f cdv A outer s H vs Q E hr h => ?_))
local macro_rules | `(‹$n:num›) => `(Ok P w K mg base $n)
set_option hygiene true
namespace Me
open PySem PySem.Spec PyProof.Rows L2 L3
def top (i:Nat):uc9:=a7.main.body.getD i (.Pass ⟨0,0,0,0⟩)
abbrev s_is_whole:uc9:=top 16
theorem sc_is_whole:FnScope ["thing"] ["thing"] (defScope s_is_whole):=by right
abbrev s_is_rising:uc9:=top 17
theorem sc_is_rising:FnScope ["parts"] ["parts"] (defScope s_is_rising):=by right
abbrev s_is_place:uc9:=top 19
theorem sc_is_place:FnScope ["web","thing"] ["web","thing"] (defScope s_is_place):=by right
abbrev s_whole:uc9:=top 20
theorem sc_whole:FnScope ["web"] ["web"] (defScope s_whole):=by right
abbrev s_tie_between:uc9:=top 21
theorem sc_tie_between:FnScope ["web","a","b","ends","number","tie"] ["web","a","b"] (defScope s_tie_between):=by right
abbrev s_are_unlike_places:uc9:=top 23
theorem sc_are_unlike_places:FnScope ["web","thing"] ["web","thing"] (defScope s_are_unlike_places):=by right
abbrev s_tie_weights:uc9:=top 24
theorem sc_tie_weights:FnScope ["web","weights","weight","tie"] ["web"] (defScope s_tie_weights):=by right
abbrev s_cost_with:uc9:=top 25
theorem sc_cost_with:FnScope ["cost","length","weight"] ["cost","length","weight"] (defScope s_cost_with):=by right
abbrev s_reached_from:uc9:=top 26
theorem sc_reached_from:FnScope ["web","keep","root","weights","costs","ahead","again","tie","a","b","length","one","other","cost"] ["web","keep","root"] (defScope s_reached_from):=by right
abbrev s_fars_from:uc9:=top 27
theorem sc_fars_from:FnScope ["web","keep","root","costs","ahead"] ["web","keep","root"] (defScope s_fars_from):=by right
abbrev s_tree_from:uc9:=top 28
theorem sc_tree_from:FnScope ["web","keep","root","costs","ahead"] ["web","keep","root"] (defScope s_tree_from):=by right
abbrev s_is_level:uc9:=top 30
theorem sc_is_level:FnScope ["web","thing"] ["web","thing"] (defScope s_is_level):=by right
abbrev s_lies_within:uc9:=top 31
theorem sc_lies_within:FnScope ["level","ahead"] ["level","ahead"] (defScope s_lies_within):=by right
abbrev s_are_levels:uc9:=top 32
theorem sc_are_levels:FnScope ["web","thing"] ["web","thing"] (defScope s_are_levels):=by right
abbrev s_need_levels:uc9:=top 33
theorem sc_need_levels:FnScope ["web","levels"] ["web","levels"] (defScope s_need_levels):=by right
abbrev s_top_of:uc9:=top 34
theorem sc_top_of:FnScope ["levels","place"] ["levels","place"] (defScope s_top_of):=by right
abbrev s_nearest_of:uc9:=top 35
theorem sc_nearest_of:FnScope ["levels","number","fars"] ["levels","number","fars"] (defScope s_nearest_of):=by right
abbrev s_is_bunched:uc9:=top 36
theorem sc_is_bunched:FnScope ["levels","fars","w","behind"] ["levels","fars","w"] (defScope s_is_bunched):=by right
abbrev s_pivot_by:uc9:=top 37
theorem sc_pivot_by:FnScope ["levels","i","fars","near"] ["levels","i","fars"] (defScope s_pivot_by):=by right
abbrev s_web_fars:uc9:=top 38
theorem sc_web_fars:FnScope ["web","place"] ["web","place"] (defScope s_web_fars):=by right
abbrev s_bunch:uc9:=top 39
theorem sc_bunch:FnScope ["web","levels","v","fars"] ["web","levels","v"] (defScope s_bunch):=by right
abbrev s_pivot:uc9:=top 40
theorem sc_pivot:FnScope ["web","levels","i","v"] ["web","levels","i","v"] (defScope s_pivot):=by right
abbrev s_climb:uc9:=top 41
theorem sc_climb:FnScope ["web","levels","u","v","here","there","told","w","start","end","length"] ["web","levels","u","v"] (defScope s_climb):=by right
abbrev s_tree_ties:uc9:=top 43
theorem sc_tree_ties:FnScope ["web","tree"] ["web","tree"] (defScope s_tree_ties):=by right
abbrev s_not_kept:uc9:=top 45
theorem sc_not_kept:FnScope ["web","keep"] ["web","keep"] (defScope s_not_kept):=by right
abbrev s_bunches_of:uc9:=top 47
theorem sc_bunches_of:FnScope ["web","levels"] ["web","levels"] (defScope s_bunches_of):=by right
abbrev s_cluster_tree:uc9:=top 48
theorem sc_cluster_tree:FnScope ["web","bunches","w","tree"] ["web","bunches","w"] (defScope s_cluster_tree):=by right
abbrev s_cluster_trees:uc9:=top 49
theorem sc_cluster_trees:FnScope ["web","bunches"] ["web","bunches"] (defScope s_cluster_trees):=by right
abbrev s_ties_of_trees:uc9:=top 50
theorem sc_ties_of_trees:FnScope ["web","trees","ties","root","tree"] ["web","trees"] (defScope s_ties_of_trees):=by right
abbrev s_level_keep:uc9:=top 51
theorem sc_level_keep:FnScope ["web","levels"] ["web","levels"] (defScope s_level_keep):=by right
abbrev s_best_side:uc9:=top 52
theorem sc_best_side:FnScope ["web","bunches","tie","a","b","length"] ["web","bunches","tie"] (defScope s_best_side):=by right
abbrev s_level_paper:uc9:=top 53
theorem sc_level_paper:FnScope ["web","levels","bunches","trees","ties"] ["web","levels"] (defScope s_level_paper):=by right
abbrev s__law_pot:uc9:=top 55
theorem sc__law_pot:FnScope ["script","k","cell","prime"] ["script","k"] (defScope s__law_pot):=by right
abbrev s__law_take:uc9:=top 56
theorem sc__law_take:FnScope ["pot","many","found"] ["pot","many"] (defScope s__law_take):=by right
abbrev s__law_length:uc9:=top 57
theorem sc__law_length:FnScope ["pot","way"] ["pot","way"] (defScope s__law_length):=by right
abbrev s__law_tied:uc9:=top 58
theorem sc__law_tied:FnScope ["pot","n","style","a","b","beside"] ["pot","n","style","a","b"] (defScope s__law_tied):=by right
abbrev s__law_order:uc9:=top 59
theorem sc__law_order:FnScope ["pot","many","left","found","turn"] ["pot","many"] (defScope s__law_order):=by right
abbrev s__law_web:uc9:=top 60
theorem sc__law_web:FnScope ["pot","most","n","style","way","names","ties","b","a","one","other"] ["pot","most"] (defScope s__law_web):=by right
abbrev s__law_levels:uc9:=top 61
theorem sc__law_levels:FnScope ["pot","n","found","turn","share"] ["pot","n"] (defScope s__law_levels):=by right
abbrev s__law_spoilt:uc9:=top 62
theorem sc__law_spoilt:FnScope ["pot","n","levels","at","row","spot","others","rows","found"] ["pot","n","levels"] (defScope s__law_spoilt):=by right
abbrev s__law_asked:uc9:=top 63
theorem sc__law_asked:FnScope ["way","web","levels","places"] ["way","web","levels","places"] (defScope s__law_asked):=by right
abbrev s__law_refused:uc9:=top 64
theorem sc__law_refused:FnScope ["way","web","levels","places","caught","e"] ["way","web","levels","places"] (defScope s__law_refused):=by right
abbrev s_law:uc9:=top 65
theorem sc_law:FnScope ["script","k","pot","web","levels","places","thing","way"] ["script"] (defScope s_law):=by right
section
variable {P:n0}{w:uak}{K:b9}{mg:Str->Option c9}{base:Heap}
theorem vC (T:Bi mg)(D:DefOk K mg "_law_take" s__law_take ["pot","many"]):‹1› "_law_take" ["pot","many"] spTake:=by
 exists 0,sc__law_take;obtain⟨p,m,rfl,⟨a,b,hp,ha,hb,hb2⟩,hm,hm2,q⟩:=h;refine⟨_,(aF (aT (aR dS (aK aW (pv 0) aC (λ _ _=>rfl)) aC (nomark _)) (aF (aQ (i:=2) nd rfl (v6 rfl) (aL cO (aK aW (pv 0) aC (λ _ _=>rfl)) (pv 1))) (aF (cN (aL pU (aK aW (pv 0) aC (λ _ _=>rfl)) (pv 1)) (fT (pv 0) aC fB)) (aE (aH (pv 2))))) aS) (aF (cN (aL cO (aL bR (aL iD (aK aW (pv 0) aC (λ _ _=>rfl)) aC) aC) aC) (fT (pv 0) aC fB)) (aE (aH (aL cO (aL pU (aL cO (aL cK (aK aW (pv 0) aC (λ _ _=>rfl)) aC) aC) aC) (pv 1)))))),?_⟩;refine⟨A,p,Y,SqL.of hp,rfl,M,A,?_⟩;refine ite2 (λ c=>?_) (λ c=>?_)
 ·refine⟨A,p,Y,SqL.of hp,X,M,hm,?_⟩;refine⟨A,p,Y,SqL.of hp,X,M,⟨hm,hm2⟩,?_⟩;refine⟨A,p,_,0,0,P,hp,X,?_⟩;refine q _ _ (uda _ (by left)) (uc8 _ hm) But.upd ⟨a / m,b,aM,Int.ediv_nonneg ha (by left),hb,hb2⟩
 ·refine⟨A,p,Y,SqL.of hp,rfl,M,.inr ⟨by decide,by decide⟩,M,M,(by show (0:Int)<2147483647;decide),?_⟩;refine⟨A,p,_,1,1,P,hp,rfl,?_⟩;have n1:0<=(b*48271+12820163)%2147483647:=uda _ (by decide);have n2:(b*48271+12820163)%2147483647<2147483647:=uc8 _ (by decide);refine⟨A,p,Y,SqL.of aM,rfl,M,⟨by decide,by decide,by left⟩,M,(by show (0:Int)<2147483629;decide),M,⟨by decide,by decide⟩,A,M,hm,?_⟩;exact q _ _ (uda _ (by left)) (uc8 _ hm) But.upd ⟨a,_,aM,ha,n1,n2⟩
theorem wG (T:Bi mg)(D:DefOk K mg "_law_pot" s__law_pot ["script","k"]):‹1› "_law_pot" ["script","k"] (spPot K):=by
 exists 0,sc__law_pot;obtain⟨a,k,ns,rfl,hS,hk0,hk1,q⟩:=h;have hl:(ns.map V.int).length=ns.length:=i5 _;refine⟨_,(aF (aQ (i:=2) nd rfl (v6 rfl) aC) (aF (aT (aR cP (pv 1) (aO bO rfl T.z_len (by symm) (aA (pv 0) aB)) (nomark _)) (aE (aQ (i:=2) nd rfl (v6 rfl) (aL cO (aK aW (pv 0) (pv 1) (λ _ _=>rfl)) (aL pT (aL pT (aL cK aC aC) (aL cK aC aC)) (aL cK aC aC))))) aS) (aF (aQ (i:=3) nd rfl (v6 rfl) (aK aW (dP (aA aC (aA aC (aA aC (aA aC (aA aC aB)))))) (aL cO (pv 1) aC) (λ _ _=>rfl))) (aE (aH (dP (aA (aO (iW rfl) rfl T.z_max (by symm) (aA aC (aA (aL dA (pv 2) (aL cK aC aC)) aB))) (aA (aL cO (aL cK (aL bR (aL bR (aL cO (pv 2) (pv 3)) (aL iD aC (pv 1))) aC) aC) aC) aB)))))))),?_⟩
 have rest : ∀ (cell : Int), 0 <= cell → ∀ (σ : L2.St), σ = [some (.ref a), some (.int k), some (.int cell), none] →
     (tSeq (tAsg (tOp (rIxL K) (tLst (tCons (tC (.int 2147483629)) (tCons (tC (.int 2147483587)) (tCons (tC (.int 2147483579)) (tCons (tC (.int 2147483563)) (tCons (tC (.int 2147483549)) tNil)))))) (tOp (rI (λ _ j=>0<j) λ i j=>.int (i%j)) (tVar 1) (tC (.int 5)))) (gName 3))
       (tRet (tLst (tCons (tCB (λ xs H Q=>∃ i j,xs=[.int i,.int j]/\Q (.int (if j>i then j else i)) H) (tCons (tC (.int 0)) (tCons (tOp (rI0 λ i j=>.int (i-j)) (tVar 2) (tOp (rI CPow λ i j=>.int (i^j.toNat)) (tC (.int 10)) (tC (.int 18)))) tNil)))
         (tCons (tOp (rI (λ _ j=>0<j) λ i j=>.int (i%j)) (tOp (rI CPow λ i j=>.int (i^j.toNat)) (tOp (rI0 λ i j=>.int (i+j)) (tOp (rI0 λ i j=>.int (i+j)) (tOp (rI (λ _ j=>0<j) λ i j=>.int (i%j)) (tVar 2) (tVar 3)) (tOp (rI CMul λ i j=>.int (i*j)) (tC (.int 7919)) (tVar 1))) (tC (.int 11))) (tC (.int 3))) (tC (.int 2147483647))) tNil)))))
       { nx:=λ _ H'=>Q .non H',rt:=Q } σ H:=by
  intro cell hc σ hσ;subst hσ;refine⟨(by show 5<=o7;decide),λ l hl=>?_⟩;refine⟨A,M,(by show (0:Int)<5;decide),?_⟩;have m0:0<=k%5:=uda _ (by decide);have m1:k%5<5:=uc8 _ (by decide);have pr:∃ v:Int,atI [V.int 2147483629,V.int 2147483587,V.int 2147483579,V.int 2147483563,V.int 2147483549] (k%5)=some (.int v)/\2147483549<=v/\v<=2147483629:=by
   have:k%5=0\/k%5=1\/k%5=2\/k%5=3\/k%5=4:=by left
   rcases this with e | e | e | e | e <;> rw[e] <;> exact⟨A,by decide,by decide⟩
  obtain⟨v,hv,v1,v2⟩:=pr;refine⟨l,Y,SqL.of aM,hv,?_⟩;have S1:Same H (upd H l (.lst [V.int 2147483629,V.int 2147483587,V.int 2147483579,V.int 2147483563,V.int 2147483549])):=aP hl;refine⟨A,M,⟨by decide,by decide,by decide⟩,M,_,A,?_⟩;refine⟨K,M,(by show (0:Int)<v;left),A,M,.inl ⟨by decide,by decide⟩,M,M,M,⟨by decide,by decide,?_⟩,M,(by show (0:Int)<2147483647;decide),?_⟩
  ·have c0:0<=cell%v:=uda _ (by left);have c1:cell%v<v:=uc8 _ (by left);left
  refine⟨(by show 2<=o7;decide),λ l2 hl2=>?_⟩;refine q l2 _ (S1.trans (aP hl2)) (S1.free hl2) ⟨V,aM,?_,uda _ (by decide),uc8 _ (by decide)⟩;split <;> left
 refine⟨K,a,A,.inl hS,M,A,?_⟩;refine ite2 (λ c=>?_) (λ c=>?_)
 ·have c':k<(((ns.map V.int).length:Nat):Int):=ug4 c;rw[hl] at c';obtain⟨v,hv⟩:∃ v:Int,atI (ns.map V.int) k=some (.int v):=by
   have hk:k.toNat<ns.length:=by left
   have ek:k=((k.toNat:Nat):Int):=by left
   have z:atI (ns.map V.int) ((k.toNat:Nat):Int)=some (.int ns[k.toNat]):=qK (by rw[l7,c7 hk] <;> rfl);rw[← ek] at z;exact⟨_,z⟩
  refine⟨K,a,Y,hS,hv,?_⟩;refine⟨M,⟨by decide,by decide,by decide⟩,M,⟨by decide,by decide,by decide⟩,M,mulB,M,⟨by decide,by decide,by decide⟩,M,mulB2,M,posB,?_⟩;exact rest _ (uda _ (by have:=posB;left)) _ rfl
 ·exact rest 5 (by decide) _ rfl
theorem tJ (T:Bi mg)(D:DefOk K mg "_law_length" s__law_length ["pot","way"])(O__law_take:‹1› "_law_take" ["pot","many"] spTake):‹2› "_law_length" ["pot","way"] spLength:=by
 exists 1,sc__law_length;obtain⟨p,y,rfl,hp,hy0,hy5,q⟩:=h;refine⟨_,(aF (aT (aR cP (pv 1) aC (nomark _)) (aE (aH (aK aW (dP (aA aC (aA (aL bR aC (aG O__law_take hr rfl (aA (pv 0) (aA aC aB)))) aB))) (pv 1) (λ _ _=>rfl)))) aS) (aF (aT (aR bA (pv 1) aC (nomark _)) (aE (aH (aL bR aC (aG O__law_take hr rfl (aA (pv 0) (aA aC aB)))))) aS) (aF (aT (aR bA (pv 1) aC (nomark _)) (aE (aH (aK aW (dP (aA aC (aA aC (aA aC (aA (aL cK aC aC) (aA (aL dA (aL cK aC aC) aC) (aA (aL cK aC aC) aB))))))) (aG O__law_take hr rfl (aA (pv 0) (aA aC aB))) (λ _ _=>rfl)))) aS) (aE (aH (aL bR aC (aL iD (aG O__law_take hr rfl (aA (pv 0) (aA (aL cK aC aC) aB))) (aG O__law_take hr rfl (aA (pv 0) (aA (aL bR (aL cK aC aC) aC) aB)))))))))),?_⟩;refine⟨A,M,A,?_⟩;refine ite2 (λ c=>?_) (λ c=>?_)
 ·have c':y<2:=ug4 c;refine⟨A,p,3,rfl,hp,by decide,by decide,λ r H1 r0 r1 b1 p1=>?_⟩;refine⟨M,(by show 2<=o7;decide),λ l hl=>?_⟩;have at_:∃ v:Int,atI [V.int 1,V.int (1+r)] y=some (.int v)/\1<=v/\v<=10^18:=by
   have:y=0\/y=1:=by left
   rcases this with e | e <;> rw[e]
   ·exact⟨1,rfl,by symm,by symm⟩
   ·exact⟨1+r,rfl,by left,by left⟩
  obtain⟨v,hv,v0,v1⟩:=at_;refine⟨A,l,Y,SqL.of aM,hv,?_⟩;obtain⟨a',b',e',z⟩:=p1;exact q v _ v0 v1 (b1.trans (But.new hl)) ⟨a',b',(aP hl) _ _ e',z⟩
 refine⟨E,A,?_⟩;refine ite2 (λ c2=>?_) (λ c2=>?_)
 ·refine⟨A,p,50,rfl,hp,by decide,by decide,λ r H1 r0 r1 b1 p1=>?_⟩;exact⟨M,q _ _ (by left) (by left) b1 p1⟩
 refine⟨E,A,?_⟩;refine ite2 (λ c3=>?_) (λ c3=>?_)
 ·refine⟨M,⟨by decide,by decide,by decide⟩,M,⟨by decide,by decide,by decide⟩,M,M,⟨by decide,by decide,by decide⟩,(by show 6<=o7;decide),λ l hl=>?_⟩;have hp':Pot (upd H l (.lst [V.int 1,V.int 2,V.int 3,V.int ((10:Int)^(18:Int).toNat),V.int ((10:Int)^(18:Int).toNat-1),V.int ((10:Int)^(17:Int).toNat)])) p:=by
   obtain⟨a',b',e',z⟩:=hp;exact⟨a',b',(aP hl) _ _ e',z⟩
  have lp:l≠p:=by
   obtain⟨a',b',e',z⟩:=hp;exact λ e=>by rw[e,e'] at hl;cases hl
  refine⟨A,p,6,rfl,hp',by decide,by decide,λ r H1 r0 r1 b1 p1=>?_⟩;have at_:∃ v:Int,atI [V.int 1,V.int 2,V.int 3,V.int ((10:Int)^(18:Int).toNat),V.int ((10:Int)^(18:Int).toNat-1),V.int ((10:Int)^(17:Int).toNat)] r=some (.int v)/\1<=v/\v<=10^18:=by
   have:r=0\/r=1\/r=2\/r=3\/r=4\/r=5:=by left
   rcases this with e | e | e | e | e | e <;> rw[e] <;> exact⟨A,by symm,by symm⟩
  obtain⟨v,hv,v0,v1⟩:=at_;refine⟨l,Y,SqL.of (b1 _ _ lp aM),hv,?_⟩;exact q v _ v0 v1 ((But.new hl).trans b1) p1
 ·refine⟨A,M,⟨by decide,by decide,by decide⟩,p,A,hp,by decide,by decide,λ r H1 r0 r1 b1 p1=>?_⟩;refine⟨A,M,⟨by decide,by decide,by decide⟩,M,p,A,p1,by decide,by decide,λ r2 H2 r20 r21 b2 p2=>?_⟩;have e9:((10:Int)^(9:Int).toNat)=1000000000:=by decide
  rw[e9] at r1 r21;refine⟨M,.inl ⟨by left,by left⟩,M,?_⟩;have m0:0<=r*r2:=Int.mul_nonneg r0 r20;have m1:r*r2<=999999999*1000000000:=Int.mul_le_mul (by left) (by left) r20 (by decide);exact q _ _ (by left) (by left) (b1.trans b2) p2
theorem vB (T:Bi mg)(D:DefOk K mg "_law_tied" s__law_tied ["pot","n","style","a","b"])(O__law_take:‹1› "_law_take" ["pot","many"] spTake):‹2› "_law_tied" ["pot","n","style","a","b"] spTied:=by
 exists 1,sc__law_tied;obtain⟨p,n,y,a,b,rfl,hp,q⟩:=h;have q0:∀ k,Q (.bl k) H:=λ k=>q k H But.refl hp;refine⟨_,(aF (aQ (i:=5) nd rfl (v6 rfl) (iG (bC bA (aL dA (pv 4) (pv 3)) aC (nomark _)) (cJ (bC bA (aL dA (pv 4) (pv 3)) (aL dA (pv 1) aC) (nomark _))))) (aF (aT (aR cP (pv 2) aC (nomark _)) (aE (aH (iG (pv 5) (cJ (dF (bC bA (pv 2) aC (nomark _)) (cJ (bC bA (aG O__law_take hr rfl (aA (pv 0) (aA aC aB))) aC (nomark _)))))))) aS) (aF (aT (aR cP (pv 2) aC (nomark _)) (aE (aH (bC bA (bC dS (aG O__law_take hr rfl (aA (pv 0) (aA aC aB))) aC (nomark _)) (bC bA (pv 2) aC (nomark _)) (nomark _)))) aS) (aF (aT (aR bA (pv 2) aC (nomark _)) (aE (aH (iG (bC bA (aL dA (pv 4) (pv 3)) aC (nomark _)) (cJ (dF (bC bA (aL dA (pv 4) (pv 3)) aC (nomark _)) (cJ (bC dS (aL cO (pv 4) aC) aC (nomark _)))))))) aS) (aF (aT (aR cP (pv 2) aC (nomark _)) (aE (aH (dF (bC bA (bC bA (aL cO (pv 3) aC) (aL cO (pv 4) aC) (nomark _)) (bC bA (pv 2) aC (nomark _)) (nomark _)) (cJ (bC dS (aG O__law_take hr rfl (aA (pv 0) (aA aC aB))) aC (nomark _)))))) aS) (aE (aH bV))))))),?_⟩;refine⟨K,M,X,?_⟩;refine ite2 (λ c=>?_) (λ c=>?_)
 all_goals (try refine⟨K,M,A,M,rfl,?_⟩)
 all_goals
  refine⟨A,M,A,?_⟩;refine ite2 (λ c1=>?_) (λ c1=>?_)
  ·refine⟨K,?_⟩;refine ite2 (λ d=>?_) (λ d=>?_)
   ·exact q0 _
   ·refine⟨E,A,?_⟩;refine ite2 (λ d=>?_) (λ d=>?_)
    ·exact⟨A,p,A,hp,by decide,by decide,λ r H' _ _ b1 p1=>⟨rfl,q _ _ b1 p1⟩⟩
    ·exact q0 _
  refine⟨A,M,A,?_⟩;refine ite2 (λ c2=>?_) (λ c2=>?_)
  ·exact⟨A,p,A,hp,by decide,by decide,λ r H' _ _ b1 p1=>⟨_,_,rfl,rfl,_,rfl,rfl,rfl,q _ _ b1 p1⟩⟩
  refine⟨E,A,?_⟩;refine ite2 (λ c3=>?_) (λ c3=>?_)
  ·refine⟨K,M,X,?_⟩;refine ite2 (λ d=>?_) (λ d=>?_)
   ·exact q0 _
   ·refine⟨K,M,X,?_⟩;refine ite2 (λ d=>?_) (λ d=>?_)
    ·exact⟨A,M,(by show (0:Int)<3;decide),M,q0 _⟩
    ·exact q0 _
  refine⟨A,M,A,?_⟩;refine ite2 (λ c4=>?_) (λ c4=>?_)
  ·refine⟨A,M,(by show (0:Int)<2;decide),A,M,(by show (0:Int)<2;decide),rfl,E,X,?_⟩;refine ite2 (λ d=>?_) (λ d=>?_)
   ·exact⟨A,p,A,hp,by decide,by decide,λ r H' _ _ b1 p1=>⟨_,_,rfl,rfl,q _ _ b1 p1⟩⟩
   ·exact q0 _
  ·exact q0 _
theorem uI (T:Bi mg)(D:DefOk K mg "_law_order" s__law_order ["pot","many"])(O__law_take:‹1› "_law_take" ["pot","many"] spTake):‹2› "_law_order" ["pot","many"] spOrder:=by
 exists 1,sc__law_order;obtain⟨p,m,rfl,hp,hm0,hm1,q⟩:=h;refine⟨_,(aF (aQ (i:=2) nd rfl (v6 rfl) (bB (uM rfl) rfl T.z_list (by symm) (aA (bB eW rfl T.z_range (by symm) (aA (pv 1) aB)) aB))) (aF (aQ (i:=3) nd rfl (v6 rfl) (dP aB)) (aF (cC PassesOwn.never rfl (cS rfl T.z_range (aA (pv 1) aB)) (aN (i:=4) nd rfl (v6 rfl)) (aE (bK (cF uai ub9 ub7 eX (pv 3) (aA (cF uai PySem.F.slot_list_pop PySem.F.type_list_pop zbo (pv 2) (aA (aG O__law_take hr rfl (aA (pv 0) (aA (aO bO rfl T.z_len (by symm) (aA (pv 2) aB)) aB))) aB)) aB))))) (aE (aH (pv 3)))))),?_⟩;refine⟨A,m,rfl,λ g hg=>?_⟩;refine⟨g,m,rfl,aM,hm0,hm1,λ l hl=>?_⟩;refine⟨(by show 0<=o7;decide),λ l2 hl2=>?_⟩;obtain⟨H0,eH0⟩:∃ H0,H0=upd (upd (upd H g (.rng 0 m)) l (.lst ((d7 m.toNat).map λ i:Nat=>V.int (i:Int)))) l2 (.lst []):=⟨A⟩;rw[← eH0];have S1:Same H (upd H g (.rng 0 m)):=aP hg;have S2:=S1.trans (aP (o:=.lst ((d7 m.toNat).map λ i:Nat=>V.int (i:Int))) hl);have S3:Same H H0:=by rw[eH0];exact S2.trans (aP hl2)
 have fl:H l=none:=S1.free hl;have fl2:H l2=none:=S2.free hl2;have ll2:l≠l2:=λ e=>by rw[← e,aM] at hl2;cases hl2
 have el:H0 l=some (.lst ((d7 m.toNat).map λ i:Nat=>V.int (i:Int))):=by rw[eH0,aJ ll2,aM]
 have el2:H0 l2=some (.lst []):=by rw[eH0,aM]
 have hp0:Pot H0 p:=by
  obtain⟨a,b,e,z⟩:=hp;exact⟨a,b,S3 _ _ e,z⟩
 have nlp:l≠p:=by
  obtain⟨a,b,e,z⟩:=hp;exact λ x=>by rw[x,e] at fl;cases fl
 have nl2p:l2≠p:=by
  obtain⟨a,b,e,z⟩:=hp;exact λ x=>by rw[x,e] at fl2;cases fl2
 refine⟨A,m,rfl,by left,by left,?_⟩;refine dJ (n:=m.toNat) (λ i σ H'=>∃ (t:Option V)(ls ms:List Int),σ=[some (.ref p),some (.int m),some (.ref l),some (.ref l2),t]/\H' l=some (.lst (ls.map V.int))/\H' l2=some (.lst (ms.map V.int))/\Pot H' p /\
  (∀ b o,b≠p->H b=some o->H' b=some o)/\(ms++ls).Perm ((d7 m.toNat).map λ i:Nat=>(i:Int))/\ms.length=i) ?start ?turn ?fin
 case start=>exact⟨none,(d7 m.toNat).map λ i:Nat=>(i:Int),[],rfl,by rw[el,ua5];rfl,el2,hp0,λ b o _ e=>S3 b o e,List.Perm.refl _,rfl⟩
 case turn =>
  rintro i σ H' hi ⟨t,ls,ms,rfl,e1,e2,hp',kp,pm,hl'⟩;have hlen:ls.length=m.toNat-i:=by
   have:=pm.length_eq;rw[i8,i5,t5] at this;left
  refine⟨A,.inl ⟨Z,SqL.of e2⟩,A,.inl ⟨Z,SqL.of e1⟩,K,l,A,.inl (SqL.of e1),?_⟩;refine⟨p,A,hp',(by rw[i5];left),(by rw[i5];left),λ r H1 r0 r1 b1 p1=>?_⟩;rw[i5] at r1;have hr1:r.toNat<ls.length:=by left
  have er:r=((r.toNat:Nat):Int):=by left
  have six:seqIndex? r (ls.map V.int).length=some r.toNat:=(jT (by unfold ixN;rw[ug7 r0,ug7 (by rw[i5];left)])).1;refine⟨l,_,r,r.toNat,.int ls[r.toNat],P,b1 _ _ nlp e1,by left,by left,six,by rw[l7,c7 hr1];rfl,?_⟩;refine⟨l2,M,by rw[aJ ll2.symm];exact b1 _ _ nl2p e2,?_,?_⟩
  ·rw[i5];exact ubn (by left:ms.length<=1000) (by decide)
  ·refine⟨_,ls.eraseIdx r.toNat,ms++[ls[r.toNat]],rfl,?_,?_,?_,?_,?_,by rw[i8,k9];left⟩
   ·rw[aJ ll2,aM,mS]
   ·rw[aM,ub2];rfl
   ·obtain⟨a,b,e,z⟩:=p1;exact⟨a,b,by rw[aJ nl2p.symm,aJ nlp.symm];exact e,z⟩
   ·intro b o hb e;have n1:b≠l:=λ x=>by rw[x,fl] at e;cases e
    have n2:b≠l2:=λ x=>by rw[x,fl2] at e;cases e
    rw[aJ n2,aJ n1];exact b1 _ _ hb (kp _ _ hb e)
   ·refine List.Perm.trans ?_ pm;rw[uei];refine ugj _ ?_;show (ls[r.toNat]::ls.eraseIdx r.toNat).Perm ls;exact mC ls r.toNat hr1
 case fin =>
  rintro σ H' ⟨t,ls,ms,rfl,e1,e2,hp',kp,pm,hl'⟩;have hlen:ls=[]:=by
   have:=pm.length_eq;rw[i8,i5,t5] at this;exact uc4 (by left)
  subst hlen;rw[uct] at pm;exact⟨A,q l2 H' ms kp hp' fl2 nl2p e2 pm⟩
def WInv (H:Hp)(p ln lt:j8)(m n st wy:Int)(ms:List Int)(b a:Nat)(σ:L2.St)(H':Hp):Prop :=
 ∃ (t7 t8 t9 t10:Option V)(ys:List V)(ties:List Tie),σ=[some (.ref p),some (.int m),some (.int n),some (.int st),some (.int wy),some (.ref ln),some (.ref lt),t7,t8,t9,t10] /\
  H' ln=some (.lst (ms.map V.int))/\H' lt=some (.lst ys)/\TieL H' ys ties/\Pot H' p/\(∀ b o,b≠p->H b=some o->H' b=some o)/\Grown n.toNat ms b a ties
theorem wF (T:Bi mg)(D:DefOk K mg "_law_web" s__law_web ["pot","most"])(O__law_take:‹2› "_law_take" ["pot","many"] spTake)(O__law_order:‹2› "_law_order" ["pot","many"] spOrder)
  (O__law_tied:‹2› "_law_tied" ["pot","n","style","a","b"] spTied) (O__law_length:‹2› "_law_length" ["pot","way"] spLength):‹3› "_law_web" ["pot","most"] (spWeb K):=by
 exists 2,sc__law_web;obtain⟨p,m,rfl,hp,hm0,hm1,q⟩:=h;refine⟨_,(aF (aQ (i:=2) nd rfl (v6 rfl) (aL bR aC (aG O__law_take hr rfl (aA (pv 0) (aA (pv 1) aB))))) (aF (aQ (i:=3) nd rfl (v6 rfl) (aG O__law_take hr rfl (aA (pv 0) (aA aC aB)))) (aF (aQ (i:=4) nd rfl (v6 rfl) (aG O__law_take hr rfl (aA (pv 0) (aA aC aB)))) (aF (aQ (i:=5) nd rfl (v6 rfl) (aG O__law_order hr rfl (aA (pv 0) (aA (pv 2) aB)))) (aF (aQ (i:=6) nd rfl (v6 rfl) (dP aB)) (aF (cC PassesOwn.never rfl (cS rfl T.z_range (aA (pv 2) aB)) (aN (i:=7) nd rfl (v6 rfl)) (aE (cC PassesOwn.never rfl (cS rfl T.z_range (aA (pv 7) aB)) (aN (i:=8) nd rfl (v6 rfl)) (aE (aT (PW.pt (zea (bN (aG O__law_tied hr rfl (aA (pv 0) (aA (pv 2) (aA (pv 3) (aA (pv 8) (aA (pv 7) aB))))))) (zc5 (aR cP (aO bO rfl T.z_len (by symm) (aA (pv 6) aB)) aC (nomark _))))) (aF (cN (aO vF rfl T.z_sorted (by symm) (aA (dP (aA (aK aW (pv 5) (pv 8) (λ _ _=>rfl)) (aA (aK aW (pv 5) (pv 7) (λ _ _=>rfl)) aB))) aB)) (zei (n:=2) rfl (aU (aN (i:=9) nd rfl (v6 rfl)) (aU (aN (i:=10) nd rfl (v6 rfl)) bT)))) (aE (bK (cF uai ub9 ub7 eX (pv 6) (aA (qP (aA (pv 9) (aA (pv 10) (aA (aG O__law_length hr rfl (aA (pv 0) (aA (pv 4) aB))) aB)))) aB))))) aS))))) (aE (aH (qP (aA (pv 2) (aA (bB lE rfl T.z_tuple (by symm) (aA (aO vD rfl T.z_sorted (by symm) (aA (pv 6) aB)) aB)) aB))))))))))),?_⟩;refine⟨K,p,m,rfl,hp,by left,by left,λ r1 H1 r10 r11 b1 p1=>?_⟩;refine⟨M,?_⟩;refine⟨A,p,8,rfl,p1,by decide,by decide,λ st H2 _ _ b2 p2=>?_⟩;refine⟨A,p,5,rfl,p2,by decide,by decide,λ wy H3 wy0 wy1 b3 p3=>?_⟩;refine⟨K,p,A,p3,by left,by left,λ ln H4 ms b4 p4 f4 n4 e4 pm=>?_⟩;obtain⟨n,en⟩:∃ n:Int,n=1+r1:=⟨_,rfl⟩;rw[← en] at pm;have bt4:But p H H4:=b1.trans (b2.trans (b3.trans b4));have fln:H ln=none:=by
  cases e:H ln with
  | none=>rfl
  | some u=>rw[(b1.trans (b2.trans b3)) _ _ n4 e] at f4;cases f4
 refine⟨(by show 0<=o7;decide),λ lt hlt=>?_⟩;have flt:H lt=none:=by
  by_cases z:lt=p
  ·obtain⟨a',b',e',_⟩:=p4;rw[z,e'] at hlt;cases hlt
  ·cases e:H lt with
   | none=>rfl
   | some u=>rw[bt4 _ _ z e] at hlt;cases hlt
 have nlt:lt≠p:=by
  obtain⟨a',b',e',_⟩:=p4;exact λ x=>by rw[x,e'] at hlt;cases hlt
 have nln:ln≠lt:=λ x=>by rw[← x,e4] at hlt;cases hlt
 have pm0:Perm0 n.toNat ms:=Perm0.of pm;refine⟨A,n,by rw[en],by left,by left,?_⟩;refine dJ (n:=n.toNat) (λ i σ H'=>WInv H p ln lt m n st wy ms i 0 σ H') ?start ?turn ?fin
 case start =>
  refine⟨none,none,none,none,[],[],by rw[en];rfl,by rw[aJ nln];exact e4,aM,.nil,?_,λ b o hb e=>?_,Grown.start⟩
  ·obtain⟨a',b',e',z⟩:=p4;exact⟨a',b',by rw[aJ nlt.symm];exact e',z⟩
  ·rw[aJ (λ x=>by rw[x,flt] at e;cases e)];exact bt4 _ _ hb e
 case turn =>
  rintro i σ H' hi ⟨t7,t8,t9,t10,ys,ties,rfl,g1,g2,g3,g4,g5,g6⟩;refine⟨K,by left,by left,?_⟩;have ei:((0+(i:Int)):Int).toNat=i:=by left
  rw[ei];refine dJ (n:=i) (λ k σ H''=>(∃ t7,σ[7]?=some (some (.int (0+(i:Int))))/\t7=())/\WInv H p ln lt m n st wy ms i k σ H'') ?start2 ?turn2 ?fin2
  case start2=>exact⟨⟨(),P⟩,some (.int (0+(i:Int))),t8,t9,t10,ys,ties,rfl,g1,g2,g3,g4,g5,g6⟩
  case fin2 =>
   rintro σ H'' ⟨_,t7,t8,t9,t10,ys,ties,rfl,g1,g2,g3,g4,g5,g6⟩;exact⟨t7,t8,t9,t10,ys,ties,rfl,g1,g2,g3,g4,g5,g6.down⟩
  case turn2 =>
   rintro k σ K1 hk ⟨⟨_,h7,_⟩,t7,t8,t9,t10,ys,ties,rfl,g1,g2,g3,g4,g5,g6⟩;have e7:t7=some (.int (0+(i:Int))):=by simpa using h7
   subst e7;have again : ∀ {u8 u9 u10 : Option V}{ys' : List V}{ts : List Tie}{J : Hp}, J ln = some (.lst (ms.map V.int)) → J lt = some (.lst ys') → TieL J ys' ts → Pot J p → (∀ b o, b ≠ p → H b = some o → J b = some o) → Grown n.toNat ms i (k+1) ts →
       (∃ t7,([some (.ref p),some (.int m),some (.int n),some (.int st),some (.int wy),some (.ref ln),some (.ref lt),some (.int (0+(i:Int))),u8,u9,u10]:L2.St)[7]?=some (some (.int (0+(i:Int))))/\t7=())/\WInv H p ln lt m n st wy ms i (k+1) [some (.ref p),some (.int m),some (.int n),some (.int st),some (.int wy),some (.ref ln),some (.ref lt),some (.int (0+(i:Int))),u8,u9,u10] J :=
    λ a1 a2 a3 a4 a5 a6=>⟨⟨(),rfl,rfl⟩,_,_,_,_,_,_,rfl,a1,a2,a3,a4,a5,a6⟩
   refine⟨K,K,A,p,V,_,A,g4,λ kk K2 c2 d2=>⟨kk,rfl,?_⟩⟩;have nlnp:ln≠p:=n4;have l1:K2 ln=some (.lst (ms.map V.int)):=c2 _ _ nlnp g1;have l2:K2 lt=some (.lst ys):=c2 _ _ nlt g2;have tup2:∀ a xs,K1 a=some (.tup xs)->K2 a=some (.tup xs):=λ a xs e=>c2 _ _ (λ x=>by
    obtain⟨a',b',e',_⟩:=g4;rw[x,e'] at e;cases e) e
   have l3:TieL K2 ys ties:=g3.keep tup2;have l5:∀ b o,b≠p->H b=some o->K2 b=some o:=λ b o hb e=>c2 _ _ hb (g5 _ _ hb e);have ylen:ys.length=ties.length:=Paired.length g3;cases kk with
   | false =>
    refine iteF (iteF ?_);exact again l1 l2 l3 d2 l5 g6.skip
   | true =>
    refine iteT ?_;refine⟨A,lt,A,.inl (SqL.of l2),M,A,?_⟩;refine ite2 (λ c=>?_) (λ c=>?_)
    case refine_2=>exact again l1 l2 l3 d2 l5 g6.skip
    have c':((ys.length:Nat):Int)<60:=ug4 c;have hkn:k<n.toNat:=by left
    have at_:∀ j:Nat,j<n.toNat->atI (ms.map V.int) (j:Int)=some (.int (ms.getD j 0)):=λ j hj=>by
     have hj':j<ms.length:=by rw[pm0.len];exact hj
     refine qK ?_;rw[l7,c7 hj'];simp [uca,hj']
    have ak:atI (ms.map V.int) (0+(k:Int))=some (.int (ms.getD k 0)):=by rw[Int.zero_add];exact at_ k hkn
    have ai:atI (ms.map V.int) (0+(i:Int))=some (.int (ms.getD i 0)):=by rw[Int.zero_add];exact at_ i hi
    refine⟨K,ln,Y,SqL.of l1,ak,K,ln,Y,SqL.of l1,ai,(by show 2<=o7;decide),λ s1 hs1=>?_⟩;refine⟨s1,[ms.getD k 0,ms.getD i 0],rfl,SqL.of aM,(by show 2<64;decide),λ zs pz wz s2 hs2=>?_⟩;obtain⟨x,y,rfl,hxy,hor⟩:=xC pz wz;refine⟨s2,A,SqL.of aM,rfl,?_⟩;refine⟨_,A,M,?_⟩;have n1:∀ b o,K2 b=some o->b≠s1:=λ b o e=>aY e hs1;have n2:∀ b o,K2 b=some o->b≠s2:=λ b o e=>aY (aP hs1 b o e) hs2;have up:∀ b o,K2 b=some o->upd (upd K2 s1 (.lst [.int (ms.getD k 0),.int (ms.getD i 0)])) s2 (.lst [.int x,.int y]) b=some o:=λ b o e=>by rw[aJ (n2 b o e),aJ (n1 b o e)];exact e
    refine⟨A,.inl ⟨Z,SqL.of (up _ _ l2)⟩,K,K,?_⟩;refine⟨p,wy,rfl,?_,wy0,wy1,λ len K5 ln0 ln1 c5 d5=>?_⟩
    ·obtain⟨a',b',e',z⟩:=d2;exact⟨a',b',up _ _ e',z⟩
    refine⟨(by show 3<=o7;decide),λ tp htp=>?_⟩;have pl:∃ xs,K2 p=some (.lst xs):=d2.lst;have up5:∀ b o,b≠p->K2 b=some o->upd K5 tp (.tup [.int x,.int y,.int len]) b=some o:=λ b o hb e=>by
     have e5:=c5 b o hb (up b o e);rw[aJ (aY e5 htp)];exact e5
    refine⟨lt,M,up5 _ _ nlt l2,?_,?_⟩
    ·exact ubn (by left:ys.length<=1000) (by decide)
    have k5:∀ b o,b≠p->b≠lt->K2 b=some o->upd (upd K5 tp (.tup [.int x,.int y,.int len])) lt (.lst (ys++[.ref tp])) b=some o:=λ b o hb hb2 e=>by rw[aJ hb2];exact up5 b o hb e
    have ntp:tp≠lt:=λ z=>by
     have:=c5 _ _ nlt (up _ _ l2);rw[← z,htp] at this;cases this
    refine again (k5 _ _ nlnp nln l1) aM (TieL.snoc (TieL.keep l3 λ a xs e=>k5 _ _ ?_ ?_ e) ?_) ?_ (λ b o hb e=>k5 _ _ hb (λ z=>by rw[z,flt] at e;cases e) (l5 _ _ hb e))
     (g6.add (x:=x) (y:=y) (l:=len) pm0 hk hi (by left) ln0 ln1 hor hxy)
    ·intro z;obtain⟨xs',e'⟩:=pl;rw[z,e'] at e;cases e
    ·intro z;rw[z,l2] at e;cases e
    ·rw[aJ ntp,aM];rfl
    ·obtain⟨a',b',e',z⟩:=d5;exact⟨a',b',by rw[aJ nlt.symm,aJ (aY e' htp)];exact e',z⟩
 case fin =>
  rintro σ H' ⟨t7,t8,t9,t10,ys,ties,rfl,g1,g2,g3,g4,g5,g6⟩;have ylen:ys.length=ties.length:=Paired.length g3;have few:=g6.few;refine⟨K,lt,ys,ties.map tieI,rfl,SqL.of g2,by left,lL (λ y t ⟨a,e1,e2⟩=>⟨a,e1,SqT.of e2⟩) g3,λ k hk=>?_,λ qs pq wq l hl=>?_⟩
  ·obtain⟨t,_,rfl⟩:=ubx.mp hk;exact λ z=>by cases z
  obtain⟨ts,pt,tl,wt⟩:=zct g3 pq wq;refine⟨l,A,.inl ⟨SqL.of aM,λ l' hl'=>?_⟩⟩;refine⟨(by show 2<=o7;decide),λ v hv=>?_⟩;have S1:Same H' (upd H' l (.lst (qs.map (·.1)))):=aP hl;have S2:=S1.trans (aP (o:=.tup (qs.map (·.1))) hl');have S3:=S2.trans (aP (o:=.tup [.int n,.ref l']) hv);refine q (.ref v) _ n ts (λ b o hb e=>S3 _ _ (g5 _ _ hb e)) ?_ ⟨by left,by left,zc3 wt ((pt.pairwise_iff (λ {a b} h z=>h ⟨z.1.symm,z.2.symm⟩)).mpr g6.nd),by have:=pt.length_eq;left,λ t ht=>?_⟩ (by left) ?_
  ·obtain⟨a',b',e',z⟩:=g4;exact⟨a',b',S3 _ _ e',z⟩
  ·have:=g6.ok t (pt.mem_iff.mp ht);have e:((n.toNat:Nat):Int)=n:=by left
   rw[e] at this;exact this
  ·refine⟨v,A,aM,M,_,A,⟨l',qs.map (·.1),rfl,?_,?_⟩,rfl⟩
   ·exact (aP hv) _ _ aM
   ·exact TieL.is (tl.keep λ a xs e=>S3 _ _ e)
theorem wC (T:Bi mg)(D:DefOk K mg "is_whole" s_is_whole ["thing"]):‹1› "is_whole" ["thing"] (spD1 K (λ _=>True) wholeB):=by
 exists 0,sc_is_whole;obtain⟨d,v,rfl,hd,_,q⟩:=h;have q0:=q H (Same.refl H);have ty:=kM hd;refine⟨_,(aE (aH (dF (aO (eE (n:="int")) rfl T.z_isinstance (by symm) (aA (pv 0) (aA (dM (v:=.ty "int") rfl T.z_int (by symm) rfl) aB))) (cJ (qQ (aO (eE (n:="bool")) rfl T.z_isinstance (by symm) (aA (pv 0) (aA (dM (v:=.ty "bool") rfl T.z_bool (by symm) rfl) aB)))))))),?_⟩;cases d with
 | int i=>exact⟨A,V,A,ty,X,iteT ⟨A,V,A,ty,X,q0⟩⟩
 | bool b=>exact⟨A,V,A,ty,X,iteT ⟨A,V,A,ty,X,q0⟩⟩
 | none=>exact⟨A,V,A,ty,X,iteF q0⟩
 | str x=>exact⟨A,V,A,ty,X,iteF q0⟩
 | tuple ds=>exact⟨A,V,A,ty,X,iteF q0⟩
 | list ds=>exact⟨A,V,A,ty,X,iteF q0⟩
 | dict ds=>exact⟨A,V,A,ty,X,iteF q0⟩
theorem sV (T:Bi mg)(D:DefOk K mg "tie_weights" s_tie_weights ["web"]):‹1› "tie_weights" ["web"] (spWeights K):=by
 exists 0,sc_tie_weights;obtain⟨n,ts,v,rfl,hw,few60,q⟩:=h;obtain⟨g0,g,ws,rfl,hg0,hg,hall,hlw⟩:=bY hw;refine⟨_,(aF (aQ (i:=1) nd rfl (v6 rfl) (cH aB)) (aF (aQ (i:=2) nd rfl (v6 rfl) aC) (aF (cC PassesOwn.never rfl (bW (aK aV (pv 0) aC (λ _ _=>rfl))) (aN (i:=3) nd rfl (v6 rfl)) (aF (bK (cF uai ub9 ub7 gC (pv 1) (aA (pv 2) aB))) (aE (aQ (i:=2) nd rfl (v6 rfl) (aL iD aC (pv 2)))))) (aE (aH (pv 1)))))),?_⟩;refine⟨(by show 0<=1000;decide),λ l J0 S0 f0 e0=>?_⟩;refine⟨A,g0,Y,SqT.of (S0 _ _ hg0),rfl,g,rfl,⟨_,SqT.of (S0 _ _ hg)⟩,?_⟩;refine gZ (xs:=ws) (λ i σ J=>∃ y3:Option V,σ=[some (.ref g0),some (.ref l),some (.int (2^i)),y3]/\Same H J/\J l=some (.lst (pows i))) ⟨none,rfl,S0,e0⟩ (λ i σ J _ h=>by obtain⟨_,_,s,_⟩:=h;exact SqT.of (s _ _ hg)) (λ i x σ J hx h=>?_) (λ σ J h=>?_)
 ·obtain⟨y3,rfl,s1,e1⟩:=h;have hi:i<ws.length:=(j6.mp hx).1;refine⟨A,.inl ⟨Z,SqL.of e1⟩,A,l,M,e1,(by unfold pows;rw[i5,t5];left),λ J1 b1 e2=>?_⟩;refine⟨A,M,.inl ⟨by decide,by decide⟩,?_⟩;refine⟨some x,?_,λ b o e=>b1 _ _ (aY e f0) (s1 _ _ e),by rw[e2,yP]⟩;have ep:(2:Int)*2^i=2^(i+1):=by rw[Int.pow_succ,Int.mul_comm]
  show [some (V.ref g0),some (V.ref l),some (V.int (2*2^i)),some x]=_;rw[ep]
 ·obtain⟨y3,rfl,s1,e1⟩:=h;exact⟨A,q l J s1 f0 (by rw[e1,hlw])⟩
theorem uZ (T:Bi mg)(D:DefOk K mg "cost_with" s_cost_with ["cost","length","weight"]):‹1› "cost_with" ["cost","length","weight"] (spCost K):=by
 exists 0,sc_cost_with
 obtain⟨c,x,y,l,ww,rfl,hc,q⟩:=h;refine⟨_,(aE (aH (aZ (aA (aL bR (aK aV (pv 0) aC (λ _ _=>rfl)) (pv 1)) (aA (aL bR (aK aV (pv 0) aC (λ _ _=>rfl)) (pv 2)) aB))))),?_⟩;exact⟨A,c,Y,SqT.of hc,X,M,A,c,Y,SqT.of hc,X,M,(by show 2<=1000;decide),λ t J S f e=>q t J S e⟩
def rWB (H:Hp)(wv kv:V)(n r:Int)(ts:List Tie)(ks:List Nat)(lw lc la:j8)(m:Nat)(σ:L2.St)(J:Hp):Prop:=∃ (cs:List (Option (Int × Int)))(as:List (Option Nat))(ag:Bool)(y7 y8 y9 y10 y11 y12 y13:Option V),σ=[some wv,some kv,some (.int r),some (.ref lw),some (.ref lc),some (.ref la),some (.bl ag),y7,y8,y9,y10,y11,y12,y13] /\
 RA H J lw lc la (pows ts.length) cs as/\Far.Good (arcs ts ks) n.toNat r.toNat cs/\Far.Run (arcsB ts ks) r.toNat cs as/\(ag=false->Far.Stab2 (arcsB ts ks) cs)/\m=Far.mu cs+(if ag=true then 1 else 0)
theorem sE (T:Bi mg)(D:DefOk K mg "reached_from" s_reached_from ["web","keep","root"])(O_tie_weights:‹1› "tie_weights" ["web"] (spWeights K))(O_cost_with:‹1› "cost_with" ["cost","length","weight"] (spCost K)):‹2› "reached_from" ["web","keep","root"] (spReachedC K):=by
 exists 1,sc_reached_from;obtain⟨n,ts,ks,wv,kv,r,rfl,⟨isw,ok,isk,ko⟩,r0,r1,q⟩:=h;have few60:=ok.few;have n1:=ok.n1;have n24:=ok.n24;obtain⟨g0,g,ws,rfl,hg0,hg,hall,hlw⟩:=bY isw;obtain⟨kp,rfl,hkp⟩:=iN isk;have P:=fI ok ko;refine⟨_,(aF (aQ (i:=3) nd rfl (v6 rfl) (aG O_tie_weights hr rfl (aA (pv 0) aB))) (aF (aQ (i:=4) nd rfl (v6 rfl) (aL pS (cH (aA bD aB)) (aK aV (pv 0) aC (λ _ _=>rfl)))) (aF (aQ (i:=5) nd rfl (v6 rfl) (aL pS (cH (aA bD aB)) (aK aV (pv 0) aC (λ _ _=>rfl)))) (aF (cN (aZ (aA aC (aA aC aB))) (fT (pv 4) (pv 2) fB)) (aF (aQ (i:=6) nd rfl (v6 rfl) bV) (aF (oB PassesOwn.never (bN (pv 6)) (aF (aQ (i:=6) nd rfl (v6 rfl) bV) (aE (cC PassesOwn.never rfl (bW (pv 1)) (aN (i:=7) nd rfl (v6 rfl)) (aF (cN (aK aV (aK aV (pv 0) aC (λ _ _=>rfl)) (pv 7) (λ _ _=>rfl)) (cZ (n:=3) rfl (aU (aN (i:=8) nd rfl (v6 rfl)) (aU (aN (i:=9) nd rfl (v6 rfl)) (aU (aN (i:=10) nd rfl (v6 rfl)) bT))))) (aE (cC PassesOwn.never rfl (bW (aZ (aA (aZ (aA (pv 8) (aA (pv 9) aB))) (aA (aZ (aA (pv 9) (aA (pv 8) aB))) aB)))) (cZ (n:=2) rfl (aU (aN (i:=11) nd rfl (v6 rfl)) (aU (aN (i:=12) nd rfl (v6 rfl)) bT))) (aF (aT (aR eM (aK aW (pv 4) (pv 11) (λ _ _=>rfl)) bD (nomark _)) (aE vX) aS) (aF (aQ (i:=13) nd rfl (v6 rfl) (aG O_cost_with hr rfl (aA (aK aW (pv 4) (pv 11) (λ _ _=>rfl)) (aA (pv 10) (aA (aK aW (pv 3) (pv 7) (λ _ _=>rfl)) aB))))) (aE (aT (PW.pt (dI (aR eM (aK aW (pv 4) (pv 12) (λ _ _=>rfl)) bD (nomark _)) (dE (aR (zek hr.units0) (pv 13) (aK aW (pv 4) (pv 12) (λ _ _=>rfl)) (nomark _))))) (aF (cN (pv 13) (fT (pv 4) (pv 12) fB)) (aF (cN (pv 11) (fT (pv 5) (pv 12) fB)) (aE (aQ (i:=6) nd rfl (v6 rfl) bV)))) aS))))))))))) (aE (aH (aZ (aA (pv 4) (aA (pv 5) aB))))))))))),?_⟩;refine⟨A,n,ts,A,isw,few60,λ lw J1 S1 f1 e1=>?_⟩;refine⟨(by show 1<=1000;decide),λ t0 J2 S2 f2 e2=>⟨_,rfl,g0,_,_,_,rfl,rfl,SqT.of (S2 _ _ (S1 _ _ hg0)),rfl,t0,n,_,rfl,rfl,e2,by left,by left,λ lc J3 S3 f3 e3=>?_⟩⟩;have S13:=S1.trans (S2.trans S3);refine⟨(by show 1<=1000;decide),λ t1 J4 S4 f4 e4=>⟨_,rfl,g0,_,_,_,rfl,rfl,SqT.of (S4 _ _ (S13 _ _ hg0)),rfl,t1,n,_,rfl,rfl,e4,by left,by left,λ la J5 S5 f5 e5=>?_⟩⟩;refine⟨(by show 2<=1000;decide),λ t2 J6 S6 f6 e6=>?_⟩;have S36:=S4.trans (S5.trans S6);have elc:=S36 _ _ e3;refine⟨K,lc,_,r,r.toNat,P,elc,fP r0 (by rw[ua1];left),?_⟩;have Sall:Same H J6:=S13.trans S36;have fc:H lc=none:=(S1.trans S2).free f3;have fa:H la=none:=(S13.trans S4).free f5;have nwc:lw≠lc:=λ z=>by rw[← z,S2 _ _ e1] at f3;cases f3
 have nwa:lw≠la:=λ z=>by rw[← z,S4 _ _ (S3 _ _ (S2 _ _ e1))] at f5;cases f5
 have nca:lc≠la:=λ z=>by rw[← z,S4 _ _ e3] at f5;cases f5
 have R0:RA H J6 lw lc la (pows ts.length) (m5 n.toNat none) (m5 n.toNat none):=⟨Sall,fc,fa,nwc,nwa,nca,S36 _ _ (S3 _ _ (S2 _ _ e1)),⟨_,elc,CostL.first _⟩,by rw[S6 _ _ e5,List.map_replicate];rfl⟩;have R1:=R0.put (k:=r.toNat) elc (by rw[ua1];left) e6
 refine⟨rWB H (.ref g0) (.ref kp) n r ts ks lw lc la,⟨V,_,true,none,none,none,none,none,none,none,rfl,R1,Far.Good.first (by left),Far.Run.first (by left),λ z=>(by cases z),rfl⟩,?_⟩;rintro m σ J ⟨c0,as0,ag,y7,y8,y9,y10,y11,y12,y13,rfl,R,G,AH,St,rfl⟩;refine⟨A,ag,rfl,?_⟩;cases ag with
 | false =>
  refine iteF ?_;obtain⟨cvs,hc,cl⟩:=R.co;exact⟨K,(by show 2<=1000;decide),λ p J' S' f' e'=>q p lc la cvs as0 c0 J' (R.same.trans S') e' (S' _ _ hc) (S' _ _ R.ah) (cl.keep (pG S')) (AH.best P G (St rfl)) G (zcz (St rfl))⟩
 | true =>
  refine iteT ⟨λ σ' J'=>∃ m',m'<Far.mu c0+1/\rWB H (.ref g0) (.ref kp) n r ts ks lw lc la m' σ' J',λ _ _ h=>h,?_⟩;refine⟨A,kp,rfl,⟨_,SqT.of (R.same _ _ hkp)⟩,?_⟩;refine gZ (xs:=(keepI ks).map V.int) (λ i σ J=>∃ (cs:List (Option (Int × Int)))(as:List (Option Nat))(ag:Bool)(y7 y8 y9 y10 y11 y12 y13:Option V),σ=[some (.ref g0),some (.ref kp),some (.int r),some (.ref lw),some (.ref lc),some (.ref la),some (.bl ag),y7,y8,y9,y10,y11,y12,y13] /\
   RA H J lw lc la (pows ts.length) cs as/\Far.Good (arcs ts ks) n.toNat r.toNat cs/\Far.Run (arcsB ts ks) r.toNat cs as/\Far.PS2 c0 (λ z=>z∈arcsB ts (ks.take i)) cs ag) ⟨c0,as0,false,_,_,_,_,_,_,_,rfl,R,G,AH,.inl ⟨rfl,rfl,λ u v l k c z=>by cases z⟩⟩ (λ i σ J _ h=>?_) (λ i x σ J hx h=>?_) (λ σ J h=>?_)
  ·obtain⟨cs,as,ag,y7,y8,y9,y10,y11,y12,y13,rfl,R,_⟩:=h;exact SqT.of (R.same _ _ hkp)
  ·obtain⟨cs,as,ag,y7,y8,y9,y10,y11,y12,y13,rfl,R,G,AH,Pt⟩:=h;obtain⟨k,hk,rfl⟩:=pW hx;have hkl:k<ts.length:=ko.2 k (uap hk);obtain⟨ta,hta,htie⟩:=gR hall hkl;obtain⟨t,et⟩:∃ t,t=tieAt ts k:=⟨_,rfl⟩;rw[← et] at htie;have tk:=ok.tie _ (dB hkl).2;rw[← et] at tk;refine⟨A,g0,Y,SqT.of (R.same _ _ hg0),X,g,Y,SqT.of (R.same _ _ hg),bP (uad _) hta,ta,A,SqT.of (R.same _ _ htie),Z,A,_,A,M,?_⟩;refine⟨K,(by show 2<=1000;decide),λ t1 K1 T1 u1 v1=>⟨_,rfl,_,rfl,(by show 2<=1000;decide),λ t2 K2 T2 u2 v2=>⟨(by show 2<=1000;decide),λ t3 K3 T3 u3 v3=>⟨t3,rfl,⟨_,SqT.of v3⟩,?_⟩⟩⟩⟩;have R3:=R.step (T1.trans (T2.trans T3));have v1':=T3 _ _ (T2 _ _ v1);have v2':=T3 _ _ v2;refine gZ (xs:=[V.ref t1,.ref t2]) (λ j σ J=>∃ (cs:List (Option (Int × Int)))(as:List (Option Nat))(ag:Bool)(y11 y12 y13:Option V),σ=[some (.ref g0),some (.ref kp),some (.int r),some (.ref lw),some (.ref lc),some (.ref la),some (.bl ag),some (.int (k:Int)),some (.int t.1),some (.int t.2.1),some (.int t.2.2),y11,y12,y13] /\
    RA H J lw lc la (pows ts.length) cs as/\Far.Good (arcs ts ks) n.toNat r.toNat cs/\Far.Run (arcsB ts ks) r.toNat cs as/\Far.PS2 c0 (λ z=>z∈arcsB ts (ks.take i)\/z∈(arcs2B t k).take j) cs ag/\TupKeep K3 J) ⟨cs,as,ag,_,_,_,rfl,R3,G,AH,Pt.less λ a z=>z.elim id λ z=>(by cases z),λ _ _ e=>e⟩ (λ j σ J _ h=>?_) (λ j x σ J hx h=>?_) (λ σ J h=>?_)
   ·obtain⟨cs,as,ag,y11,y12,y13,rfl,R,G,AH,Pt,tk⟩:=h;exact SqT.of (tk _ _ v3)
   ·obtain⟨cs,as,ag,y11,y12,y13,rfl,R,G,AH,Pt,tkp⟩:=h;obtain⟨p,u,v,rfl,hp,u0,un,v0,vn,arc,arcB,more⟩:∃ p u v,x=.ref p/\J p=some (.tup [.int u,.int v])/\0<=u/\u<n/\0<=v/\v<n/\(u.toNat,v.toNat,t.2.2)∈arcs ts ks/\(u.toNat,v.toNat,t.2.2,k)∈arcsB ts ks/\∀ z,z∈(arcs2B t k).take (j+1)->z∈(arcs2B t k).take j\/z=(u.toNat,v.toNat,t.2.2,k):=by
     have memB:∀ z,z∈arcs2B t k->z∈arcsB ts ks:=λ z hz=>arcsB_mem.mpr ⟨k,uap hk,by rw[← et];exact hz⟩;have mem:∀ z,z∈arcs2 t->z∈arcs ts ks:=λ z hz=>arcs_mem.mpr ⟨k,uap hk,by rw[← et];exact hz⟩
     match j,hx with
     | 0,hx=>cases hx;exact⟨t1,t.1,t.2.1,rfl,tkp _ _ v1',by left,by left,by left,by left,mem _ (arcs2_mem.mpr (.inl rfl)),memB _ (arcs2B_mem.mpr (.inl rfl)),λ z hz=>by unfold arcs2B at *;simpa using hz⟩
     | 1,hx=>cases hx;exact⟨t2,t.2.1,t.1,rfl,tkp _ _ v2',by left,by left,by left,by left,mem _ (arcs2_mem.mpr (.inr rfl)),memB _ (arcs2B_mem.mpr (.inr rfl)),λ z hz=>by unfold arcs2B at *;simpa using hz⟩
    refine⟨p,A,SqT.of hp,Z,A,M,?_⟩;obtain⟨cvs,hc,cl⟩:=R.co;have lenC:cvs.length=n.toNat:=by rw[cl.1];exact G.len
    obtain⟨x1,at1,cv1⟩:=qF cl u0 (by rw[G.len];left);obtain⟨x2,at2,cv2⟩:=qF cl v0 (by rw[G.len];left);have next:∀ {cs':List (Option (Int × Int))}{ag':Bool},Far.PS2 c0 (Far.plusA (λ z=>z∈arcsB ts (ks.take i)\/z∈(arcs2B t k).take j) (u.toNat,v.toNat,t.2.2,k)) cs' ag'->Far.PS2 c0 (λ z=>z∈arcsB ts (ks.take i)\/z∈(arcs2B t k).take (j+1)) cs' ag':=λ h=>h.less λ z hz=>by
     rcases hz with hz | hz
     ·exact .inl (.inl hz)
     ·exact (more z hz).elim (λ y=>.inl (.inr y)) .inr
    refine⟨K,lc,Y,SqL.of hc,at1,X,ite2 (λ c1=>?_) (λ c1=>?_)⟩
    ·-- not reached
     have gu:Far.get cs u.toNat=none:=by
      cases e:Far.get cs u.toNat with
      | none=>rfl
      | some d =>
       rw[e] at cv1;obtain⟨tt,rfl,_⟩:=cv1;cases ug4 c1
     exact⟨cs,as,ag,V,A,R,G,AH,next (Pt.no gu),tkp⟩
    ·obtain⟨d,gu⟩:∃ d,Far.get cs u.toNat=some d:=by
      cases e:Far.get cs u.toNat with
      | none=>rw[e] at cv1;exact absurd (ug3 (show x1=V.non from cv1)) c1
      | some d=>exact⟨d,rfl⟩
     rw[gu] at cv1;obtain⟨td,rfl,htd⟩:=cv1;have pw:=zed (i:=k) (by left);refine⟨K,lc,Y,SqL.of hc,at1,K,A,lw,Y,SqL.of R.wl,bP (uad _) (zc6 hkl),td,V,_,A,htd,λ tn L1 Z1 en=>?_⟩;have R':=R.step Z1;have hc':=Z1 _ _ hc;have tkp':TupKeep K3 L1:=λ a xs e=>Z1 _ _ (tkp a xs e);have done : ∀ (hlt : Far.get cs v.toNat = none \/ ∃ c', Far.get cs v.toNat = some c' /\ Far.lt2 (d.1+t.2.2, d.2+2^k) c') , ∀ L, L = upd (upd L1 lc (.lst (cvs.set v.toNat (.ref tn)))) la (.lst ((as.map oa).set v.toNat (.int u))) →
         RA H L lw lc la (pows ts.length) (cs.set v.toNat (some (d.1+t.2.2,d.2+2^k))) (as.set v.toNat (some u.toNat))/\Far.Good (arcs ts ks) n.toNat r.toNat (cs.set v.toNat (some (d.1+t.2.2,d.2+2^k)))/\Far.Run (arcsB ts ks) r.toNat (cs.set v.toNat (some (d.1+t.2.2,d.2+2^k))) (as.set v.toNat (some u.toNat))/\Far.PS2 c0 (λ z=>z∈arcsB ts (ks.take i)\/z∈(arcs2B t k).take (j+1)) (cs.set v.toNat (some (d.1+t.2.2,d.2+2^k))) true/\TupKeep K3 L:=λ hlt L eL=>by
      subst eL;obtain⟨G',mm⟩:=G.step P (by left) arc (by left) pw.1 pw.2 (by left) gu hlt;have Rp:=R'.put hc' (k:=v.toNat) (by left) en;have Rm:=Rp.mark (k:=v.toNat) (u:=u.toNat);rw[uao u0] at Rm;exact⟨Rm,G',Far.Run.step P G AH arc arcB (by left) gu hlt,next (Pt.put mm),λ a xs e=>fS Rp.ah _ _ (fS hc' _ _ (tkp' a xs e))⟩
     have ha:=R'.ah;have hal:(as.map oa).length=n.toNat:=by rw[i5,AH.len];exact G.len
     refine⟨K,lc,Y,SqL.of hc',at2,X,ite2 (λ c2=>iteT ?_) (λ c2=>?_)⟩
     ·have gv:Far.get cs v.toNat=none:=by
       cases e:Far.get cs v.toNat with
       | none=>rfl
       | some d =>
        rw[e] at cv2;obtain⟨tt,rfl,_⟩:=cv2;cases ug4 c2
      obtain⟨R2,G2,A2,P2,k2⟩:=done (.inl gv) _ rfl;exact⟨K,A,lc,Y,hc',fP v0 (by left),K,A,la,Y,(by rw[aJ R.nca.symm];exact ha),fP v0 (by left),V,true,V,A,R2,G2,A2,P2,k2⟩
     ·obtain⟨d2,gv⟩:∃ d,Far.get cs v.toNat=some d:=by
       cases e:Far.get cs v.toNat with
       | none=>rw[e] at cv2;exact absurd (ug3 (show x2=V.non from cv2)) c2
       | some d=>exact⟨d,rfl⟩
      rw[gv] at cv2;obtain⟨te,rfl,hte⟩:=cv2;refine⟨K,A,lc,Y,SqL.of hc',at2,tn,te,L3.e2 (d.1+t.2.2,d.2+2^k),L3.e2 d2,P,SqT.of en,SqT.of (Z1 _ _ hte),A,ite2 (λ c3=>?_) (λ c3=>?_)⟩
      ·have hl:=(oG _ _).mp c3;obtain⟨R2,G2,A2,P2,k2⟩:=done (.inr ⟨d2,gv,hl⟩) _ rfl;exact⟨K,A,lc,Y,hc',fP v0 (by left),K,A,la,Y,(by rw[aJ R.nca.symm];exact ha),fP v0 (by left),V,true,V,A,R2,G2,A2,P2,k2⟩
      ·have hn:¬ Far.lt2 (d.1+t.2.2,d.2+2^k) d2:=λ z=>c3 ((oG _ _).mpr z);exact⟨cs,as,ag,V,A,R',G,AH,next (Pt.old gu gv hn),tkp'⟩
   ·obtain⟨cs,as,ag,y11,y12,y13,rfl,R,G,AH,Pt,tkp⟩:=h;refine⟨cs,as,ag,V,V,V,A,R,G,AH,Pt.less λ z hz=>?_⟩;exact (yD hk hz).elim .inl λ y=>.inr (by rw[← et] at y;exact y)
  ·obtain⟨cs,as,ag,y7,y8,y9,y10,y11,y12,y13,rfl,R2,G2,A2,Pt⟩:=h;have lk:((keepI ks).map V.int).length=ks.length:=by unfold keepI;rw[i5,i5]
   rw[lk,ufy] at Pt;rcases Pt with ⟨ea,ec,st⟩ | ⟨ea,lt⟩
   ·subst ea;rw[← ec] at st;exact⟨Far.mu cs+0,by rw[ec];left,cs,as,false,V,V,V,A,R2,G2,A2,λ _=>st,rfl⟩
   ·subst ea;exact⟨Far.mu cs+1,by left,cs,as,true,V,V,V,A,R2,G2,A2,λ z=>(by cases z),rfl⟩
theorem uY (T:Bi mg)(D:DefOk K mg "fars_from" s_fars_from ["web","keep","root"])(O_reached_from:‹2› "reached_from" ["web","keep","root"] (spReached K)):‹3› "fars_from" ["web","keep","root"] (spFars K):=by
 exists 2,sc_fars_from;obtain⟨n,ts,ks,wv,kv,r,rfl,wk,r0,r1,q⟩:=h;have n24:=wk.2.1.n24;refine⟨_,(aF (cN (aG O_reached_from hr rfl (aA (pv 0) (aA (pv 1) (aA (pv 2) aB)))) (cZ (n:=2) rfl (aU (aN (i:=3) nd rfl (v6 rfl)) (aU (aN (i:=4) nd rfl (v6 rfl)) bT)))) (aE (aH (bE (N:=["web","keep","root","costs","ahead"]) (sc0:=defScope s_fars_from) (own:=["cost"]) (fr:=[]) (js:=[]) rfl (gW (pv 3)) (λ _ _ _ _=>(aN (i:=0) (by show uan [("cost":Str)];decide +kernel) rfl (v6 rfl))) (λ _ _ _ _=>bS) (λ _ _ _ _=>(oC (aR eM (pv 0) bD (nomark _)) bD (aK zdo (pv 0) aC (λ _ _=>rfl)))))))),?_⟩;refine⟨K,A,n,ts,ks,wv,kv,r,rfl,wk,r0,r1,λ p lc la cvs avs cs J S ep ec ea cl G St=>?_⟩;refine⟨p,A,SqT.of ep,Z,A,M,?_⟩;have lenC:cvs.length=n.toNat:=by rw[cl.1];exact G.len
 refine⟨A,lc,rfl,⟨_,SqL.of ec⟩,?_⟩;refine jJ ec (λ σ'=>σ'.length=1) (λ i v _=>v=ov ((Far.get cs i).map (·.1))) (by left) (by rfl) (λ _ _ _ _ _ h=>h) (λ i x σ' H' hx s2 sg C hC=>?_) (λ L ys H2 hL s2 hH hly hys=>?_)
 ·match σ',sg with
  | [o],_ =>
   have cv:=cl.2 i x hx;refine⟨E,A,ite2 (λ c=>?_) (λ c=>?_)⟩
   ·have e:Far.get cs i=none:=by
     cases e:Far.get cs i with
     | none=>rfl
     | some d =>
      rw[e] at cv;obtain⟨tt,rfl,_⟩:=cv;cases ug4 c
    exact hC _ _ _ rfl (Same.refl _) (by rw[e];rfl)
   ·obtain⟨d,gu⟩:∃ d,Far.get cs i=some d:=by
     cases e:Far.get cs i with
     | none=>rw[e] at cv;exact absurd (ug3 (show x=V.non from cv)) c
     | some d=>exact⟨d,rfl⟩
    rw[gu] at cv;obtain⟨td,rfl,htd⟩:=cv;exact⟨A,td,Y,SqT.of (s2 _ _ htd),rfl,hC _ _ _ rfl (Same.refl _) (by rw[gu];rfl)⟩
 ·obtain⟨DD,eD⟩:∃ DD,DD=cs.map λ o=>o.map (·.1):=⟨A⟩;have gD:∀ v,Far.get DD v=(Far.get cs v).map (·.1):=λ v=>by
   rw[eD];unfold Far.get;rw[f9,l7,f9];cases cs[v]? <;> rfl
  refine q L DD H2 (S.trans s2) (S.free hL) ?_ (by rw[eD,i5];exact G.len) λ v hv=>by rw[gD];exact G.dst St v
  rw[hH];refine congrArg (λ z=>some (HO.lst z)) (ucs λ i=>?_);have lD:DD.length=n.toNat:=by rw[eD,i5];exact G.len
  by_cases hi:i<n.toNat
  ·rw[dR (by left),gD];have e:ys[i]?=some ys[i]:=c7 (by left);rw[e,hys i _ e]
  ·rw[x9 (by left),x9 (by rw[i5];left)]
theorem uC (T:Bi mg)(D:DefOk K mg "tree_from" s_tree_from ["web","keep","root"])(O_reached_from:‹2› "reached_from" ["web","keep","root"] (spReachedB K)):‹3› "tree_from" ["web","keep","root"] (spTreeB K):=by
 exists 2,sc_tree_from;obtain⟨n,ts,ks,wv,kv,r,rfl,wk,r0,r1,q⟩:=h;refine⟨_,(aF (cN (aG O_reached_from hr rfl (aA (pv 0) (aA (pv 1) (aA (pv 2) aB)))) (cZ (n:=2) rfl (aU (aN (i:=3) nd rfl (v6 rfl)) (aU (aN (i:=4) nd rfl (v6 rfl)) bT)))) (aE (aH (bB cV rfl T.z_tuple (by symm) (aA (pv 4) aB))))),?_⟩;refine⟨K,A,n,ts,ks,wv,kv,r,rfl,wk,r0,r1,λ p lc la cvs as cs J S ep ec ea cl G=>?_⟩;refine⟨p,A,SqT.of ep,Z,A,M,?_⟩;exact⟨A,la,A,ea,λ t J2 S2 f2 e2=>q t as cs J2 (S.trans S2) e2 G⟩
theorem sW (T:Bi mg)(D:DefOk K mg "tie_between" s_tie_between ["web","a","b"]):‹1› "tie_between" ["web","a","b"] (spTB K):=by
 exists 0,sc_tie_between;obtain⟨n,ts,wv,u,v,rfl,isw,few60,q⟩:=h;have units:∀ {x:Nat},x<=3->(A.deeper (envOfC "tie_between" (defScope s_tie_between) s.heap.objs.size f cdv)).units+x<cLine:=λ {x} hu=>by have:=hr.units;left
 obtain⟨g0,g,ws,rfl,hg0,hg,hall,hlw⟩:=bY isw;refine⟨_,(aF (aQ (i:=3) nd rfl (v6 rfl) (aZ (aA (aO (nD rfl) rfl T.z_min (by symm) (aA (pv 1) (aA (pv 2) aB))) (aA (aO (iW rfl) rfl T.z_max (by symm) (aA (pv 1) (aA (pv 2) aB))) aB)))) (aF (cC PassesOwn.never rfl (fK true rfl T.z_enumerate (aA (aK aV (pv 0) aC (λ _ _=>rfl)) aB)) (cZ (n:=2) rfl (aU (aN (i:=4) nd rfl (v6 rfl)) (aU (aN (i:=5) nd rfl (v6 rfl)) bT))) (aE (aT (aR zel (bH bI (pv 5) bG (bL aC)) (pv 3) (nomark _)) (aE (aH (pv 4))) aS))) (aE (aH bD)))),?_⟩;refine⟨K,_,K,A,_,A,(by show 2<=1000;decide),λ te J1 S1 f1 e1=>?_⟩;have eMin:(if (v:Int)<(u:Int) then (v:Int) else u)=min (u:Int) v:=by split <;> left
 have eMax:(if (v:Int)>(u:Int) then (v:Int) else u)=max (u:Int) v:=by split <;> left
 rw[eMin,eMax] at e1;refine⟨A,g0,Y,SqT.of (S1 _ _ hg0),rfl,g,rfl,⟨ws,SqX.of (S1 _ _ hg)⟩,?_⟩;refine⟨λ i m σ J=>m=ts.length-i/\i<=ts.length/\(∃ y4 y5:Option V,σ=[some (.ref g0),some (.int (u:Int)),some (.int (v:Int)),some (.ref te),y4,y5])/\Same J1 J/\∀ k,k<i->isTB ts u v k=false,⟨_,rfl,x8 _,⟨none,none,rfl⟩,Same.refl _,λ k hk=>(by left)⟩,?_⟩;rintro i m σ J ⟨rfl,hi,⟨y4,y5,rfl⟩,sm,pre⟩;have sH:=S1.trans sm;have sq:SqX true K J g ws:=SqX.of (sH _ _ hg);by_cases hlt:i<ts.length
 ·refine .inr ⟨⟨ws,ws[i]'(by left),sq,by simp [show i<ws.length by left]⟩,λ σ' J'=>∃ m',m'<ts.length-i/\(m'=ts.length-(i+1)/\i+1<=ts.length/\(∃ y4 y5:Option V,σ'=[some (.ref g0),some (.int (u:Int)),some (.int (v:Int)),some (.ref te),y4,y5])/\Same J1 J'/\∀ k,k<i+1->isTB ts u v k=false),λ _ _ h=>h,λ x J' hy=>?_⟩;obtain⟨T',y,hT,rfl,rfl,ey⟩:=hy;have hyi:=ey ws sq;obtain⟨ta,hta,htie⟩:=gR hall hlt;rw[hta] at hyi;cases hyi;have S2:=aP (o:=.tup [.int (i:Nat),.ref ta]) hT;have htie':=S2 _ _ (sH _ _ htie);refine⟨T',A,SqT.of aM,Z,A,M,?_⟩;refine⟨K,ta,A,htie',λ tc J3 S3 e3=>?_⟩;have e3':J3 tc=some (.tup (([(tieAt ts i).1,(tieAt ts i).2.1]:List Int).map V.int)):=e3;have e1':J3 te=some (.tup (([min (u:Int) v,max (u:Int) v]:List Int).map V.int)):=S3 _ _ (S2 _ _ (sm _ _ e1));refine⟨A,.tuple (([(tieAt ts i).1,(tieAt ts i).2.1]:List Int).map .int),.tuple (([min (u:Int) v,max (u:Int) v]:List Int).map .int),⟨tc,A,e3',IsAll.ints _⟩,⟨te,A,e1',IsAll.ints _⟩,jG _,jG _,?_,A,?_⟩
  ·have d1:=mY [(tieAt ts i).1,(tieAt ts i).2.1];have d2:ufh (.tuple (([(tieAt ts i).1,(tieAt ts i).2.1]:List Int).map .int))=ufw (([(tieAt ts i).1,(tieAt ts i).2.1]:List Int).map .int)+1:=rfl;exact units (o8 (Nat.min_le_left _ _) (by rw[d2];left))
  have eq:PyData.eqv (.tuple (([(tieAt ts i).1,(tieAt ts i).2.1]:List Int).map .int)) (.tuple (([min (u:Int) v,max (u:Int) v]:List Int).map .int))=isTB ts u v i:=zbg _ _ _ _;rw[eq];have SS:=S2.trans S3;refine ite2 (λ c=>?_) (λ c=>?_)
  ·have et:tbN ts u v=some i:=by
    unfold tbN;refine List.find?_range_eq_some.mpr ⟨c,o9.mpr hlt,λ j hj=>?_⟩;rw[pre j hj];rfl
   have q1:=q J3 (sH.trans SS);rw[et] at q1;exact⟨A,q1⟩
  ·refine⟨ts.length-(i+1),by left,rfl,hlt,⟨_,A⟩,sm.trans SS,λ k hk=>?_⟩;by_cases z:k=i
   ·rw[z];exact uaw.mpr c
   ·exact pre k (by left)
 ·have e:i=ts.length:=by left
  subst e;refine .inl ⟨⟨ws,sq,by left⟩,?_⟩;have et:tbN ts u v=none:=by
   unfold tbN;refine List.find?_eq_none.mpr λ k hk=>?_;rw[pre k (o9.mp hk)];exact j9
  have q1:=q J sH;rw[et] at q1;exact q1
theorem zbj (T:Bi mg)(D:DefOk K mg "whole" s_whole ["web"]):‹1› "whole" ["web"] (spWhole K):=by
 exists 0,sc_whole;obtain⟨n,ts,v,rfl,hw,few60,q⟩:=h;obtain⟨g0,g,ws,rfl,hg0,hg,hall,hlw⟩:=bY hw;refine⟨_,(aE (aH (bB (fZ rfl) rfl T.z_tuple (by symm) (aA (bB eW rfl T.z_range (by symm) (aA (aO bO rfl T.z_len (by symm) (aA (aK aV (pv 0) aC (λ _ _=>rfl)) aB)) aB)) aB)))),?_⟩;refine⟨A,g0,Y,SqT.of hg0,rfl,g,A,.inr (SqT.of hg),A,λ r hr'=>?_⟩;refine⟨r,A,aM,by left,by left,λ l H' S f e=>q l H' ((aP hr').trans S) ((aP (o:=.rng 0 _) hr').free f) ?_⟩;rw[e,show ((ws.length:Nat):Int).toNat=ts.length by left]
theorem wB (T:Bi mg)(D:DefOk K mg "not_kept" s_not_kept ["web","keep"])(O_whole:‹1› "whole" ["web"] (spWhole K)):‹2› "not_kept" ["web","keep"] (spOuts K):=by
 exists 1,sc_not_kept;obtain⟨n,ts,ks,wv,kv,rfl,wk,q⟩:=h;have few60:=wk.2.1.few;obtain⟨kp,rfl,hkp⟩:=iN wk.2.2.1;rw[← bM] at hkp;refine⟨_,(aE (aH (bE (N:=["web","keep"]) (sc0:=defScope s_not_kept) (own:=["tie"]) (fr:=["keep"]) (js:=[1]) rfl (bW (aG O_whole hr rfl (aA (pv 0) aB))) (λ _ _ _ _=>(aN (i:=0) (by show uan [("tie":Str),("keep":Str)];decide +kernel) rfl (v6 rfl))) (λ _ _ _ _=>(dD (aR uA (pv 0) (pv 1) (by with_unfolding_all rfl)))) (λ _ _ _ _=>(pv 0))))),?_⟩;refine⟨A,n,ts,wv,rfl,wk.1,few60,λ l H1 s1 f1 e1=>?_⟩;refine⟨l,rfl,⟨_,SqT.of e1⟩,?_⟩;have len:(natV (d7 ts.length)).length=ts.length:=by unfold natV;rw[i5,t5]
 refine mZ e1 (λ σ'=>∃ o,σ'=[o,some (.ref kp)]) (λ i=>if decide (i∉ks)=true then some (V.int (i:Int)) else none) (by left) (by exact⟨none,rfl⟩) (λ i x σ' H' hx s2 sg C L hC hL=>?_) (λ L H2 hL s2 hH=>?_)
 ·obtain⟨o,rfl⟩:=sg;obtain⟨k,hk,rfl⟩:=eN hx;have ek:k=i:=by
   have hi:=(j6.mp hk).1;rw[t5] at hi;rw[uc0 hi] at hk;cases hk;rfl
  subst ek;refine⟨K,kp,A,.inr (SqT.of ((s1.trans s2) _ _ hkp)),rfl,gQ ks,A,?_⟩;show if (!inV (V.int (k:Int)) (natV ks))=true then _ else _
  rw[gY (uad _),v5];refine iteB2 (λ c=>?_) (λ c=>?_)
  ·refine hL _ _ ⟨A⟩ (Same.refl _) ?_;rw[ug8];exact λ z=>ug4 z (ug4 c)
  ·refine⟨A,hC _ _ _ ⟨A⟩ (Same.refl _) ?_⟩;rw[ug7 (ug3 (ug6 c))]
 ·refine q L H2 (s1.trans s2) (s1.free hL) ?_;rw[hH,len,gN];rfl
def spPlace (K:b9):Sp:=λ vs H Q _=>∃ (n:Int)(ts:List Tie)(wv:V)(i:Int),vs=[wv,.int i]/\Is K H (webD n ts) wv/\∀ H',Same H H'->Q (.bl (decide (0<=i)&&decide (i<n))) H'
def placesB (n:Int)(ns:List Int):Bool:=ns.all λ i=>decide (0<=i)&&decide (i<n)
def spUnlike (K:b9):Sp:=λ vs H Q _=>∃ (n:Int)(ts:List Tie)(wv:V)(p:j8)(ns:List Int),vs=[wv,.ref p]/\Is K H (webD n ts) wv/\IntT H p ns/\∀ H',Same H H'->Q (.bl (placesB n ns&&decide ns.Nodup)) H'
theorem wD (T:Bi mg)(D:DefOk K mg "is_place" s_is_place ["web","thing"])(O_is_whole:‹1› "is_whole" ["thing"] (spD1 K (λ _=>True) wholeB)):‹2› "is_place" ["web","thing"] (spPlace K):=by
 exists 1,sc_is_place;obtain⟨n,ts,wv,i,rfl,isw,q⟩:=h;obtain⟨g0,g,ws,rfl,hg0,_⟩:=bY isw;refine⟨_,(aE (aH (dF (aG O_is_whole hr rfl (aA (pv 1) aB)) (cJ (oE eS cP aC (pv 1) (aK aV (pv 0) aC (λ _ _=>rfl))))))),?_⟩;refine⟨A,.int i,.int i,P,trivial,λ H1 s1=>⟨_,rfl,iteT ?_⟩⟩;have q0:=q H1 s1;refine⟨A,M,A,ite2 (λ c=>?_) (λ c=>?_)⟩
 ·rw[show decide (0<=i)=true from c,udb] at q0;exact⟨A,g0,Y,SqT.of (s1 _ _ hg0),rfl,M,q0⟩
 ·rw[show decide (0<=i)=false from uaw.mpr c,ud1] at q0;exact q0
theorem rT (T:Bi mg)(D:DefOk K mg "are_unlike_places" s_are_unlike_places ["web","thing"])(O_is_place:‹2› "is_place" ["web","thing"] (spPlace K)):‹3› "are_unlike_places" ["web","thing"] (spUnlike K):=by
 exists 2,sc_are_unlike_places;obtain⟨n,ts,wv,p,ns,rfl,isw,it,q⟩:=h;have lm:(ns.map V.int).length=ns.length:=i5 _;have l1000:=it.2;refine⟨_,(aF (aT (PW.pt (dI (bU (bN (aO (eE (n:="tuple")) rfl T.z_isinstance (by symm) (aA (pv 1) (aA (dM (v:=.ty "tuple") rfl T.z_tuple (by symm) rfl) aB))))) (dE (bU (bN (aO (cX rfl) rfl T.z_all (by symm) (aA (bE (N:=["web","thing"]) (sc0:=defScope s_are_unlike_places) (own:=["part"]) (fr:=["web"]) (js:=[0]) rfl (bW (pv 1)) (λ _ _ _ _=>(aN (i:=0) (by show uan [("part":Str),("web":Str)];decide +kernel) rfl (v6 rfl))) (λ _ _ _ _=>bS) (λ _ _ _ _=>(aG O_is_place hr rfl (aA (pv 1) (aA (pv 0) aB))))) aB))))))) (aE (aH bV)) aS) (aE (aH (bC bA (aO nE rfl T.z_len (by symm) (aA (bB (nC rfl) rfl T.z_set (by symm) (aA (pv 1) aB)) aB)) (aO bO rfl T.z_len (by symm) (aA (pv 1) aB)) (nomark _))))),?_⟩;refine⟨A,V,A,TyOf.tup it.1,X,iteF ?_⟩;refine⟨A,p,rfl,⟨_,SqT.of it.1⟩,?_⟩;refine eB it.1 (λ σ'=>∃ o,σ'=[o,some wv]) (λ i v _=>v=.bl ((λ i=>decide (0<=ns.getD i 0)&&decide (ns.getD i 0<n)) i)) (by left) (by exact⟨none,rfl⟩) (λ _ _ _ _ _ h=>h) (λ i x σ' H' hx s2 sg C hC=>?_) (λ L ys H2 hL s2 hH hly hys=>?_)
 ·obtain⟨o,rfl⟩:=sg;rw[l7] at hx;obtain⟨j,hj,rfl⟩:=ubc.mp hx;have ej:ns.getD i 0=j:=by rw[f9,hj];rfl
  refine⟨K,n,ts,wv,j,rfl,Is.same s2 _ isw,λ H5 s5=>hC _ _ _ ⟨_,rfl⟩ s5 ?_⟩;show V.bl (decide (0<=j)&&decide (j<n))=V.bl (decide (0<=ns.getD i 0)&&decide (ns.getD i 0<n));rw[ej]
 ·refine⟨L,A,SqL.of (by rw[hH,cY (hly.trans lm) hys]),A,?_⟩;have eall:((d7 ns.length).map λ i=>decide (0<=ns.getD i 0)&&decide (ns.getD i 0<n)).all id=placesB n ns:=by
   have z:=congrArg (List.map λ j:Int=>decide (0<=j)&&decide (j<n)) (L3.bX ns 0);rw[ua5] at z;have z':((d7 ns.length).map λ i=>decide (0<=ns.getD i 0)&&decide (ns.getD i 0<n))=ns.map λ j=>decide (0<=j)&&decide (j<n):=z;rw[z',ucp];rfl
  have q1:∀ {J:Hp},Same H2 J->Q (.bl (placesB n ns&&decide ns.Nodup)) J:=λ S=>q _ (s2.trans S);refine iteB2 (λ c=>?_) (λ c=>?_)
  ·rw[eall] at c;refine⟨A,p,ns,rfl,s2 _ _ it.1,l1000,λ u J S f e=>?_⟩;refine⟨u,_,A,e,A,p,A,.inr (SqT.of (S _ _ (s2 _ _ it.1))),rfl,?_⟩;have q2:=q1 S;rw[c,udb] at q2;have ed:decide (V.int ((HT.setN ns ns.length:Nat):Int)=V.int (((ns.map V.int).length:Nat):Int))=decide ns.Nodup:=by
    rw[lm];by_cases z:ns.Nodup
    ·rw[ug3 z,(gB ns).mpr z,ug3 rfl]
    ·rw[ug5 z];exact ug5 λ y=>z ((gB ns).mp (by injection y with y;left))
   rw[ed];exact q2
  ·rw[eall] at c;have q2:=q1 (Same.refl _);rw[c,ud1] at q2;exact q2
theorem rZ (T:Bi mg)(D:DefOk K mg "is_rising" s_is_rising ["parts"]):‹1› "is_rising" ["parts"] spRisI:=by
 exists 0,sc_is_rising;obtain⟨p,ns,rfl,hp,hn,q⟩:=h;refine⟨_,(aE (aH (aO (cX rfl) rfl T.z_all (by symm) (aA (bE (N:=["parts"]) (sc0:=defScope s_is_rising) (own:=["low","high"]) (fr:=[]) (js:=[]) rfl (kA true true rfl T.z_zip (aA (pv 0) (aA (bH bI (pv 0) (bL aC) bG) aB))) (λ _ _ _ _=>(dL (n:=2) rfl (aU (aN (i:=0) (by show uan [("low":Str),("high":Str)];decide +kernel) rfl (v6 rfl)) (aU (aN (i:=1) (by show uan [("low":Str),("high":Str)];decide +kernel) rfl (v6 rfl)) bT)))) (λ _ _ _ _=>bS) (λ _ _ _ _=>(bC cP (pv 0) (pv 1) (nomark _)))) aB)))),?_⟩;refine⟨K,A,p,A,hp,λ p2 H1 S1 hp2=>?_⟩;refine⟨p,p2,rfl,⟨_,SqT.of (S1 _ _ hp)⟩,⟨_,SqT.of hp2⟩,?_⟩;have e2':H1 p2=some (.tup ((ns.drop 1).map V.int)):=by rw[hp2,cut1,ud5]
 refine jI (t1:=true) (t2:=true) (xs:=ns.map V.int) (zs:=(ns.drop 1).map V.int) (S1 _ _ hp) e2' (λ σ'=>σ'.length=2) (λ i v _=>v=.bl (decide (ns.getD i 0<(ns.drop 1).getD i 0))) (by rw[i5];left) (by rfl) (λ _ _ _ _ _ h=>h) (λ i x z U σ' H' hx hz s hU sg C hC=>?_) (λ L zs H' hL s hH hly hys=>?_)
 ·match σ',sg with
  | [o1,o2],_ =>
   rw[l7] at hx hz;obtain⟨a,ha,rfl⟩:=ubc.mp hx;obtain⟨b,hb,rfl⟩:=ubc.mp hz;refine⟨U,A,SqT.of aM,Z,A,M,?_⟩;refine⟨K,a,b,P,?_⟩;refine hC _ _ _ rfl (aP hU) ?_;have e1:ns.getD i 0=a:=by simp [uca,ha]
   have e3:(ns.drop 1).getD i 0=b:=by simp only [uca,hb];rfl
   rw[e1,e3]
 ·refine⟨L,A,SqL.of (by rw[hH,cY hly hys]),?_⟩;have q':=q H' (S1.trans s);unfold risI at q';rw[i5,i5];exact q'
theorem wE (T:Bi mg)(D:DefOk K mg "is_level" s_is_level ["web","thing"])(O_are_unlike_places:‹3› "are_unlike_places" ["web","thing"] (spUnlike K))(O_is_rising:‹3› "is_rising" ["parts"] spRisI):‹4› "is_level" ["web","thing"] (spIsLevel K):=by
 exists 3,sc_is_level;obtain⟨n,ts,wv,p,l,rfl,isw,hp,l24,ri,inn,q⟩:=h;have ll:(keepI l).length=l.length:=by unfold keepI;rw[i5]
 rw[bM] at hp;have e1:(placesB n (keepI l)&&decide (keepI l).Nodup)=true:=by
  rw[ug3 (wH (ri.imp λ z=>l6 z)),Bool.and_true];refine uas.mpr λ i hi=>?_;obtain⟨x,hx,rfl⟩:=ubx.mp hi;have:=inn x hx;rw[ug3 (uad _),ug3 (by left)];rfl
 refine⟨_,(aE (aH (dF (aG O_are_unlike_places hr rfl (aA (pv 0) (aA (pv 1) aB))) (cJ (aG O_is_rising hr rfl (aA (pv 1) aB)))))),?_⟩;refine⟨K,n,ts,wv,p,keepI l,rfl,isw,⟨hp,by left⟩,λ H1 s1=>?_⟩;rw[e1];refine⟨A,iteT ?_⟩;refine⟨A,p,keepI l,rfl,s1 _ _ hp,by left,λ H2 s2=>?_⟩;rw[yM ri];exact q H2 (s1.trans s2)
theorem sY (T:Bi mg)(D:DefOk K mg "lies_within" s_lies_within ["level","ahead"]):‹1› "lies_within" ["level","ahead"] (spLies K):=by
 exists 0,sc_lies_within;obtain⟨p,o,l,m,rfl,hp,ho,l24,sub,q⟩:=h;have len:(natV l).length=l.length:=by unfold natV;rw[i5]
 refine⟨_,(aE (aH (aO (cX rfl) rfl T.z_all (by symm) (aA (bE (N:=["level","ahead"]) (sc0:=defScope s_lies_within) (own:=["place"]) (fr:=["ahead"]) (js:=[1]) rfl (bW (pv 0)) (λ _ _ _ _=>(aN (i:=0) (by show uan [("place":Str),("ahead":Str)];decide +kernel) rfl (v6 rfl))) (λ _ _ _ _=>bS) (λ _ _ _ _=>(bC iL (pv 0) (pv 1) (by with_unfolding_all rfl)))) aB)))),?_⟩;refine⟨A,p,rfl,⟨_,SqT.of hp⟩,?_⟩;refine eB hp (λ σ'=>∃ y,σ'=[y,some (.ref o)]) (λ i v _=>v=.bl ((λ _=>true) i)) (by left) (by exact⟨none,rfl⟩) (λ _ _ _ _ _ h=>h) (λ i x σ' H' hx s2 sg C hC=>?_) (λ L ys H2 hL s2 hH hly hys=>?_)
 ·obtain⟨y,rfl⟩:=sg;obtain⟨j,hj,rfl⟩:=eN hx;refine⟨K,o,A,.inr (SqT.of (s2 _ _ ho)),rfl,gQ m,hC _ _ _ ⟨A⟩ (Same.refl _) ?_⟩;show V.bl (inV (V.int (j:Int)) (natV m))=V.bl true;rw[gY (uad _),v5,ug3 (sub j (uap hj))]
 refine⟨L,A,SqL.of (by rw[hH,cY hly hys]),?_⟩;have e:(((d7 (natV l).length).map λ _=>true).all id)=true:=by rw[ucp];exact uas.mpr λ _ _=>rfl
 rw[e];exact q H2 s2
theorem uH (T:Bi mg)(D:DefOk K mg "are_levels" s_are_levels ["web","thing"])(O_is_level:‹4› "is_level" ["web","thing"] (spIsLevel K))(O_lies_within:‹4› "lies_within" ["level","ahead"] (spLies K)):‹5› "are_levels" ["web","thing"] (spAreLev K):=by
 exists 4,sc_are_levels;obtain⟨n,ts,ls,wv,lv,rfl,isw,n1,⟨isl,lo,n24⟩,q⟩:=h;obtain⟨p,vs,rfl,hp,hl,hat⟩:=fF isl;obtain⟨g0,g,ws,rfl,hg0,hg,hall,hlw⟩:=bY isw;have one:=lo.one;have six:=lo.six;refine⟨_,(aF (aT (PW.pt (dI (bU (bN (aO (eE (n:="tuple")) rfl T.z_isinstance (by symm) (aA (pv 1) (aA (dM (v:=.ty "tuple") rfl T.z_tuple (by symm) rfl) aB))))) (dE (bU (oA eS eS aC (aO bO rfl T.z_len (by symm) (aA (pv 1) aB)) aC))))) (aE (aH bV)) aS) (aF (aT (PW.pt (dI (bU (bN (aO (cX rfl) rfl T.z_all (by symm) (aA (bE (N:=["web","thing"]) (sc0:=defScope s_are_levels) (own:=["level"]) (fr:=["web"]) (js:=[0]) rfl (bW (pv 1)) (λ _ _ _ _=>(aN (i:=0) (by show uan [("level":Str),("web":Str)];decide +kernel) rfl (v6 rfl))) (λ _ _ _ _=>bS) (λ _ _ _ _=>(aG O_is_level hr rfl (aA (pv 1) (aA (pv 0) aB))))) aB)))) (dE (aR rL (aO bO rfl T.z_len (by symm) (aA (aK aV (pv 1) aC (λ _ _=>rfl)) aB)) (aK aV (pv 0) aC (λ _ _=>rfl)) (nomark _))))) (aE (aH bV)) aS) (aE (aH (aO (cX rfl) rfl T.z_all (by symm) (aA (bE (N:=["web","thing"]) (sc0:=defScope s_are_levels) (own:=["ahead","level"]) (fr:=[]) (js:=[]) rfl (kA true true rfl T.z_zip (aA (pv 1) (aA (bH bI (pv 1) (bL aC) bG) aB))) (λ _ _ _ _=>(dL (n:=2) rfl (aU (aN (i:=0) (by show uan [("ahead":Str),("level":Str)];decide +kernel) rfl (v6 rfl)) (aU (aN (i:=1) (by show uan [("ahead":Str),("level":Str)];decide +kernel) rfl (v6 rfl)) bT)))) (λ _ _ _ _=>bS) (λ _ _ _ _=>(aG O_lies_within hr rfl (aA (pv 1) (aA (pv 0) aB))))) aB)))))),?_⟩;refine⟨A,V,A,TyOf.tup hp,X,iteF ?_⟩;refine⟨A,p,A,.inr (SqT.of hp),M,A,?_⟩;have e1:decide ((1:Int)<=((vs.length:Nat):Int))=true:=ug3 (by left);have e2:decide (((vs.length:Nat):Int)<=6)=true:=ug3 (by left);rw[e1];refine iteT ⟨M,A,?_⟩;rw[e2];refine iteF ?_;refine⟨A,p,rfl,⟨_,SqT.of hp⟩,?_⟩;refine eB hp (λ σ'=>∃ y,σ'=[y,some (.ref g0)]) (λ i v _=>v=.bl ((λ _=>true) i)) (by left) (by exact⟨none,rfl⟩) (λ _ _ _ _ _ h=>h) (λ i x σ' H' hx s2 sg C hC=>?_) (λ L ys H2 hL s2 hH hly hys=>?_)
 ·obtain⟨y,rfl⟩:=sg;have hi:i<ls.length:=by have:=(j6.mp hx).1;left
  obtain⟨t,et,ht⟩:=hat i hi;rw[hx] at et;cases et;exact⟨K,n,ts,_,t,lvl ls i,rfl,Is.same s2 _ isw,s2 _ _ ht,o8 (lo.len i) n24,lo.rise i,lo.inn i,λ H5 s5=>hC _ _ _ ⟨_,rfl⟩ s5 rfl⟩
 refine⟨L,A,SqL.of (by rw[hH,cY hly hys]),A,iteNB ?_ ?_⟩
 ·rw[ucp];exact uas.mpr λ _ _=>rfl
 obtain⟨t0,et0,ht0⟩:=hat 0 (by left);have at0:atI vs 0=some (.ref t0):=bP (uau 0) et0;have len0:(natV (lvl ls 0)).length=n.toNat:=by unfold natV;rw[i5,lo.first,t5]
 refine⟨A,p,Y,SqT.of (s2 _ _ hp),at0,t0,A,.inr (SqT.of (s2 _ _ ht0)),A,g0,Y,SqT.of (s2 _ _ hg0),P,A,iteNS ?_ ?_⟩
 ·show V.int (((natV (lvl ls 0)).length:Nat):Int)=V.int n;rw[len0,uao (by left)]
 refine⟨K,A,p,A,s2 _ _ hp,λ c J3 S3 h3=>?_⟩;have ecut:cutV vs (some 1) none=vs.drop 1:=cut1 vs;rw[ecut] at h3;have S23:=s2.trans S3;refine⟨p,c,rfl,⟨_,SqX.of (t:=true) (S23 _ _ hp)⟩,⟨_,SqX.of (t:=true) h3⟩,?_⟩;refine jI (t1:=true) (t2:=true) (S23 _ _ hp) h3 (λ σ'=>σ'.length=2) (λ i v _=>v=.bl ((λ _=>true) i)) (by left) (by rfl) (λ _ _ _ _ _ h=>h) (λ i x z T' σ' H' hx hz s4 hT sg C hC=>?_) (λ L ys H5 hL s5 hH hly hys=>?_)
 ·match σ',sg with
  | [o1,o2],_ =>
   rw[udo] at hz;have hi:1+i<ls.length:=by have:=(j6.mp hz).1;left
   obtain⟨t1,et1,ht1⟩:=hat i (by left);obtain⟨t2,et2,ht2⟩:=hat (1+i) hi;rw[hx] at et1;rw[hz] at et2;cases et1;cases et2;have s6:=S23.trans s4;have sN:=aP (o:=.tup [.ref t1,.ref t2]) hT;refine⟨T',A,SqT.of aM,Z,A,M,?_⟩;exact⟨K,t2,t1,lvl ls (1+i),lvl ls i,rfl,sN _ _ (s6 _ _ ht2),sN _ _ (s6 _ _ ht1),o8 (lo.len _) n24,by rw[ue4];exact lo.down i,λ H7 s7=>hC _ _ _ rfl (sN.trans s7) rfl⟩
 refine⟨L,A,SqL.of (by rw[hH,cY hly hys]),?_⟩;have q0:=q H5 (S23.trans s5);have e:∀ m:Nat,(((d7 m).map λ _=>true).all id)=true:=λ m=>by rw[ucp];exact uas.mpr λ _ _=>rfl
 rw[e];exact q0
theorem sX (T:Bi mg)(D:DefOk K mg "need_levels" s_need_levels ["web","levels"])(O_are_levels:‹5› "are_levels" ["web","thing"] (spAreLev K)):‹6› "need_levels" ["web","levels"] (spNeedLev K):=by
 exists 5,sc_need_levels;obtain⟨n,ts,ls,wv,lv,rfl,isw,n1,lvk,q⟩:=h;refine⟨_,(aE (aT (bU (bN (aG O_are_levels hr rfl (aA (pv 0) (aA (pv 1) aB))))) (aE zbc) aS)),?_⟩;exact⟨K,n,ts,ls,wv,lv,rfl,isw,n1,lvk,λ H1 s1=>⟨_,rfl,iteF (q H1 s1)⟩⟩
theorem yW (T:Bi mg)(D:DefOk K mg "top_of" s_top_of ["levels","place"]):‹1› "top_of" ["levels","place"] (spTop K):=by
 exists 0,sc_top_of;obtain⟨n,ls,lv,x,rfl,⟨isl,lo,n24⟩,hx,q⟩:=h;obtain⟨p,vs,rfl,hp,hl,hat⟩:=fF isl;have six:=lo.six;have one:=lo.one;refine⟨_,(aE (aH (aO (zac rfl) rfl T.z_max (by symm) (aA (bE (N:=["levels","place"]) (sc0:=defScope s_top_of) (own:=["number","level"]) (fr:=["place"]) (js:=[1]) rfl (fK true rfl T.z_enumerate (aA (pv 0) aB)) (λ _ _ _ _=>(dL (n:=2) rfl (aU (aN (i:=0) (by show uan [("number":Str),("level":Str),("place":Str)];decide +kernel) rfl (v6 rfl)) (aU (aN (i:=1) (by show uan [("number":Str),("level":Str),("place":Str)];decide +kernel) rfl (v6 rfl)) bT)))) (λ _ _ _ _=>(dD (aR iL (pv 2) (pv 1) (by with_unfolding_all rfl)))) (λ _ _ _ _=>(pv 0))) aB)))),?_⟩;refine⟨A,p,rfl,⟨_,SqX.of (t:=true) hp⟩,?_⟩;refine nA (t:=true) hp (λ σ'=>∃ o1 o2,σ'=[o1,o2,some (.int (x:Int))]) (λ i=>if decide (x∈lvl ls i)=true then some (V.int (i:Int)) else none) (by left) (by exact⟨none,none,rfl⟩) (λ i y T' σ' H' hy s2 hT sg C L hC hL=>?_) (λ L H2 hL s2 hH=>?_)
 ·obtain⟨o1,o2,rfl⟩:=sg;have hi:i<ls.length:=by have:=(j6.mp hy).1;left
  obtain⟨t,et,ht⟩:=hat i hi;rw[hy] at et;cases et;have sN:=aP (o:=.tup [.int (i:Nat),.ref t]) hT;refine⟨T',A,SqT.of aM,Z,A,M,?_⟩;refine⟨K,t,A,.inr (SqT.of (sN _ _ (s2 _ _ ht))),rfl,gQ (lvl ls i),A,?_⟩;show if (inV (V.int (x:Int)) (natV (lvl ls i)))=true then _ else _
  rw[gY (uad _),v5];refine ite2 (λ c=>⟨_,rfl,hC _ _ _ ⟨_,_,rfl⟩ sN (by rw[ug7 c])⟩) (λ c=>hL _ _ ⟨_,_,rfl⟩ sN (by rw[ug8 c]))
 ·rw[gN,bM] at hH;have mem:∀ b:Int,b∈keepI ((d7 vs.length).filter λ i=>decide (x∈lvl ls i))↔∃ i:Nat,i<ls.length/\x∈lvl ls i/\b=(i:Int):=λ b=>by
   unfold keepI;rw[ubx];constructor
   ·rintro ⟨i,hi,rfl⟩;rw[ua0,o9] at hi;exact⟨i,by left,ug4 hi.2,rfl⟩
   ·rintro ⟨i,h1,h2,rfl⟩;exact⟨i,ua0.mpr ⟨o9.mpr (by left),ug3 h2⟩,rfl⟩
  refine⟨L,A,hH,λ z=>?_,λ b hb le=>?_⟩
  ·have:=(mem 0).mpr ⟨0,by left,by rw[lo.first];exact o9.mpr hx,rfl⟩;rw[z] at this;cases this
  ·obtain⟨i,h1,h2,rfl⟩:=(mem b).mp hb;exact q i H2 s2 ⟨h1,h2,λ j hj hm=>by have:=le j ((mem j).mpr ⟨j,hj,hm,rfl⟩);left⟩
theorem uD (T:Bi mg)(D:DefOk K mg "nearest_of" s_nearest_of ["levels","number","fars"]):‹1› "nearest_of" ["levels","number","fars"] (spNearL K):=by
 exists 0,sc_nearest_of;obtain⟨n,ls,lv,m,l,DD,rfl,⟨isl,lo,n24⟩,hm,hl',lD,q⟩:=h;obtain⟨p,vs,rfl,hp,hl,hat⟩:=fF isl;refine⟨_,(aF (aT (aR bA (pv 1) (aO bO rfl T.z_len (by symm) (aA (pv 0) aB)) (nomark _)) (aE (aH bD)) aS) (aE (aH (zdb rfl rfl T.z_min (aA (bE (N:=["levels","number","fars"]) (sc0:=defScope s_nearest_of) (own:=["place"]) (fr:=["fars"]) (js:=[2]) rfl (bW (aK aV (pv 0) (pv 1) (λ _ _=>rfl))) (λ _ _ _ _=>(aN (i:=0) (by show uan [("place":Str),("fars":Str)];decide +kernel) rfl (v6 rfl))) (λ _ _ _ _=>(dD (aR jR (aK dC (pv 1) (pv 0) (λ _ _=>rfl)) bD (nomark _)))) (λ _ _ _ _=>(aK dC (pv 1) (pv 0) (λ _ _=>rfl)))) aB) (zc7 bD zee))))),?_⟩;refine⟨K,p,A,.inr (SqT.of hp),X,?_⟩;by_cases c:m=ls.length
 ·rw[ug3 (p:=V.int (m:Int)=V.int ((vs.length:Nat):Int)) (by rw[c,hl])];refine iteT ?_;exact q none H (Same.refl H) ⟨λ y e=>(by cases e),λ p x hp=>by rw[fM (by left)] at hp;cases hp⟩
 ·rw[ug5 (p:=V.int (m:Int)=V.int ((vs.length:Nat):Int)) (λ z=>c (by injection z with z;left))];refine iteF ?_;obtain⟨t,et,ht⟩:=hat m (by left);have len:=lo.len m;have lenN:(natV (lvl ls m)).length=(lvl ls m).length:=by unfold natV;rw[i5]
  refine⟨K,p,Y,SqT.of hp,bP (uad _) (by rw[v5];exact et),t,rfl,⟨_,SqT.of ht⟩,?_⟩;refine mZ ht (λ σ'=>∃ o,σ'=[o,some (.ref l)]) (λ i=>(Far.get DD ((lvl ls m).getD i 0)).map V.int) (by left) (by exact⟨none,rfl⟩) (λ i y σ' H' hy s2 sg C L hC hL=>?_) (λ L H2 hL s2 hH=>?_)
  ·obtain⟨o,rfl⟩:=sg;obtain⟨k,hk,rfl⟩:=eN hy;have hkn:=lo.inn m k (uap hk);have ek:(lvl ls m).getD i 0=k:=by rw[f9,hk];rfl
   have atk:atI (DD.map ov) (k:Int)=some (ov (Far.get DD k)):=bP (uad _) (by rw[v5];exact dR (by left));refine⟨K,l,Y,SqL.of (s2 _ _ hl'),atk,X,?_⟩;cases e:Far.get DD k with
   | none=>exact iteF (hL _ _ ⟨A⟩ (Same.refl _) (by rw[ek,e];rfl))
   | some x =>
    rw[e] at atk;exact iteT ⟨K,l,Y,SqL.of (s2 _ _ hl'),atk,hC _ _ _ ⟨A⟩ (Same.refl _) (by rw[ek,e];rfl)⟩
  ·have eL:(d7 (natV (lvl ls m)).length).filterMap (λ i=>(Far.get DD ((lvl ls m).getD i 0)).map V.int)=((lvl ls m).filterMap (Far.get DD)).map V.int:=by
    have e:=congrArg (List.filterMap λ j:Nat=>(Far.get DD j).map V.int) (L3.bX (lvl ls m) 0);rw[ued] at e;rw[lenN,ufe];exact e
   rw[eL] at hH;have mem:∀ b:Int,b∈(lvl ls m).filterMap (Far.get DD)↔∃ p,p∈lvl ls m/\Far.get DD p=some b:=λ b=>uco;refine⟨L,M,hH,λ z=>?_,λ b hb le=>?_⟩
   ·refine q none H2 s2 ⟨λ y e=>(by cases e),λ p x hp e=>?_⟩;have:=(mem x).mpr ⟨p,hp,e⟩;rw[z] at this;cases this
   ·refine q (some b) H2 s2 ⟨λ y e=>by cases e;exact (mem b).mp hb,λ p x hp e=>⟨b,rfl,le x ((mem x).mpr ⟨p,hp,e⟩)⟩⟩
theorem uF (T:Bi mg)(D:DefOk K mg "is_bunched" s_is_bunched ["levels","fars","w"])(O_nearest_of:‹1› "nearest_of" ["levels","number","fars"] (spNearL K))(O_top_of:‹1› "top_of" ["levels","place"] (spTop K)):‹2› "is_bunched" ["levels","fars","w"] (spBunched K):=by
 exists 1,sc_is_bunched;obtain⟨n,ls,lv,l,DD,x,rfl,lvk,hl,lD,hx,q⟩:=h;have atx:atI (DD.map ov) (x:Int)=some (ov (Far.get DD x)):=bP (uad _) (by rw[v5];exact dR (by left));refine⟨_,(aF (aT (aR eM (aK aW (pv 1) (pv 2) (λ _ _=>rfl)) bD (nomark _)) (aE (aH bV)) aS) (aF (aQ (i:=3) nd rfl (v6 rfl) (aG O_nearest_of hr rfl (aA (pv 0) (aA (aL bR (aG O_top_of hr rfl (aA (pv 0) (aA (pv 2) aB))) aC) (aA (pv 1) aB))))) (aE (aH (iG (bC eM (pv 3) bD (nomark _)) (cJ (bC cP (aK aW (pv 1) (pv 2) (λ _ _=>rfl)) (pv 3) (nomark _)))))))),?_⟩;refine⟨K,l,Y,SqL.of hl,atx,X,?_⟩;cases e:Far.get DD x with
 | none =>
  refine iteT ?_;have q0:=q H (Same.refl H);rw[zch e] at q0;exact q0
 | some y =>
  rw[e] at atx;refine iteF ?_;refine⟨K,A,n,ls,lv,x,rfl,lvk,hx,λ b H1 s1 tb=>?_⟩;refine⟨M,A,n,ls,lv,b+1,l,DD,rfl,⟨Is.same s1 _ lvk.1,lvk.2⟩,tb.1,s1 _ _ hl,lD,λ o H2 s2 nr=>?_⟩;have q0:=q H2 (s1.trans s2);rw[ze3 tb nr e] at q0;refine⟨E,A,?_⟩;cases o with
  | none=>exact iteT q0
  | some z=>exact iteF ⟨K,l,Y,SqL.of (s2 _ _ (s1 _ _ hl)),atx,A,M,q0⟩
theorem vZ (T:Bi mg)(D:DefOk K mg "web_fars" s_web_fars ["web","place"])(O_whole:‹3› "whole" ["web"] (spWhole K))(O_fars_from:‹3› "fars_from" ["web","keep","root"] (spFars K)):‹4› "web_fars" ["web","place"] (spWebFars K):=by
 exists 3,sc_web_fars;obtain⟨n,ts,wv,r,rfl,isw,ok,r0,r1,q⟩:=h;refine⟨_,(aE (aH (aG O_fars_from hr rfl (aA (pv 0) (aA (aG O_whole hr rfl (aA (pv 0) aB)) (aA (pv 1) aB)))))),?_⟩;refine⟨K,n,ts,wv,rfl,isw,ok.few,λ l H1 s1 f1 e1=>?_⟩;refine⟨A,n,ts,d7 ts.length,wv,.ref l,r,rfl,⟨Is.same s1 _ isw,ok,⟨l,A,e1,by rw[bM];exact IsAll.ints _⟩,⟨ubr,λ k hk=>o9.mp hk⟩⟩,r0,r1,λ l2 DD H2 s2 f2 e2 lD hD=>?_⟩;exact q l2 DD H2 (s1.trans s2) (s1.free f2) e2 ⟨lD,hD⟩
theorem zbm (T:Bi mg)(D:DefOk K mg "bunch" s_bunch ["web","levels","v"])(O_need_levels:‹6› "need_levels" ["web","levels"] (spNeedLev K))(O_web_fars:‹6› "web_fars" ["web","place"] (spWebFars K))(O_is_bunched:‹6› "is_bunched" ["levels","fars","w"] (spBunched K)):‹7› "bunch" ["web","levels","v"] (spBunch K):=by
 exists 6,sc_bunch;obtain⟨n,ts,ls,wv,lv,r,rfl,isw,ok,lvk,r0,r1,q⟩:=h;have n1:=ok.n1;have n24:=ok.n24;refine⟨_,(aF (bK (aG O_need_levels hr rfl (aA (pv 0) (aA (pv 1) aB)))) (aF (aQ (i:=3) nd rfl (ufn rfl) (aG O_web_fars hr rfl (aA (pv 0) (aA (pv 2) aB)))) (aE (aH (bB cV rfl T.z_tuple (by symm) (aA (bE (N:=["web","levels","v","fars"]) (sc0:=defScope s_bunch) (own:=["w","length"]) (fr:=["levels","fars"]) (js:=[1,3]) rfl (fK false rfl T.z_enumerate (aA (pv 3) aB)) (λ _ _ _ _=>(dL (n:=2) rfl (aU (aN (i:=0) (by show uan [("w":Str),("length":Str),("levels":Str),("fars":Str)];decide +kernel) rfl (v6 rfl)) (aU (aN (i:=1) (by show uan [("w":Str),("length":Str),("levels":Str),("fars":Str)];decide +kernel) rfl (v6 rfl)) bT)))) (λ _ _ _ _=>(dD (bN (aG O_is_bunched hr rfl (aA (pv 2) (aA (pv 3) (aA (pv 0) aB))))))) (λ _ _ _ _=>(aZ (aA (pv 0) (aA (pv 1) aB))))) aB)))))),?_⟩;refine⟨K,n,ts,ls,wv,lv,rfl,isw,n1,lvk,λ H1 s1=>?_⟩;refine⟨K,n,ts,wv,r,rfl,Is.same s1 _ isw,ok,r0,r1,λ l DD H2 s2 f2 e2 F=>?_⟩;have s12:=s1.trans s2;have lm:(DD.map ov).length=n.toNat:=by rw[i5];exact F.1
 refine⟨A,l,rfl,⟨_,SqX.of (t:=false) e2⟩,?_⟩;refine xT (K':=K) e2 (λ σ'=>∃ o1 o2,σ'=[o1,o2,some lv,some (.ref l)]) (bunSel ls DD) xZ (by left) (by exact⟨none,none,rfl⟩) (λ i y T' σ' H' hy s3 hT sg C L hC hL=>?_) (λ L ys H3 hL s3 hH hly ia=>?_)
 ·obtain⟨o1,o2,rfl⟩:=sg;have hi:i<DD.length:=by have:=(j6.mp hy).1;rw[i5] at this;exact this
  rw[dR hi] at hy;cases hy;have sN:=aP (o:=.tup [.int (i:Nat),ov (Far.get DD i)]) hT;have sA:=s12.trans (s3.trans sN);refine⟨T',A,SqT.of aM,Z,A,M,?_⟩;refine⟨K,A,n.toNat,ls,lv,l,DD,i,rfl,⟨Is.same sA _ lvk.1,lvk.2⟩,sN _ _ (s3 _ _ e2),F.1,by have:=F.1;left,λ H4 s4=>⟨_,rfl,ite2 (λ c=>?_) (λ c=>?_)⟩⟩
  ·obtain⟨x,ex,_⟩:=bunB_iff.mp c;refine⟨K,(by show 2<=1000;decide),λ t H5 s5 f5 e5=>hC _ _ (bunD DD i) _ ⟨_,_,rfl⟩ (sN.trans (s4.trans s5)) (by unfold bunSel;rw[ug7 c]) ?_⟩;rw[ex] at e5;unfold bunD;rw[ex];exact⟨t,A,e5,IsAll.ints _⟩
  ·exact hL _ _ ⟨_,A⟩ (sN.trans s4) (by unfold bunSel;rw[ug8 c])
 ·rw[lm] at ia;exact⟨L,A,hH,λ t H4 s4 f4 e4=>q t ys DD H4 (s12.trans (s3.trans s4)) F e4 (IsAll.same s4 _ ia)⟩
theorem tH (T:Bi mg)(D:DefOk K mg "_law_levels" s__law_levels ["pot","n"])(O__law_take:‹1› "_law_take" ["pot","many"] spTake):‹2› "_law_levels" ["pot","n"] (spLevels K):=by
 exists 1,sc__law_levels;obtain⟨p,n,rfl,hp,n1,n24,q⟩:=h;refine⟨_,(aF (aQ (i:=2) nd rfl (v6 rfl) (cH (aA (bB (fZ rfl) rfl T.z_tuple (by symm) (aA (bB eW rfl T.z_range (by symm) (aA (pv 1) aB)) aB)) aB))) (aF (cC PassesOwn.never rfl (cS rfl T.z_range (aA (aG O__law_take hr rfl (aA (pv 0) (aA aC aB))) aB)) (aN (i:=3) nd rfl (v6 rfl)) (aF (aQ (i:=4) nd rfl (ufn rfl) (aG O__law_take hr rfl (aA (pv 0) (aA aC aB)))) (aE (bK (cF uai ub9 ub7 gC (pv 2) (aA (bB cV rfl T.z_tuple (by symm) (aA (bE (N:=["pot","n","found","turn","share"]) (sc0:=defScope s__law_levels) (own:=["place"]) (fr:=["pot","share"]) (js:=[0,4]) rfl (bW (aK aW (pv 2) (eR eK aC) (λ _ _=>rfl))) (λ _ _ _ _=>(aN (i:=0) (by show uan [("place":Str),("pot":Str),("share":Str)];decide +kernel) rfl (v6 rfl))) (λ _ _ _ _=>(dD (aR cP (aG O__law_take hr rfl (aA (pv 1) (aA aC aB))) (pv 2) (nomark _)))) (λ _ _ _ _=>(pv 0))) aB)) aB)))))) (aE (aH (bB cV rfl T.z_tuple (by symm) (aA (pv 2) aB)))))),?_⟩;refine⟨A,n,rfl,λ rg hrg=>?_⟩;refine⟨rg,A,aM,by left,by left,λ t0 J1 S1 f1 e1=>?_⟩;have S01:=(aP (o:=.rng 0 n) hrg).trans S1;refine⟨(by show 1<=1000;decide),λ lf J2 S2 f2 e2=>?_⟩;have S02:=S01.trans S2;have ff:H lf=none:=S01.free f2;have p2:=hp.same S02;obtain⟨xsp,epp⟩:=hp.lst;have nlp:lf≠p:=λ z=>by rw[z,S01 _ _ epp] at f2;cases f2
 have lo0:LevOk n.toNat [d7 n.toNat]:=by
  have cs:∀ i,lvl [d7 n.toNat] i=if i=0 then d7 n.toNat else []:=λ i=>by
   cases i with
   | zero=>rfl
   | succ j=>exact fM (by show 1<=j+1;left)
  refine⟨i6 _,by show 1<=6;decide,rfl,λ i=>?_,λ i x hx=>?_,λ i x hx=>?_⟩
  ·rw[cs];split
   ·exact ubr
   ·exact ueu
  ·rw[cs] at hx;split at hx
   ·exact o9.mp hx
   ·cases hx
  ·rw[cs,ug8 (by left)] at hx;cases hx
 refine⟨A,p,6,rfl,p2,by decide,by decide,λ r H3 r0 r1 b3 p3=>?_⟩;refine⟨r,rfl,by left,by left,?_⟩;have B3:But p H H3:=(Same.but S02).trans b3;refine dJ (n:=r.toNat) (λ i σ J=>∃ (ls:List (List Nat))(ys:List V)(y3 y4:Option V),σ=[some (.ref p),some (.int n),some (.ref lf),y3,y4]/\But p H J/\Pot J p/\J lf=some (.lst ys)/\ls.length<=i+1/\LevOk n.toNat ls/\IsAll K J (ls.map pieceD) ys) ⟨[d7 n.toNat],[.ref t0],none,none,rfl,B3,p3,b3 _ _ nlp e2,i6 _,lo0,⟨_,_,rfl,oJ (b3 _ _ (λ z=>by rw[z] at e1;have:=hp.same S01;obtain⟨zs,ez⟩:=this.lst;rw[ez] at e1;cases e1) (S2 _ _ e1)),rfl⟩⟩ (λ i σ J hi h=>?_) (λ σ J h=>?_)
 ·obtain⟨ls,ys,y3,y4,rfl,bJ,pJ,hf,lls,lo,ia⟩:=h;have lys:=ia.length;rw[i5] at lys;have one:=lo.one;refine⟨A,p,5,rfl,pJ,by decide,by decide,λ sh J1 sh0 sh1 b1 p1=>?_⟩;have hf1:=b1 _ _ nlp hf;obtain⟨zs,epJ⟩:=pJ.lst;have ia1:=IsAll.but b1 epJ _ (eT ls) ia;obtain⟨x,ex,hx⟩:=IsAll.at_ ia1 (i:=ls.length-1) (d:=pieceD (lvl ls (ls.length-1))) (by rw[l7,c7 (by left)];unfold lvl;rw[f9,c7 (by left)];rfl);obtain⟨t,rfl,ht⟩:=lJ hx;have atL:atI ys (-1)=some (.ref t):=by
   unfold atI ixN;rw[ug8 (by decide),ug7 (by left)];show ys[(-1+(ys.length:Int)).toNat]?=some (.ref t);rw[show (-1+(ys.length:Int)).toNat=ls.length-1 by left];exact ex
  have lenN:(natV (lvl ls (ls.length-1))).length=(lvl ls (ls.length-1)).length:=by unfold natV;rw[i5]
  have len24:=lo.len (ls.length-1);refine⟨A,.inl ⟨Z,SqL.of hf1⟩,K,lf,Y,SqL.of hf1,atL,t,rfl,⟨_,SqT.of ht⟩,?_⟩;intro L hL;have nLp:L≠p:=λ z=>by obtain⟨zz,ez⟩:=p1.lst;rw[z,ez] at hL;cases hL
  refine⟨λ j m zs σ' H'=>m=(lvl ls (ls.length-1)).length-j/\j<=(lvl ls (ls.length-1)).length/\(∃ o,σ'=[o,some (.ref p),some (.int sh)])/\But p J1 H'/\Pot H' p/\∃ ks:List Nat,zs=natV ks/\ks.length<=j/\ks.Pairwise (·<·)/\∀ k∈ks,k∈(lvl ls (ls.length-1)).take j,⟨_,rfl,x8 _,⟨none,rfl⟩,But.new hL,?_,[],rfl,i6 _,.nil,λ k hk=>by cases hk⟩,?_⟩
  ·obtain⟨a',b',e',z⟩:=p1;exact⟨a',b',by rw[aJ nLp.symm];exact e',z⟩
  rintro j m zs σ' H' ⟨rfl,hj,⟨o,rfl⟩,bt,pt,ks,rfl,lks,ri,sub⟩ hd;have htH:H' t=some (.tup (natV (lvl ls (ls.length-1)))):=bt _ _ (λ z=>by obtain⟨zz,ez⟩:=p1.lst;rw[z,ez] at ht;cases ht) ht;by_cases hlt:j<(lvl ls (ls.length-1)).length
  ·refine .inr ⟨⟨V,SqT.of htH,oF (c7 hlt)⟩,λ x H2 hy=>?_⟩;obtain⟨rfl,hy⟩:=hy;have ey:=hy _ (SqT.of htH);rw[oF (c7 hlt)] at ey;cases ey;obtain⟨k,ek⟩:∃ k,k=(lvl ls (ls.length-1))[j]:=⟨A⟩;have hk:(lvl ls (ls.length-1))[j]?=some k:=by rw[c7 hlt,ek]
   rw[← ek];refine⟨A,p,4,rfl,pt,by decide,by decide,λ r2 J5 _ _ b5 p5=>⟨_,rfl,_,_,rfl,rfl,_,rfl,ite2 (λ c=>?_) (λ c=>?_)⟩⟩
   ·refine⟨A,b5 _ _ nLp hd,?_,(lvl ls (ls.length-1)).length-(j+1),by left,rfl,hlt,⟨A⟩,λ b o hb e=>?_,?_,ks++[k],?_,?_,?_,?_⟩
    ·unfold natV;rw[i5];exact ubn (by left:ks.length<=1000) (by decide)
    ·rw[aJ (aY e hL)];exact b5 _ _ hb (bt _ _ hb e)
    ·obtain⟨a',b',e',z⟩:=p5;exact⟨a',b',by rw[aJ nLp.symm];exact e',z⟩
    ·unfold natV;rw[ub2];rfl
    ·rw[i8,k9];left
    ·refine ucb.mpr ⟨ri,ug0 _ _,λ x hx y hy=>?_⟩;rw[l8.mp hy];obtain⟨i',hi',e'⟩:=List.mem_take_iff_getElem.mp (sub x hx);have:=ub5.mp (lo.rise (ls.length-1)) i' j (by left) hlt (by left);rw[← e',ek];exact this
    ·intro x hx;rw[iR hk];rcases w8.mp hx with z | z
     ·exact ubg _ (sub x z)
     ·exact r6 _ z
   ·refine⟨b5 _ _ nLp hd,(lvl ls (ls.length-1)).length-(j+1),by left,rfl,hlt,⟨A⟩,bt.trans b5,p5,ks,rfl,by left,ri,λ x hx=>?_⟩;rw[iR hk];exact ubg _ (sub x hx)
  ·have e:j=(lvl ls (ls.length-1)).length:=by left
   subst e;rw[ufy] at sub;refine .inl ⟨⟨_,SqT.of htH,by left⟩,L,A,hd,λ tk J6 S6 f6 e6=>?_⟩;have hf6:=S6 _ _ (bt _ _ nlp hf1);refine⟨lf,M,hf6,by left,λ J7 b7 e7=>?_⟩;have B17:∀ c o,c≠p->c≠lf->J c=some o->J7 c=some o:=λ c o h1 h2 h3=>b7 _ _ h2 (S6 _ _ (bt _ _ h1 (b1 _ _ h1 h3)));obtain⟨zz1,ez1⟩:=p1.lst;have iaJ6:=IsAll.same S6 _ (IsAll.but bt ez1 _ (eT ls) ia1);refine⟨ls++[ks],ys++[.ref tk],_,A,λ c o h1 h3=>b7 _ _ (aY h3 ff) (S6 _ _ (bt _ _ h1 (b1 _ _ h1 (bJ _ _ h1 h3)))),?_,e7,by rw[i8,k9];left,?_,?_⟩
   ·obtain⟨a',b',e',z⟩:=pt;exact⟨a',b',b7 _ _ nlp.symm (S6 _ _ e'),z⟩
   ·have cs:∀ i,lvl (ls++[ks]) i=if i<ls.length then lvl ls i else if i=ls.length then ks else []:=λ i=>by
     unfold lvl;rw[f9,f9];rcases ufu i ls.length with z | z | z
     ·rw[ug7 z,ubd z]
     ·rw[ug8 (by left),ug7 z,uat (by left),show i-ls.length=0 by left];rfl
     ·rw[ug8 (by left),ug8 (by left),x9 (by rw[i8,k9];left)];rfl
    refine⟨by rw[i8];left,by rw[i8,k9];left,by rw[cs,ug7 (by left)];exact lo.first,λ i=>?_,λ i x hx=>?_,λ i x hx=>?_⟩
    ·rw[cs];split
     ·exact lo.rise i
     ·split
      ·exact ri
      ·exact .nil
    ·rw[cs] at hx;split at hx
     ·exact lo.inn i x hx
     ·split at hx
      ·exact lo.inn _ x (sub x hx)
      ·cases hx
    ·rw[cs] at hx ⊢;split at hx
     ·rw[ug7 (by left)];exact lo.down i x hx
     ·split at hx
      ·rw[ug7 (by left),show i=ls.length-1 by left];exact sub x hx
      ·cases hx
   ·rw[ub2];exact IsAll.snoc (oJ (b7 _ _ (λ z=>by rw[z,hf6] at e6;cases e6) e6)) (IsAll.but b7 hf6 _ (eT ls) iaJ6)
 ·obtain⟨ls,ys,y3,y4,rfl,bJ,pJ,hf,lls,lo,ia⟩:=h;refine⟨A,lf,A,hf,λ t J2 S2 f2 e2=>q _ J2 ls (bJ.trans (Same.but S2)) (pJ.same S2) ⟨⟨t,_,rfl,e2,IsAll.same S2 _ ia⟩,lo,by left⟩⟩
theorem wA (T:Bi mg)(D:DefOk K mg "pivot_by" s_pivot_by ["levels","i","fars"])(O_top_of:‹1› "top_of" ["levels","place"] (spTop K)):‹2› "pivot_by" ["levels","i","fars"] (spPivBy K):=by
 exists 1,sc_pivot_by;obtain⟨n,ls,lv,m,l,DD,rfl,lvk,hm,hl,lD,q⟩:=h;obtain⟨p,vs,rfl,hp,hlv,hat⟩:=fF lvk.1;have lo:=lvk.2.1;have n24:=lvk.2.2;obtain⟨t,et,ht⟩:=hat m hm;have len:=lo.len m;have lenN:(natV (lvl ls m)).length=(lvl ls m).length:=by unfold natV;rw[i5]
 refine⟨_,(aF (lS (i:=3) (N:=["levels","i","fars","near"]) (sc0:=defScope s_pivot_by) (own:=["place"]) (fr:=["fars","levels"]) (js:=[2,0]) rfl (bW (aK aV (pv 0) (pv 1) (λ _ _=>rfl))) (λ _ _ _ _=>(aN (i:=0) (by show uan [("place":Str),("fars":Str),("levels":Str)];decide +kernel) rfl (v6 rfl))) (λ _ _ _ _=>(dD (aR jR (aK dC (pv 1) (pv 0) (λ _ _=>rfl)) bD (nomark _)))) (λ _ _ _ _=>(aZ (aA (aK dC (pv 1) (pv 0) (λ _ _=>rfl)) (aA (aL dA aC (aG O_top_of hr rfl (aA (pv 2) (aA (pv 0) aB)))) (aA (pv 0) aB))))) nd rfl (v6 rfl)) (aF (aT (aR bA (aO bO rfl T.z_len (by symm) (aA (pv 3) aB)) aC (nomark _)) (aE (aH bD)) aS) (aE (aH (aK aV (aO (mF rfl (ubn (Nat.add_le_add_left (by decide:1<=64) _) hr.units)) rfl T.z_min (by symm) (aA (pv 3) aB)) aC (λ _ _=>rfl)))))),?_⟩;refine⟨K,p,Y,SqT.of hp,bP (uad _) (by rw[v5];exact et),t,rfl,⟨_,SqT.of ht⟩,?_⟩;refine xS (K':=K) ht (λ σ'=>∃ o,σ'=[o,some (.ref l),some (.ref p)]) (pivSel ls DD (lvl ls m)) xK (by left) (by exact⟨none,rfl⟩) (λ i y σ' H' hy s2 sg C L hC hL=>?_) (λ L ys H2 hL s2 hH hly ia=>?_)
 ·obtain⟨o,rfl⟩:=sg;obtain⟨k,hk,rfl⟩:=eN hy;have hkn:=lo.inn m k (uap hk);have ek:(lvl ls m).getD i 0=k:=by rw[f9,hk];rfl
  have atk:atI (DD.map ov) (k:Int)=some (ov (Far.get DD k)):=bP (uad _) (by rw[v5];exact dR (by left));refine⟨K,l,Y,SqL.of (s2 _ _ hl),atk,X,?_⟩;cases e:Far.get DD k with
  | none=>exact iteF (hL _ _ ⟨A⟩ (Same.refl _) (by unfold pivSel;rw[ek,e];rfl))
  | some x =>
   rw[e] at atk;refine iteT ⟨K,l,Y,SqL.of (s2 _ _ hl),atk,K,n,ls,_,k,rfl,⟨Is.same s2 _ lvk.1,lvk.2⟩,hkn,λ b H3 s3 tb=>?_⟩;refine⟨M,A,(by show 3<=1000;decide),λ t3 H4 s4 f4 e4=>hC _ _ (tupI (pivK ls DD k)) _ ⟨_,rfl⟩ (s3.trans s4) (by unfold pivSel;rw[ek,e];rfl) ?_⟩;unfold tupI pivK;rw[e,fJ tb];exact⟨t3,A,e4,IsAll.ints _⟩
 ·rw[lenN,xL] at ia;have ly:=ia.length;rw[i5] at ly;refine⟨A,L,A,.inl (SqL.of hH),X,?_⟩;by_cases c:ys=[]
  ·subst c;refine iteT ?_;exact q none H2 s2 (zeg (ucc.mp ly.symm))
  ·have lpos:0<ys.length:=udj.mpr c;rw[ug5 (p:=V.int ((ys.length:Nat):Int)=V.int 0) (λ z=>by injection z with z;left)];refine iteF ?_;refine⟨A,L,ys,pivKs ls DD (lvl ls m),rfl,hH,c,λ i v e=>jN ia e,λ b v hv top=>?_⟩;have hb:b<ys.length:=(j6.mp hv).1;obtain⟨pp,ep,piv⟩:=zef (n:=n) (b:=b) (by left) λ i hi=>top i (by left);obtain⟨ta,rfl,hta⟩:=jN ia hv;rw[ep] at hta;exact⟨ta,Y,SqT.of hta,rfl,q (some pp) H2 s2 piv⟩
theorem zbk (T:Bi mg)(D:DefOk K mg "pivot" s_pivot ["web","levels","i","v"])(O_need_levels:‹6› "need_levels" ["web","levels"] (spNeedLev K))(O_web_fars:‹6› "web_fars" ["web","place"] (spWebFars K))(O_pivot_by:‹6› "pivot_by" ["levels","i","fars"] (spPivBy K)):‹7› "pivot" ["web","levels","i","v"] (spPivot K):=by
 exists 6,sc_pivot;obtain⟨n,ts,ls,wv,lv,m,r,rfl,isw,ok,lvk,hm,r0,r1,q⟩:=h;refine⟨_,(aF (bK (aG O_need_levels hr rfl (aA (pv 0) (aA (pv 1) aB)))) (aE (aH (aG O_pivot_by hr rfl (aA (pv 1) (aA (pv 2) (aA (aG O_web_fars hr rfl (aA (pv 0) (aA (pv 3) aB))) aB))))))),?_⟩;refine⟨K,n,ts,ls,wv,lv,rfl,isw,ok.n1,lvk,λ H1 s1=>?_⟩;refine⟨K,K,n,ts,wv,r,rfl,Is.same s1 _ isw,ok,r0,r1,λ l DD H2 s2 f2 e2 F=>?_⟩;have s12:=s1.trans s2;exact⟨n.toNat,ls,lv,m,l,DD,rfl,⟨Is.same s12 _ lvk.1,lvk.2⟩,hm,e2,F.1,λ o H3 s3 piv=>q o DD H3 (s12.trans s3) F piv⟩
theorem zbl (T:Bi mg)(D:DefOk K mg "climb" s_climb ["web","levels","u","v"])(O_need_levels:‹6› "need_levels" ["web","levels"] (spNeedLev K))(O_web_fars:‹6› "web_fars" ["web","place"] (spWebFars K))(O_is_bunched:‹6› "is_bunched" ["levels","fars","w"] (spBunched K))(O_top_of:‹6› "top_of" ["levels","place"] (spTop K))(O_pivot_by:‹6› "pivot_by" ["levels","i","fars"] (spPivBy K)):‹7› "climb" ["web","levels","u","v"] (spClimb K):=by
 exists 6,sc_climb;obtain⟨n,ts,ls,wv,lv,u,v,rfl,isw,ok,lvk,un,vn,q⟩:=h;have lo:=lvk.2.1;have six:=lo.six;refine⟨_,(aF (bK (aG O_need_levels hr rfl (aA (pv 0) (aA (pv 1) aB)))) (aF (aQ (i:=4) nd rfl (v6 rfl) (aG O_web_fars hr rfl (aA (pv 0) (aA (pv 2) aB)))) (aF (aQ (i:=5) nd rfl (v6 rfl) (aG O_web_fars hr rfl (aA (pv 0) (aA (pv 3) aB)))) (aF (aT (aR eM (aK aW (pv 4) (pv 3) (λ _ _=>rfl)) bD (nomark _)) (aE (aH bD)) aS) (aF (aQ (i:=6) nd rfl (v6 rfl) (cH (aA (aZ (aA (pv 2) (aA (pv 2) (aA (pv 3) (aA aC aB))))) aB))) (aF (oB PassesOwn.never (bU (bN (aG O_is_bunched hr rfl (aA (pv 1) (aA (pv 5) (aA (aK aV (aK aW (pv 6) (eR eK aC) (λ _ _=>rfl)) aC (λ _ _=>rfl)) aB)))))) (aF (cN (aK aW (pv 6) (eR eK aC) (λ _ _=>rfl)) (cZ (n:=4) rfl (aU (aN (i:=7) nd rfl (v6 rfl)) (aU (aN (i:=8) nd rfl (v6 rfl)) (aU (aN (i:=9) nd rfl (v6 rfl)) (aU (aN (i:=10) nd rfl (v6 rfl)) bT)))))) (aF (aQ (i:=7) nd rfl (v6 rfl) (aG O_pivot_by hr rfl (aA (pv 1) (aA (aL bR (aG O_top_of hr rfl (aA (pv 1) (aA (pv 7) aB))) aC) (aA (pv 5) aB))))) (aF (bK (cF uai ub9 ub7 gC (pv 6) (aA (aZ (aA (pv 7) (aA (pv 9) (aA (pv 8) (aA (aK aW (pv 5) (pv 7) (λ _ _=>rfl)) aB))))) aB))) (aE (zec (i:=4) (j:=5) rfl nd rfl rfl (by decide) rfl rfl (aA (pv 5) (aA (pv 4) aB)) rfl)))))) (aE (aH (bB cV rfl T.z_tuple (by symm) (aA (pv 6) aB)))))))))),?_⟩;refine seqN λ N1 hN1=>?_;refine⟨K,n,ts,ls,wv,lv,rfl,isw,ok.n1,lvk,λ H1 s1=>?_⟩;refine hN1 _ _ (seqN λ N2 hN2=>?_);refine⟨K,n,ts,wv,(u:Int),rfl,Is.same s1 _ isw,ok,by left,by left,λ lh Du H2 s2 f2 e2 Fu=>?_⟩;refine hN2 _ _ (seqN λ N3 hN3=>?_);refine⟨K,n,ts,wv,(v:Int),rfl,Is.same (s1.trans s2) _ isw,ok,by left,by left,λ lt Dv H3 s3 f3 e3 Fv=>?_⟩;rw[v5] at Fu Fv;have s13:=(s1.trans s2).trans s3;have lDu:=Fu.1;have atv:atI (Du.map ov) (v:Int)=some (ov (Far.get Du v)):=bP (uad _) (by rw[v5];exact dR (by left));refine hN3 _ _ (seqN λ N4 hN4=>?_);refine⟨K,lh,Y,SqL.of (s3 _ _ e2),atv,X,?_⟩;cases ed:Far.get Du v with
 | none=>exact iteT (q .non Du Dv H3 s13 Fu Fv (.inl ⟨rfl,ed⟩))
 | some d =>
  refine iteF (hN4 _ _ (seqN λ N5 hN5=>?_));refine⟨K,A,(by show 4<=1000;decide),λ t0 J4 S4 f4 e4=>⟨(by show 1<=1000;decide),λ lo' J5 S5 f5 e5=>?_⟩⟩;have S35:=S4.trans S5;have nh:lh≠lo':=aY (S4 _ _ (s3 _ _ e2)) f5;have nt:lt≠lo':=aY (S4 _ _ e3) f5;refine hN5 _ _ (seqN λ N6 hN6=>?_);refine⟨λ m σ J=>∃ (pre:List (List Int))(w a b:Nat)(Da Db:List (Option Int))(x:Int)(la lb:j8)(ys:List V)(y7 y8 y9 y10:Option V),σ=[some wv,some lv,some (.int (u:Int)),some (.int (v:Int)),some (.ref la),some (.ref lb),some (.ref lo'),y7,y8,y9,y10]/\m=ls.length-pre.length/\Same H J/\J la=some (.lst (Da.map ov))/\J lb=some (.lst (Db.map ov))/\la≠lo'/\lb≠lo'/\J lo'=some (.lst ys)/\IsAll K J ((pre++[[(w:Int),(a:Int),(b:Int),x]]).map tupI) ys/\Clb ts n ls d u v Du Dv pre w a b Da Db x,⟨_,[],u,u,v,Du,Dv,0,lh,lt,_,none,none,none,none,rfl,rfl,s13.trans S35,S35 _ _ (s3 _ _ e2),S35 _ _ e3,nh,nt,e5,⟨_,_,rfl,⟨t0,_,rfl,S5 _ _ e4,IsAll.ints [(u:Int),u,v,0]⟩,rfl⟩,Clb.first ok lo Fu Fv un vn ed⟩,?_⟩;rintro m σ J ⟨pre,w,a,b,Da,Db,x,la,lb,ys,y7,y8,y9,y10,rfl,rfl,sm,ha,hb,na,nb,hl,ia,cl⟩;obtain⟨ly,tr,atr,htr⟩:=zbr ia;have lt':=cl.lt lo;have wn:=cl.cs.wn;have lDb:=cl.cs.fb.1;refine⟨K,K,lo',Y,SqL.of hl,atr,tr,Y,SqT.of htr,rfl,n.toNat,ls,lv,lb,Db,w,rfl,⟨Is.same sm _ lvk.1,lvk.2⟩,hb,lDb,wn,λ J1 S1=>⟨_,rfl,?_⟩⟩;have sm1:=sm.trans S1;cases eb:bunB ls Db w with
  | true =>
   obtain⟨er,ro⟩:=cl.done lo eb;refine iteF (hN6 _ _ ?_);refine⟨A,lo',A,S1 _ _ hl,λ t J2 S2 f2' e2'=>?_⟩;refine q _ Du Dv J2 (sm1.trans S2) Fu Fv (.inr ⟨t,ys,d,rfl,ed,e2',?_,ro⟩);rw[← er];exact IsAll.same S2 _ (IsAll.same S1 _ ia)
  | false =>
   refine iteT ⟨_,λ _ _ h=>h,?_⟩;refine seqB λ N C M hN hC hM=>?_;refine⟨K,lo',Y,SqL.of (S1 _ _ hl),atr,tr,A,SqT.of (S1 _ _ htr),Z,A,_,A,_,A,M,?_⟩;refine hM _ _ (seqN λ M2 hM2=>?_);refine⟨K,A,n.toNat,ls,lv,w,rfl,⟨Is.same sm1 _ lvk.1,lvk.2⟩,wn,λ bt J2 S2 tb=>?_⟩;have et:=fJ tb;obtain⟨ml,_⟩:=cl.cs.more lo eb;rw[et] at ml;have S12:=S1.trans S2;refine⟨M,A,n.toNat,ls,lv,bt+1,lb,Db,rfl,⟨Is.same (sm1.trans S2) _ lvk.1,lvk.2⟩,ml,S12 _ _ hb,lDb,λ o J3 S3 pv=>?_⟩;have S13:=S12.trans S3;rw[← et] at pv;obtain⟨p,x',rfl,pn,ex,cl'⟩:=cl.next ok lo eb pv;have atp:atI (Db.map ov) (p:Int)=some (ov (some x')):=by rw[← ex];exact bP (uad _) (by rw[v5];exact dR (by left))
   refine hM2 _ _ (seqN λ M3 hM3=>?_);refine⟨A,.inl ⟨Z,SqL.of (S13 _ _ hl)⟩,K,K,A,lb,Y,SqL.of (S13 _ _ hb),atp,(by show 4<=1000;decide),λ t6 J6 S6 f6 e6=>?_⟩;have S16:=S13.trans S6;refine⟨lo',M,S16 _ _ hl,by left,λ J7 b7 e7=>hM3 _ _ ⟨_,rfl,_,rfl,_,_,rfl,hN _ _ ?_⟩⟩;refine⟨ls.length-(pre++[[(w:Int),(a:Int),(b:Int),x]]).length,?_,pre++[[(w:Int),(a:Int),(b:Int),x]],p,b,a,Db,Da,x',lb,la,V,Y,λ c o z=>b7 _ _ (aY z ?_) (S16 _ _ (sm _ _ z)),b7 _ _ nb (S16 _ _ hb),b7 _ _ na (S16 _ _ ha),nb,na,e7,?_,cl'⟩
   ·rw[i8,k9];left
   ·exact s13.free (S4.free f5)
   ·rw[ub2];exact IsAll.snoc (Is.but b7 (S16 _ _ hl) _ (iX _) ⟨t6,A,e6,IsAll.ints [(p:Int),b,a,x']⟩) (IsAll.but b7 (S16 _ _ hl) _ (lH _) (IsAll.same S16 _ ia))
theorem uB (T:Bi mg)(D:DefOk K mg "tree_ties" s_tree_ties ["web","tree"])(O_tie_between:‹1› "tie_between" ["web","a","b"] (spTB K)):‹2› "tree_ties" ["web","tree"] (spTTG K):=by
 exists 1,sc_tree_ties;obtain⟨n,ts,wv,t,F,rfl,isw,few60,ht,lF,hF,q⟩:=h;refine⟨_,(aE (aH (bE (N:=["web","tree"]) (sc0:=defScope s_tree_ties) (own:=["place","ahead"]) (fr:=["web"]) (js:=[0]) rfl (fK true rfl T.z_enumerate (aA (pv 1) aB)) (λ _ _ _ _=>(dL (n:=2) rfl (aU (aN (i:=0) (by show uan [("place":Str),("ahead":Str),("web":Str)];decide +kernel) rfl (v6 rfl)) (aU (aN (i:=1) (by show uan [("place":Str),("ahead":Str),("web":Str)];decide +kernel) rfl (v6 rfl)) bT)))) (λ _ _ _ _=>(dD (aR jR (pv 1) bD (nomark _)))) (λ _ _ _ _=>(aG O_tie_between hr rfl (aA (pv 2) (aA (pv 0) (aA (pv 1) aB)))))))),?_⟩;refine⟨A,t,rfl,⟨_,SqX.of (t:=true) ht⟩,?_⟩;refine nA (t:=true) ht (λ σ'=>∃ o1 o2,σ'=[o1,o2,some wv]) (λ v=>((Far.get F v).bind λ u=>tbN ts v u).map λ k:Nat=>V.int (k:Int)) (by rw[i5];left) (by exact⟨none,none,rfl⟩) (λ i x U σ' H' hx s2 hU sg C L hC hL=>?_) (λ L J hL S hH=>?_)
 ·obtain⟨o1,o2,rfl⟩:=sg;have hi:i<F.length:=by have:=(j6.mp hx).1;rw[i5] at this;exact this
  rw[rM hi] at hx;cases hx;refine⟨U,A,SqT.of aM,Z,A,M,?_⟩;refine⟨A,?_⟩;have SU:=aP (H:=H') (o:=.tup [.int (i:Nat),oa (Far.get F i)]) hU;cases e:Far.get F i with
  | none =>
   exact⟨X,iteF (hL _ _ ⟨_,A⟩ (by rw[e] at SU;exact SU) (by rw[e];rfl))⟩
  | some u =>
   obtain⟨k,tb⟩:=hF i u e;rw[e] at SU;refine⟨X,iteT ⟨K,A,n,ts,wv,i,u,rfl,Is.same (s2.trans SU) _ isw,few60,λ H5 s5=>?_⟩⟩;rw[tb];exact hC _ _ _ ⟨_,A⟩ (SU.trans s5) (by rw[e];show (tbN ts i u).map _=_;rw[tb];rfl)
 ·refine q L J S hL ?_;rw[hH,i5];unfold natV;rw[ufe]
theorem uG (T:Bi mg)(D:DefOk K mg "bunches_of" s_bunches_of ["web","levels"])(O_bunch:‹7› "bunch" ["web","levels","v"] (spBunch K)):‹8› "bunches_of" ["web","levels"] (spBunchesF K):=by
 exists 7,sc_bunches_of;obtain⟨n,ts,ls,wv,lv,rfl,isw,ok,lvk,q⟩:=h;have n1:=ok.n1;have n24:=ok.n24;obtain⟨g0,g,ws,rfl,hg0,hg,hall,hlw⟩:=bY isw;refine⟨_,(aE (aH (bE (N:=["web","levels"]) (sc0:=defScope s_bunches_of) (own:=["v"]) (fr:=["web","levels"]) (js:=[0,1]) rfl (cS rfl T.z_range (aA (aK aV (pv 0) aC (λ _ _=>rfl)) aB)) (λ _ _ _ _=>(aN (i:=0) (by show uan [("v":Str),("web":Str),("levels":Str)];decide +kernel) rfl (v6 rfl))) (λ _ _ _ _=>bS) (λ _ _ _ _=>(bB (lQ rfl) rfl T.z_dict (by symm) (aA (aG O_bunch hr rfl (aA (pv 1) (aA (pv 2) (aA (pv 0) aB)))) aB)))))),?_⟩;refine⟨A,g0,Y,SqT.of hg0,rfl,n,rfl,by left,by left,?_⟩;refine wO (n:=n.toNat) (lo:=0) (λ σ'=>∃ o,σ'=[o,some (.ref g0),some lv]) (λ i v J=>∃ d o,v=.ref d/\J d=some (.frz o (.dK (bkv n.toNat ts ls i)))) (by left) (by exact⟨none,rfl⟩) (λ i v H H' k h=>?_) (λ i σ' H' hi s2 sg C hC=>?_) (λ L ys J hL S hH hly hys=>?_)
 ·obtain⟨d,o,e1,e2⟩:=h;exact⟨d,o,e1,k _ _ (λ xs z=>by cases z) e2⟩
 ·obtain⟨o,rfl⟩:=sg;rw[show (0+(i:Int))=(i:Int) by left];refine⟨K,A,n,ts,ls,_,lv,(i:Int),rfl,Is.same s2 _ isw,ok,⟨Is.same s2 _ lvk.1,lvk.2⟩,by left,by left,λ t ys D' J1 S1 F e1 ia=>?_⟩;rw[v5] at F;rw[ze0 ok F,zaf] at ia;have hl:=ia.length;rw[i5] at hl;refine⟨t,ys,bkI n.toNat ts ls i,rfl,e1,by unfold bkI bnL clB;rw[i5];exact hl,λ j y hy=>?_,zag _ _ _ _,λ l o J2 S2 f2 e2=>hC _ _ _ ⟨_,rfl⟩ (S1.trans S2) ⟨l,o,rfl,e2⟩⟩;obtain⟨d,hd,ix⟩:=ia.get' hy;rw[l7] at hd;obtain⟨w',hw',rfl⟩:=ubc.mp hd;obtain⟨c,us,rfl,hc,hus⟩:=ix;rw[IsAll.of_ints hus] at hc;exact⟨c,(w':Int),V.int ((Far.get (dFC n.toNat ts i) w').getD 0),by unfold bkI bnL clB;rw[l7,hw'];rfl,rfl,hc⟩
 ·refine q L ys J S hL hH ⟨hly,λ v hv=>?_⟩;have ey:ys[v]?=some ys[v]:=c7 (by left);obtain⟨d,o,e1,e2⟩:=hys v _ ey;rw[e1] at ey;exact⟨d,o,ey,e2⟩
theorem sP (T:Bi mg)(D:DefOk K mg "cluster_tree" s_cluster_tree ["web","bunches","w"])(O_tree_from:‹3› "tree_from" ["web","keep","root"] (spTreeB K))(O_whole:‹3› "whole" ["web"] (spWhole K)):‹4› "cluster_tree" ["web","bunches","w"] (spClTreeF K):=by
 exists 3,sc_cluster_tree;obtain⟨n,ts,ls,wv,lb,ys,w',rfl,isw,ok,hb,bn,hw,q⟩:=h;have hu:(A.deeper (envOfC "cluster_tree" (defScope s_cluster_tree) s.heap.objs.size f cdv)).units+1<cLine:=by have:=hr.units;left
 have few60:=ok.few;have n24:=ok.n24;refine⟨_,(aF (aQ (i:=3) nd rfl (v6 rfl) (aG O_tree_from hr rfl (aA (pv 0) (aA (aG O_whole hr rfl (aA (pv 0) aB)) (aA (pv 2) aB))))) (aE (aH (bB cV rfl T.z_tuple (by symm) (aA (bE (N:=["web","bunches","w","tree"]) (sc0:=defScope s_cluster_tree) (own:=["v","ahead"]) (fr:=["w","bunches"]) (js:=[2,1]) rfl (fK true rfl T.z_enumerate (aA (pv 3) aB)) (λ _ _ _ _=>(dL (n:=2) rfl (aU (aN (i:=0) (by show uan [("v":Str),("ahead":Str),("w":Str),("bunches":Str)];decide +kernel) rfl (v6 rfl)) (aU (aN (i:=1) (by show uan [("v":Str),("ahead":Str),("w":Str),("bunches":Str)];decide +kernel) rfl (v6 rfl)) bT)))) (λ _ _ _ _=>bS) (λ _ _ _ _=>(oC (qN (qR hu (pv 2) (aK dC (pv 3) (pv 0) (λ _ _=>rfl))) (by with_unfolding_all rfl)) (pv 1) bD))) aB))))),?_⟩;refine⟨K,n,ts,wv,rfl,isw,few60,λ lk J1 S1 f1 e1=>?_⟩;have is1:=Is.same S1 _ isw;refine⟨A,n,ts,d7 ts.length,wv,.ref lk,(w':Int),rfl,⟨is1,ok,iU e1,dZ ts⟩,by left,by left,λ t as cs J2 S2 e2 B=>?_⟩;rw[v5] at B;have lA:=B.alen;have ea:=zd1 ok hw B;subst ea;have S12:=S1.trans S2;refine⟨A,t,rfl,⟨_,SqX.of (t:=true) e2⟩,?_⟩;refine xV e2 (λ σ'=>∃ o1 o2,σ'=[o1,o2,some (.int (w':Int)),some (.ref lb)]) (λ i v _=>v=oa (if clB n.toNat ts ls i w'=true then Far.get (trA n ts w') i else none)) (by rw[i5];left) (by exact⟨none,none,rfl⟩) (λ _ _ _ _ _ h=>h) (λ i x U σ' H' hx s3 hU sg C hC=>?_) (λ L zs J3 hL S3 hH hlz hzs=>?_)
 ·obtain⟨o1,o2,rfl⟩:=sg;have hi:i<(trA n ts w').length:=by have:=(j6.mp hx).1;rw[i5] at this;exact this
  rw[rM hi] at hx;cases hx;refine⟨U,A,SqT.of aM,Z,A,M,?_⟩;have SU:=aP (H:=H') (o:=.tup [.int (i:Nat),oa (Far.get (trA n ts w') i)]) hU;have SA:=S12.trans (s3.trans SU);obtain⟨d,od,ed,hd⟩:=bn.2 i (by left);refine⟨K,A,lb,Y,SqL.of (SA _ _ hb),bP (uad _) (by rw[v5];exact ed),d,A,hV (k:=Sum.inl (w':Int)) (SA _ _ hd),A,?_⟩;rw[rH];have eb:decide (w'∈bnL n.toNat ts ls i)=clB n.toNat ts ls i w':=by
   rw[uci,decide_eq_true_eq,bnL_mem];exact⟨λ h=>h.2,λ h=>⟨hw,h⟩⟩
  rw[eb];cases ec:clB n.toNat ts ls i w' with
  | true=>exact iteT ⟨A,hC _ _ _ ⟨_,A⟩ SU (by rw[ec];rfl)⟩
  | false=>exact iteF (hC _ _ _ ⟨_,A⟩ SU (by rw[ec];rfl))
 rw[i5] at hlz;refine⟨L,A,hH,λ t4 J4 S4 f4 e4=>q t4 J4 (S12.trans (S3.trans S4)) ?_⟩;rw[e4];refine congrArg (λ z=>some (HO.tup z)) (ucs λ i=>?_);by_cases hi:i<n.toNat
 ·have e5:zs[i]?=some zs[i]:=c7 (by left);rw[e5,hzs i _ e5];unfold clA;rw[l7,l7,uc0 hi];rfl
 ·rw[x9 (by left),x9 (by rw[i5,jX];left)]
theorem sF (T:Bi mg)(D:DefOk K mg "cluster_trees" s_cluster_trees ["web","bunches"])(O_cluster_tree:‹4› "cluster_tree" ["web","bunches","w"] (spClTreeF K)):‹5› "cluster_trees" ["web","bunches"] (spClTreesF K):=by
 exists 4,sc_cluster_trees;obtain⟨n,ts,ls,wv,lb,ys,rfl,isw,ok,hb,bn,q⟩:=h;have n1:=ok.n1;have n24:=ok.n24;obtain⟨g0,g,ws,rfl,hg0,hg,hall,hlw⟩:=bY isw;refine⟨_,(aE (aH (bB cV rfl T.z_tuple (by symm) (aA (bE (N:=["web","bunches"]) (sc0:=defScope s_cluster_trees) (own:=["w"]) (fr:=["web","bunches"]) (js:=[0,1]) rfl (cS rfl T.z_range (aA (aK aV (pv 0) aC (λ _ _=>rfl)) aB)) (λ _ _ _ _=>(aN (i:=0) (by show uan [("w":Str),("web":Str),("bunches":Str)];decide +kernel) rfl (v6 rfl))) (λ _ _ _ _=>bS) (λ _ _ _ _=>(aZ (aA (pv 0) (aA (aG O_cluster_tree hr rfl (aA (pv 1) (aA (pv 2) (aA (pv 0) aB)))) aB))))) aB)))),?_⟩;refine⟨A,g0,Y,SqT.of hg0,rfl,n,rfl,by left,by left,?_⟩;refine mD (n:=n.toNat) (lo:=0) (λ σ'=>∃ o,σ'=[o,some (.ref g0),some (.ref lb)]) (λ i v J=>∃ c t,v=.ref c/\J c=some (.tup [.int (i:Int),.ref t])/\J t=some (.tup ((clA n ts ls i).map oa))) (by left) (by exact⟨none,rfl⟩) (λ i v H H' k h=>?_) (λ i σ' H' hi s2 sg C hC=>?_) (λ L zs J hL S hH hlz hzs=>?_)
 ·obtain⟨c,t,e1,e2,e3⟩:=h;exact⟨c,t,e1,k _ _ e2,k _ _ e3⟩
 ·obtain⟨o,rfl⟩:=sg;rw[show (0+(i:Int))=(i:Int) by left];refine⟨K,K,n,ts,ls,_,lb,ys,i,rfl,Is.same s2 _ isw,ok,s2 _ _ hb,bn.same s2,hi,λ t J1 S1 e1=>⟨(by show 2<=1000;decide),λ c J2 S2 f2 e2=>hC _ _ _ ⟨_,rfl⟩ (S1.trans S2) ⟨c,t,rfl,e2,S2 _ _ e1⟩⟩⟩
 ·refine⟨L,A,hH,λ t4 J4 S4 f4 e4=>q _ J4 (S.trans S4) (zat e4 hlz λ w' x hx=>?_)⟩;obtain⟨c,t,e1,e2,e3⟩:=hzs w' x hx;exact⟨c,t,e1,S4 _ _ e2,S4 _ _ e3⟩
theorem sD (T:Bi mg)(D:DefOk K mg "ties_of_trees" s_ties_of_trees ["web","trees"])(O_tree_ties:‹3› "tree_ties" ["web","tree"] (spTTG K)):‹4› "ties_of_trees" ["web","trees"] (spTiesTr K):=by
 exists 3,sc_ties_of_trees;obtain⟨n,ts,ls,wv,v,rfl,isw,ok,ist,q⟩:=h;have few60:=ok.few;have n24:=ok.n24;obtain⟨p,xs,rfl,hp,hlx,hxs⟩:=vT ist;refine⟨_,(aF (aQ (i:=2) nd rfl (v6 rfl) (cH aB)) (aF (cC PassesOwn.never rfl (bW (pv 1)) (cZ (n:=2) rfl (aU (aN (i:=3) nd rfl (v6 rfl)) (aU (aN (i:=4) nd rfl (v6 rfl)) bT))) (aE (bK (cF uai ub8 ub6 xN (pv 2) (aA (aG O_tree_ties hr rfl (aA (pv 0) (aA (pv 4) aB))) aB))))) (aE (aH (bB cV rfl T.z_tuple (by symm) (aA (aO (vE rfl) rfl T.z_sorted (by symm) (aA (bB (xX rfl) rfl T.z_set (by symm) (aA (pv 2) aB)) aB)) aB)))))),?_⟩;refine⟨(by show 0<=1000;decide),λ lf J1 S1 f1 e1=>?_⟩;have fl:∀ m,m<=24->((d7 m).flatMap (clT n ts ls)).length<=576:=λ m hm=>by
  have h1:=qA (f:=clT n ts ls) (m:=24) (d7 m) λ r _=>o8 (qH r) (by left);rw[t5] at h1;have h2:=Nat.mul_le_mul_right 24 hm;left
 refine⟨A,p,rfl,⟨_,SqT.of (S1 _ _ hp)⟩,?_⟩;refine gZ (xs:=xs) (λ i σ J=>∃ y3 y4:Option V,σ=[some wv,some (.ref p),some (.ref lf),y3,y4]/\But lf J1 J/\J lf=some (.lst (natV ((d7 i).flatMap (clT n ts ls))))) ⟨none,none,rfl,But.refl,e1⟩ (λ i σ J _ h=>?_) (λ i x σ J hx h=>?_) (λ σ J h=>?_)
 ·obtain⟨y3,y4,rfl,bt,_⟩:=h;exact SqT.of (bt _ _ (aY hp f1) (S1 _ _ hp))
 ·obtain⟨y3,y4,rfl,bt,hf⟩:=h;obtain⟨c,t,rfl,hw,hc,ht⟩:=hxs i x hx;have sm:Same H J:=λ b o e=>bt _ _ (aY e f1) (S1 _ _ e);have is2:=Is.same sm _ isw;refine⟨c,A,SqT.of (sm _ _ hc),Z,A,M,?_⟩;refine⟨A,.inl ⟨Z,SqL.of hf⟩,K,n,ts,wv,t,clA n ts ls i,rfl,is2,few60,sm _ _ ht,by rw[jX];left,λ v u e=>?_,λ l4 J4 S4 f4 e4=>?_⟩
  ·obtain⟨k,e,_⟩:=rG ok hw e;exact⟨k,e⟩
  have l1:=fl i (by left);have l2:=qH (n:=n) (ts:=ts) (ls:=ls) i;rw[jX] at e4;refine⟨lf,l4,M,S4 _ _ hf,e4,?_,λ J5 b5 e5=>⟨_,_,rfl,λ b o z e=>b5 _ _ z (S4 _ _ (bt _ _ z e)),?_⟩⟩
  ·rw[cQ,cQ];show _+(clT n ts ls i).length<=_;left
  ·rw[e5,uba,List.flatMap_append,wI];simp [clT]
 ·obtain⟨y3,y4,rfl,bt,hf⟩:=h;rw[hlx] at hf;have sm:Same H J:=λ b o e=>bt _ _ (aY e f1) (S1 _ _ e);have l1:=fl n.toNat (by left);obtain⟨fu,efu⟩:∃ fu,fu=(d7 n.toNat).flatMap (clT n ts ls):=⟨A⟩;rw[← efu] at hf l1;have mfu:∀ k,k∈clK n ts ls↔k∈fu:=λ k=>by
   rw[zdv ok,efu,ufz];exact⟨λ ⟨w',h1,h2⟩=>⟨w',o9.mpr h1,h2⟩,λ ⟨w',h1,h2⟩=>⟨w',o9.mp h1,h2⟩⟩
  have few:=za2 (ns:=keepI fu) (m:=60) λ x hx=>by
   obtain⟨c,hc,rfl⟩:=ubx.mp hx;have:=(kK n ts ls).2 c ((mfu c).mpr hc);left
  rw[bM] at hf;refine⟨A,lf,keepI fu,rfl,hf,by unfold keepI;rw[i5];left,λ q1 J2 S2 f2 e2=>⟨q1,_,_,rfl,e2,by left,λ ms m1 m2 m3 l3 J3 S3 f3 e3=>⟨l3,_,rfl,e3,λ t J4 S4 f4 e4=>?_⟩⟩⟩;rw[vV m1 m2 m3 (kK n ts ls).1 mfu] at e4;exact q t J4 (sm.trans (S2.trans (S3.trans S4))) e4
theorem uE (T:Bi mg)(D:DefOk K mg "level_keep" s_level_keep ["web","levels"])(O_ties_of_trees:‹8› "ties_of_trees" ["web","trees"] (spTiesTr K))(O_cluster_trees:‹8› "cluster_trees" ["web","bunches"] (spClTreesF K))(O_bunches_of:‹8› "bunches_of" ["web","levels"] (spBunchesF K)):‹9› "level_keep" ["web","levels"] (spLevKeep K):=by
 exists 8,sc_level_keep;obtain⟨n,ts,ls,wv,lv,rfl,isw,ok,lvk,q⟩:=h;refine⟨_,(aE (aH (aG O_ties_of_trees hr rfl (aA (pv 0) (aA (aG O_cluster_trees hr rfl (aA (pv 0) (aA (aG O_bunches_of hr rfl (aA (pv 0) (aA (pv 1) aB))) aB))) aB))))),?_⟩;refine⟨K,K,n,ts,ls,wv,lv,rfl,isw,ok,lvk,λ l ys J1 S1 f1 e1 bn=>?_⟩;refine⟨n,ts,ls,wv,l,ys,rfl,Is.same S1 _ isw,ok,e1,bn,λ v J2 S2 isv=>?_⟩;exact⟨n,ts,ls,wv,v,rfl,Is.same (S1.trans S2) _ isw,ok,isv,λ t J3 S3 e3=>q t J3 (S1.trans (S2.trans S3)) e3⟩
theorem pZ {β:Type}(p:Nat->Bool)(g:Nat->β):∀ l:List Nat,l.filterMap (λ x=>if p x=true then some (g x) else none)=(l.filter p).map g
 | []=>rfl
 | x::r=>by
  have ih:=pZ p g r;cases e:p x with
  | true=>rw[ugx (by rw[ug7 e]),List.filter_cons_of_pos e,ih];rfl
  | false=>rw[List.filterMap_cons_none (by rw[ug8 (by rw[e];decide)]),List.filter_cons_of_neg (by rw[e];decide),ih]
theorem zb1 {β:Type}(p:Nat->Bool)(g:Nat->β)(l:List Nat):(d7 l.length).filterMap (λ i=>if p (l.getD i 0)=true then some (g (l.getD i 0)) else none)=(l.filter p).map g:=by
 rw[← pZ p g l]
 conv=>rhs;rw[← L3.bX l 0]
 rw[ued];rfl
def spBestS (K:b9):Sp:=λ vs H Q _=>∃ (n:Int)(ts:List Tie)(ls:List (List Nat))(wv:V)(lb:j8)(ys:List V)(k:Nat),vs=[wv,.ref lb,.int (k:Int)]/\Is K H (webD n ts) wv/\WebOk n ts/\LevOk n.toNat ls/\H lb=some (.lst ys)/\BnF H n.toNat ts ls ys/\k<ts.length/\∀ H',Same H H'->IsSd n.toNat ts ls (en ts k).1 (en ts k).2 (sdF n.toNat ts ls (en ts k).1 (en ts k).2)->Q (.int (sdF n.toNat ts ls (en ts k).1 (en ts k).2:Nat)) H'
theorem vA (T:Bi mg)(D:DefOk K mg "best_side" s_best_side ["web","bunches","tie"]):‹1› "best_side" ["web","bunches","tie"] (spBestS K):=by
 exists 0,sc_best_side;obtain⟨n,ts,ls,wv,lb,ys,k,rfl,isw,ok,lo,hb,bn,hk,q⟩:=h;have hu:(A.deeper (envOfC "best_side" (defScope s_best_side) s.heap.objs.size f cdv)).units+1<cLine:=by have:=hr.units;left
 have n24:=ok.n24;obtain⟨g0,g,ws,rfl,hg0,hg,hall,hlw⟩:=bY isw;obtain⟨ta,hta,htie⟩:=gR hall hk;obtain⟨e1,e2,e3,e4⟩:=zfb ok hk;refine⟨_,(aF (cN (aK aV (aK aV (pv 0) aC (λ _ _=>rfl)) (pv 2) (λ _ _=>rfl)) (cZ (n:=3) rfl (aU (aN (i:=3) nd rfl (ufn rfl)) (aU (aN (i:=4) nd rfl (ufn rfl)) (aU (aN (i:=5) nd rfl (v6 rfl)) bT))))) (aE (aH (aK aV (aO (mF rfl hu) rfl T.z_min (by symm) (aA (bE (N:=["web","bunches","tie","a","b","length"]) (sc0:=defScope s_best_side) (own:=["w"]) (fr:=["bunches","a","b"]) (js:=[1,3,4]) rfl (zda (aK aW (pv 1) (pv 3) (λ _ _=>rfl))) (λ _ _ _ _=>(aN (i:=0) (by show uan [("w":Str),("bunches":Str),("a":Str),("b":Str)];decide +kernel) rfl (v6 rfl))) (λ _ _ _ _=>(dD (qN (qR hu (pv 0) (aK dC (pv 1) (pv 3) (λ _ _=>rfl))) (by with_unfolding_all rfl)))) (λ _ _ _ _=>(aZ (aA (aL bR (pP hu (aK dC (pv 1) (pv 2) (λ _ _=>rfl)) (pv 0) (λ _ _=>rfl)) (pP hu (aK dC (pv 1) (pv 3) (λ _ _=>rfl)) (pv 0) (λ _ _=>rfl))) (aA (pv 0) aB))))) aB)) aC (λ _ _=>rfl))))),?_⟩;refine⟨A,g0,Y,SqT.of hg0,X,g,Y,SqT.of hg,bP (uad _) hta,?_⟩;refine⟨ta,A,SqT.of htie,Z,A,_,A,M,?_⟩;rw[← e3,← e4];obtain⟨a,ea⟩:∃ a,a=(en ts k).1:=⟨_,rfl⟩;obtain⟨b,eb⟩:∃ b,b=(en ts k).2:=⟨_,rfl⟩;rw[← ea,← eb] at q ⊢;have an:a<n.toNat:=by left
 have bnn:b<n.toNat:=by left
 obtain⟨da,oa',eda,hda⟩:=bn.2 a an;obtain⟨db,ob',edb,hdb⟩:=bn.2 b bnn;have atA:∀ {x:Nat}{d:j8},ys[x]?=some (.ref d)->atI ys (x:Int)=some (.ref d):=λ h=>bP (uad _) (by rw[v5];exact h);have lbk:(bkv n.toNat ts ls a).length=(bnL n.toNat ts ls a).length:=by unfold bkv bkI;rw[i5,i5]
 have lbn:(bnL n.toNat ts ls a).length<=n.toNat:=by unfold bnL;have:=List.length_filter_le (λ w=>clB n.toNat ts ls a w) (d7 n.toNat);rw[t5] at this;exact this
 refine⟨K,lb,Y,SqL.of hb,atA eda,da,oa',A,hda,?_⟩;refine xU (K':=K) hda (λ σ'=>∃ o,σ'=[o,some (.ref lb),some (.int (a:Int)),some (.int (b:Int))]) (λ i=>if decide ((bnL n.toNat ts ls a).getD i 0∈bnL n.toNat ts ls b)=true then some (ugz ((sdK ts a b ((bnL n.toNat ts ls a).getD i 0)).map .int)) else none) (λ i d h=>?_) (by rw[lbk];left) (by exact⟨none,rfl⟩) (λ i k y x σ' H' hx ex s2 sg C L hC hL=>?_) (λ D zs J hD S hH hly hys=>?_)
 ·split at h
  ·cases h;exact iY _
  ·cases h
 ·obtain⟨o,rfl⟩:=sg;unfold bkv bkI at hx;rw[l7,l7] at hx;cases hw:(bnL n.toNat ts ls a)[i]? with
  | none=>rw[hw] at hx;cases hx
  | some w' =>
  rw[hw] at hx;cases hx;subst ex;have wa:=uap hw;have ewd:(bnL n.toNat ts ls a).getD i 0=w':=by rw[f9,hw];rfl
  rw[ewd] at hC hL;have hb2:=s2 _ _ hb;refine⟨K,A,lb,Y,SqL.of hb2,atA edb,db,A,hV (k:=Sum.inl (w':Int)) (s2 _ _ hdb),A,?_⟩;rw[rH];by_cases c:w'∈bnL n.toNat ts ls b
  ·have ga:DGet H' da (V.int (w':Int)) (some (.int (dq ts a w'))):=by
    have:=hV (k:=Sum.inl (w':Int)) (s2 _ _ hda);rw[qI ok an wa] at this;exact this
   have gb:DGet H' db (V.int (w':Int)) (some (.int (dq ts b w'))):=by
    have:=hV (k:=Sum.inl (w':Int)) (s2 _ _ hdb);rw[qI ok bnn c] at this;exact this
   refine iteTe (ug3 c) ⟨K,lb,Y,SqL.of hb2,atA eda,A,da,A,ga,K,lb,Y,SqL.of hb2,atA edb,A,db,A,gb,M,A,(by show 2<=1000;decide),λ p H5 S5 f5 e5=>hC _ _ (ugz ((sdK ts a b w').map .int)) _ ⟨_,rfl⟩ S5 (by rw[ug7 (ug3 c)]) ⟨p,_,rfl,e5,IsAll.ints (sdK ts a b w')⟩⟩
  ·exact iteFe (ug5 c) (hL _ _ ⟨A⟩ (Same.refl _) (by rw[ug8 (by rw[decide_eq_true_eq];exact c)]))
 rw[lbk,zb1 (λ w=>decide (w∈bnL n.toNat ts ls b)) (λ w=>ugz ((sdK ts a b w).map .int)) (bnL n.toNat ts ls a)] at hys;obtain⟨F,eF⟩:∃ F,F=(bnL n.toNat ts ls a).filter λ w=>decide (w∈bnL n.toNat ts ls b):=⟨A⟩;rw[← eF] at hys;have Fm:∀ w,w∈F↔Bth n.toNat ts ls a b w:=λ w=>by
  rw[eF,ua0,decide_eq_true_eq];rfl
 have lz:zs.length=F.length:=by rw[hys.length,i5]
 have item:∀ {i:Nat}{v:V},zs[i]?=some v->∃ w' c,F[i]?=some w'/\v=.ref c/\J c=some (.tup ((sdK ts a b w').map V.int)):=λ {i v} hv=>by
  obtain⟨d,hd,ix⟩:=hys.get' hv;rw[l7] at hd;obtain⟨w',hw',rfl⟩:=ubc.mp hd;obtain⟨c,us,rfl,hc,hus⟩:=ix;rw[IsAll.of_ints hus] at hc;exact⟨w',c,hw',rfl,hc⟩
 have keyAt:∀ {i w':Nat},F[i]?=some w'->(F.map (sdK ts a b)).getD i []=sdK ts a b w':=λ h=>by
  rw[f9,l7,h];rfl
 refine⟨D,zs,F.map (sdK ts a b),rfl,hH,λ z=>?_,λ i v hv=>?_,λ bi v hv top=>?_⟩
 ·obtain⟨d,ed,d0,_⟩:=zav ok hk;have ed':dvC ts a b=some d:=by rw[ea,eb];exact ed
  obtain⟨w',hw',_⟩:=zc1 ok lo an bnn d0 ed';have:=List.length_pos_of_mem ((Fm w').mpr hw');rw[← lz,z] at this;exact absurd this (by simp)
 ·obtain⟨w',c,hw',ev,hc⟩:=item hv;exact⟨c,ev,by rw[keyAt hw'];exact hc⟩
 ·obtain⟨w',c,hw',rfl,hc⟩:=item hv;have sd:IsSd n.toNat ts ls a b w':=by
   refine⟨(Fm w').mp (uap hw'),λ w2 h2=>?_⟩;obtain⟨i2,h2'⟩:=List.getElem?_of_mem ((Fm w2).mpr h2);have:=top i2 (by have:=(j6.mp h2').1;left);rw[keyAt h2',keyAt hw'] at this;exact this
  refine⟨c,Y,SqT.of hc,rfl,?_⟩;have qq:=q J S;rw[← zd5 sd] at qq;exact qq sd
noncomputable def sdL (n:Int)(ts:List Tie)(ls:List (List Nat)):List Nat:=(outs ts.length (clK n ts ls)).map λ k=>sdF n.toNat ts ls (en ts k).1 (en ts k).2
noncomputable def lpD (n:Int)(ts:List Tie)(ls:List (List Nat)):r8:=.tuple [treesD n ts ls,keepD (sdL n ts ls)]
def SdAll (n:Int)(ts:List Tie)(ls:List (List Nat)):Prop:=∀ k∈outs ts.length (clK n ts ls),IsSd n.toNat ts ls (en ts k).1 (en ts k).2 (sdF n.toNat ts ls (en ts k).1 (en ts k).2)
theorem zdc {m:Nat}{ks:List Nat}{k:Nat}(h:k∈outs m ks):k<m:=o9.mp (ua0.mp h).1
def spLevPap (K:b9):Sp:=λ vs H Q _=>∃ (n:Int)(ts:List Tie)(ls:List (List Nat))(wv lv:V),vs=[wv,lv]/\Is K H (webD n ts) wv/\WebOk n ts/\Lv K H n.toNat ls lv/\∀ v H',Same H H'->SdAll n ts ls->Is K H' (lpD n ts ls) v->Q v H'
theorem sZ (T:Bi mg)(D:DefOk K mg "level_paper" s_level_paper ["web","levels"])(O_bunches_of:‹8› "bunches_of" ["web","levels"] (spBunchesF K))(O_cluster_trees:‹8› "cluster_trees" ["web","bunches"] (spClTreesF K))(O_not_kept:‹8› "not_kept" ["web","keep"] (spOuts K))(O_ties_of_trees:‹8› "ties_of_trees" ["web","trees"] (spTiesTr K))(O_best_side:‹8› "best_side" ["web","bunches","tie"] (spBestS K)):‹9› "level_paper" ["web","levels"] (spLevPap K):=by
 exists 8,sc_level_paper;obtain⟨n,ts,ls,wv,lv,rfl,isw,ok,lvk,q⟩:=h;have few60:=ok.few;refine⟨_,(aF (aQ (i:=2) nd rfl (ufn rfl) (aG O_bunches_of hr rfl (aA (pv 0) (aA (pv 1) aB)))) (aF (aQ (i:=3) nd rfl (v6 rfl) (aG O_cluster_trees hr rfl (aA (pv 0) (aA (pv 2) aB)))) (aF (aQ (i:=4) nd rfl (v6 rfl) (aG O_not_kept hr rfl (aA (pv 0) (aA (aG O_ties_of_trees hr rfl (aA (pv 0) (aA (pv 3) aB))) aB)))) (aE (aH (aZ (aA (pv 3) (aA (bB cV rfl T.z_tuple (by symm) (aA (bE (N:=["web","levels","bunches","trees","ties"]) (sc0:=defScope s_level_paper) (own:=["tie"]) (fr:=["web","bunches"]) (js:=[0,2]) rfl (gW (pv 4)) (λ _ _ _ _=>(aN (i:=0) (by show uan [("tie":Str),("web":Str),("bunches":Str)];decide +kernel) rfl (v6 rfl))) (λ _ _ _ _=>bS) (λ _ _ _ _=>(aG O_best_side hr rfl (aA (pv 1) (aA (pv 2) (aA (pv 0) aB)))))) aB)) aB)))))))),?_⟩;refine⟨K,n,ts,ls,wv,lv,rfl,isw,ok,lvk,λ lb ys J1 S1 f1 e1 bn=>?_⟩;refine⟨K,n,ts,ls,wv,lb,ys,rfl,Is.same S1 _ isw,ok,e1,bn,λ tv J2 S2 ist=>?_⟩;have S12:=S1.trans S2;refine⟨K,A,n,ts,ls,wv,tv,rfl,Is.same S12 _ isw,ok,ist,λ kt J3 S3 e3=>?_⟩;have S13:=S12.trans S3;refine⟨n,ts,clK n ts ls,wv,.ref kt,rfl,⟨Is.same S13 _ isw,ok,iU e3,kK n ts ls⟩,λ lo J4 S4 f4 e4=>?_⟩;have S14:=S13.trans S4;obtain⟨O,eO⟩:∃ O,O=outs ts.length (clK n ts ls):=⟨A⟩;rw[← eO] at e4;have lO:O.length<=60:=by
  rw[eO];unfold outs;have:=List.length_filter_le (λ k=>decide (k∉clK n ts ls)) (d7 ts.length);rw[t5] at this;left
 refine⟨K,lo,rfl,⟨_,SqL.of e4⟩,?_⟩;refine jJ e4 (λ σ'=>∃ o,σ'=[o,some wv,some (.ref lb)]) (λ i v _=>IsSd n.toNat ts ls (en ts (O.getD i 0)).1 (en ts (O.getD i 0)).2 (sdF n.toNat ts ls (en ts (O.getD i 0)).1 (en ts (O.getD i 0)).2)/\v=.int (sdF n.toNat ts ls (en ts (O.getD i 0)).1 (en ts (O.getD i 0)).2:Nat)) (by rw[cQ];left) (by exact⟨none,rfl⟩) (λ _ _ _ _ _ h=>h) (λ i x σ' H' hx s2 sg C hC=>?_) (λ L zs J5 hL S5 hH hlz hzs=>?_)
 ·obtain⟨o,rfl⟩:=sg;obtain⟨k,hk,rfl⟩:=eN hx;have ek:O.getD i 0=k:=by rw[f9,hk];rfl
  have hkl:k<ts.length:=zdc (by rw[← eO];exact uap hk);rw[ek] at hC;have sA:=(S2.trans (S3.trans S4)).trans s2;exact⟨K,A,n,ts,ls,wv,lb,ys,k,rfl,Is.same (S14.trans s2) _ isw,ok,lvk.2.1,sA _ _ e1,bn.same sA,hkl,λ H5 S5 sd=>hC _ _ _ ⟨_,rfl⟩ S5 ⟨sd,rfl⟩⟩
 rw[cQ] at hlz;have all:SdAll n ts ls:=λ k hk=>by
  rw[← eO] at hk;obtain⟨i,hi⟩:=List.getElem?_of_mem hk;have hi':=(j6.mp hi).1;have:=(hzs i _ (c7 (by left))).1;rw[show O.getD i 0=k by rw[f9,hi];rfl] at this;exact this
 have ez:zs=natV (sdL n ts ls):=by
  unfold sdL;rw[← eO];refine ucs λ i=>?_;by_cases hi:i<O.length
  ·rw[c7 (by left),(hzs i _ (c7 (by left))).2];unfold natV;rw[l7,l7,c7 hi,f9,c7 hi];rfl
  ·rw[x9 (by left),x9 (by rw[cQ,i5];left)]
 rw[ez] at hH;refine⟨L,A,hH,λ ts' J6 S6 f6 e6=>⟨(by show 2<=1000;decide),λ tz J7 S7 f7 e7=>q (.ref tz) J7 (S14.trans (S5.trans (S6.trans S7))) all ⟨tz,_,rfl,e7,tv,_,rfl,Is.same ((S3.trans S4).trans (S5.trans (S6.trans S7))) _ ist,.ref ts',[],rfl,iU (S7 _ _ e6),rfl⟩⟩⟩
def plD (n:Int):r8->Bool
 | .int i=>decide (0<=i)&&decide (i<n)
 | _=>false
def toI:r8->Int
 | .int i=>i
 | _=>0
def DX (p:j8)(K:b9)(H:Hp):Option r8->V->Prop
 | some d,v=>Is K H d v/\tupD d=true
 | none,v=>∃ a,v=.ref a/\a≠p/\((∃ ys,H a=some (.lst ys))\/H a=some (.dK []))
theorem DX.same {p:j8}{H H':Hp}{o:Option r8}{v:V}(S:Same H H')(h:DX p K H o v):DX p K H' o v:=by
 cases o with
 | some d=>exact⟨Is.same S _ h.1,h.2⟩
 | none =>
  obtain⟨a,e,z,y⟩:=h;exact⟨a,e,z,y.imp (λ ⟨ys,h⟩=>⟨ys,S _ _ h⟩) (S _ _)⟩
def lenO:Option r8->Nat
 | some (.tuple ds)=>ds.length
 | _=>0
def intO:Option r8->List Int
 | some (.tuple ds)=>ds.map toI
 | _=>[]
def isTO:Option r8->Bool
 | some (.tuple _)=>true
 | _=>false
def ulB (n:Int):Option r8->Bool
 | some (.tuple ds)=>ds.all (plD n)&&decide ((ds.map toI).Nodup)
 | _=>false
def lvB (n:Int)(o:Option r8):Bool:=ulB n o&&risI (intO o)
theorem gU {n:Int}:∀ {ds:List r8},ds.all (plD n)=true->ds=(ds.map toI).map .int/\∀ i∈ds.map toI,0<=i/\i<n
 | [],_=>⟨rfl,λ _ h=>absurd h m7⟩
 | d::ds,h=>by
  rw[ug2,uaa] at h;obtain⟨h1,h2⟩:=gU h.2;cases d with
  | int i =>
   have h0:(decide (0<=i)&&decide (i<n))=true:=h.1;rw[uaa] at h0;refine⟨?_,λ x hx=>?_⟩
   ·show _::_=_::_;rw[← h1];rfl
   ·rcases j4.mp hx with e | e
    ·rw[e];exact⟨ug4 h0.1,ug4 h0.2⟩
    ·exact h2 x e
  | _=>exact absurd h.1 (by intro z;cases z)
theorem pE {K:b9}{H:Hp}{ns:List Int}{ys:List V}(h:IsAll K H (ns.map .int) ys):ys=ns.map V.int:=IsAll.of_ints h
def spPlD (K:b9):Sp:=λ vs H Q _=>∃ (n:Int)(ts:List Tie)(wv:V)(d:r8)(x:V),vs=[wv,x]/\Is K H (webD n ts) wv/\Is K H d x/\∀ H',Same H H'->Q (.bl (plD n d)) H'
theorem uW (T:Bi mg)(D:DefOk K mg "is_place" s_is_place ["web","thing"])(O_is_whole:‹1› "is_whole" ["thing"] (spD1 K (λ _=>True) wholeB)):‹2› "is_place" ["web","thing"] (spPlD K):=by
 exists 1,sc_is_place;obtain⟨n,ts,wv,d,x,rfl,isw,isd,q⟩:=h;obtain⟨g0,g,ws,rfl,hg0,_⟩:=bY isw;refine⟨_,(aE (aH (dF (aG O_is_whole hr rfl (aA (pv 1) aB)) (cJ (oE eS cP aC (pv 1) (aK aV (pv 0) aC (λ _ _=>rfl))))))),?_⟩;refine⟨A,d,x,rfl,isd,trivial,λ H1 s1=>⟨_,rfl,?_⟩⟩;have q0:=q H1 s1;cases d with
 | int i =>
  obtain rfl:x=.int i:=isd;have q0:Q (.bl (decide (0<=i)&&decide (i<n))) H1:=q0;refine iteT ⟨A,M,A,ite2 (λ c=>?_) (λ c=>?_)⟩
  ·rw[show decide (0<=i)=true from c,udb] at q0;exact⟨A,g0,Y,SqT.of (s1 _ _ hg0),rfl,M,q0⟩
  ·rw[show decide (0<=i)=false from uaw.mpr c,ud1] at q0;exact q0
 | _=>exact iteF q0
def spUnlX (K:b9):Sp:=λ vs H Q _=>∃ (p:j8)(n:Int)(ts:List Tie)(wv:V)(o:Option r8)(x:V),vs=[wv,x]/\Is K H (webD n ts) wv/\DX p K H o x/\lenO o<=1000/\∀ H',Same H H'->Q (.bl (ulB n o)) H'
theorem tF (T:Bi mg)(D:DefOk K mg "are_unlike_places" s_are_unlike_places ["web","thing"])(O_is_place:‹2› "is_place" ["web","thing"] (spPlD K)):‹3› "are_unlike_places" ["web","thing"] (spUnlX K):=by
 exists 2,sc_are_unlike_places;obtain⟨p,n,ts,wv,o,x,rfl,isw,isx,l1000,q⟩:=h;have q0:=q H (Same.refl _);refine⟨_,(aF (aT (PW.pt (dI (bU (bN (aO (eE (n:="tuple")) rfl T.z_isinstance (by symm) (aA (pv 1) (aA (dM (v:=.ty "tuple") rfl T.z_tuple (by symm) rfl) aB))))) (dE (bU (bN (aO (cX rfl) rfl T.z_all (by symm) (aA (bE (N:=["web","thing"]) (sc0:=defScope s_are_unlike_places) (own:=["part"]) (fr:=["web"]) (js:=[0]) rfl (bW (pv 1)) (λ _ _ _ _=>(aN (i:=0) (by show uan [("part":Str),("web":Str)];decide +kernel) rfl (v6 rfl))) (λ _ _ _ _=>bS) (λ _ _ _ _=>(aG O_is_place hr rfl (aA (pv 1) (aA (pv 0) aB))))) aB))))))) (aE (aH bV)) aS) (aE (aH (bC bA (aO nE rfl T.z_len (by symm) (aA (bB (nC rfl) rfl T.z_set (by symm) (aA (pv 1) aB)) aB)) (aO bO rfl T.z_len (by symm) (aA (pv 1) aB)) (nomark _))))),?_⟩;cases o with
 | none =>
  obtain⟨a,rfl,_,⟨ys,h⟩ | h⟩:=isx
  ·exact⟨A,V,A,TyOf.lst h,X,iteT q0⟩
  ·exact⟨A,V,A,TyOf.dK h,X,iteT q0⟩
 | some d =>
  have ty:=kM isx.1;cases d with
  | int i=>exact⟨A,V,A,ty,X,iteT q0⟩
  | bool b=>exact⟨A,V,A,ty,X,iteT q0⟩
  | none=>exact⟨A,V,A,ty,X,iteT q0⟩
  | str x=>exact⟨A,V,A,ty,X,iteT q0⟩
  | list ds=>exact absurd isx.2 (by intro z;cases z)
  | dict ds=>exact absurd isx.2 (by intro z;cases z)
  | tuple ds =>
   obtain⟨p,xs,rfl,hp,hds⟩:=isx.1;have lx:xs.length=ds.length:=hds.length;have l1000:ds.length<=1000:=l1000;refine⟨A,V,A,TyOf.tup hp,X,iteF ?_⟩;refine⟨A,p,rfl,⟨_,SqT.of hp⟩,?_⟩;refine eB hp (λ σ'=>∃ o,σ'=[o,some wv]) (λ i v _=>v=.bl ((λ i=>plD n (ds.getD i .none)) i)) (by left) (by exact⟨none,rfl⟩) (λ _ _ _ _ _ h=>h) (λ i x σ' H' hx s2 sg C hC=>?_) (λ L ys H2 hL s2 hH hly hys=>?_)
   ·obtain⟨o,rfl⟩:=sg;have hi:i<ds.length:=by have:=(j6.mp hx).1;left
    have el:ds[i]?=some ds[i]:=c7 hi;obtain⟨x',ex,ix⟩:=hds.at_ el;rw[hx] at ex;cases ex;refine⟨K,n,ts,wv,ds[i],x,rfl,Is.same s2 _ isw,Is.same s2 _ ix,λ H5 s5=>hC _ _ _ ⟨_,rfl⟩ s5 ?_⟩;show V.bl (plD n ds[i])=V.bl (plD n (ds.getD i .none));rw[f9,el];rfl
   ·refine⟨L,A,SqL.of (by rw[hH,cY (hly.trans lx) hys]),A,?_⟩;have eall:((d7 ds.length).map λ i=>plD n (ds.getD i .none)).all id=ds.all (plD n):=by
     have z:=congrArg (List.map (plD n)) (L3.bX ds .none);rw[ua5] at z;have z':((d7 ds.length).map λ i=>plD n (ds.getD i .none))=ds.map (plD n):=z;rw[z',ucp];rfl
    have q1:∀ {J:Hp},Same H2 J->Q (.bl (ds.all (plD n)&&decide ((ds.map toI).Nodup))) J:=λ S=>q _ (s2.trans S);refine iteB2 (λ c=>?_) (λ c=>?_)
    ·rw[eall] at c;obtain⟨ed,_⟩:=gU c;obtain⟨ns,ens⟩:∃ ns,ns=ds.map toI:=⟨_,rfl⟩;rw[← ens] at ed q1;rw[ed] at hds;have ex:=pE hds;subst ex;have lm:(ns.map V.int).length=ns.length:=i5 _;refine⟨A,p,ns,rfl,s2 _ _ hp,by left,λ u J S f e=>?_⟩;refine⟨u,_,A,e,A,p,A,.inr (SqT.of (S _ _ (s2 _ _ hp))),rfl,?_⟩;have q2:=q1 S;rw[c,udb] at q2;have ed:decide (V.int ((HT.setN ns ns.length:Nat):Int)=V.int (((ns.map V.int).length:Nat):Int))=decide ns.Nodup:=by
      rw[lm];by_cases z:ns.Nodup
      ·rw[ug3 z,(gB ns).mpr z,ug3 rfl]
      ·rw[ug5 z];exact ug5 λ y=>z ((gB ns).mp (by injection y with y;left))
     rw[ed];exact q2
    ·rw[eall] at c;have q2:=q1 (Same.refl _);rw[c,ud1] at q2;exact q2
def spLvX (K:b9):Sp:=λ vs H Q _=>∃ (p:j8)(n:Int)(ts:List Tie)(wv:V)(o:Option r8)(x:V),vs=[wv,x]/\Is K H (webD n ts) wv/\DX p K H o x/\lenO o<=1000/\∀ H',Same H H'->Q (.bl (lvB n o)) H'
theorem qM {p:j8}{H:Hp}{n:Int}{o:Option r8}{x:V}(c:ulB n o=true)(h:DX p K H o x):∃ t,x=.ref t/\H t=some (.tup ((intO o).map V.int))/\(intO o).length=lenO o/\∀ i∈intO o,0<=i/\i<n:=by
 match o,c,h with
 | some (.tuple ds),c,h =>
  have c:(ds.all (plD n)&&decide ((ds.map toI).Nodup))=true:=c;rw[uaa] at c;obtain⟨ed,bd⟩:=gU c.1;obtain⟨t,xs,rfl,ht,hds⟩:=h.1;rw[ed] at hds;rw[pE hds] at ht;exact⟨t,rfl,ht,i5 _,bd⟩
theorem uX (T:Bi mg)(D:DefOk K mg "is_level" s_is_level ["web","thing"])(O_are_unlike_places:‹3› "are_unlike_places" ["web","thing"] (spUnlX K))(O_is_rising:‹3› "is_rising" ["parts"] spRisI):‹4› "is_level" ["web","thing"] (spLvX K):=by
 exists 3,sc_is_level;obtain⟨p,n,ts,wv,o,x,rfl,isw,isx,l1000,q⟩:=h;refine⟨_,(aE (aH (dF (aG O_are_unlike_places hr rfl (aA (pv 0) (aA (pv 1) aB))) (cJ (aG O_is_rising hr rfl (aA (pv 1) aB)))))),?_⟩;refine⟨K,p,n,ts,wv,o,x,rfl,isw,isx,l1000,λ H1 s1=>?_⟩;unfold lvB at q;cases c:ulB n o with
 | false =>
  rw[c] at q;exact⟨A,iteF (q H1 s1)⟩
 | true =>
  rw[c] at q;obtain⟨t,rfl,ht,len,_⟩:=qM c isx;exact⟨A,iteT ⟨A,t,intO o,rfl,s1 _ _ ht,by left,λ H2 s2=>q H2 (s1.trans s2)⟩⟩
def spLieB (K:b9):Sp:=λ vs H Q _=>∃ (p o:j8)(l m:List Nat),vs=[.ref p,.ref o]/\H p=some (.tup (natV l))/\H o=some (.tup (natV m))/\l.length<=1000/\∀ H',Same H H'->Q (.bl (l.all λ x=>decide (x∈m))) H'
theorem sM (T:Bi mg)(D:DefOk K mg "lies_within" s_lies_within ["level","ahead"]):‹1› "lies_within" ["level","ahead"] (spLieB K):=by
 exists 0,sc_lies_within;obtain⟨p,o,l,m,rfl,hp,ho,l1000,q⟩:=h;have len:(natV l).length=l.length:=by unfold natV;rw[i5]
 refine⟨_,(aE (aH (aO (cX rfl) rfl T.z_all (by symm) (aA (bE (N:=["level","ahead"]) (sc0:=defScope s_lies_within) (own:=["place"]) (fr:=["ahead"]) (js:=[1]) rfl (bW (pv 0)) (λ _ _ _ _=>(aN (i:=0) (by show uan [("place":Str),("ahead":Str)];decide +kernel) rfl (v6 rfl))) (λ _ _ _ _=>bS) (λ _ _ _ _=>(bC iL (pv 0) (pv 1) (by with_unfolding_all rfl)))) aB)))),?_⟩;refine⟨A,p,rfl,⟨_,SqT.of hp⟩,?_⟩;refine eB hp (λ σ'=>∃ y,σ'=[y,some (.ref o)]) (λ i v _=>v=.bl ((λ i=>decide (l.getD i 0∈m)) i)) (by left) (by exact⟨none,rfl⟩) (λ _ _ _ _ _ h=>h) (λ i x σ' H' hx s2 sg C hC=>?_) (λ L ys H2 hL s2 hH hly hys=>?_)
 ·obtain⟨y,rfl⟩:=sg;obtain⟨j,hj,rfl⟩:=eN hx;refine⟨K,o,A,.inr (SqT.of (s2 _ _ ho)),rfl,gQ m,hC _ _ _ ⟨A⟩ (Same.refl _) ?_⟩;show V.bl (inV (V.int (j:Int)) (natV m))=V.bl (decide (l.getD i 0∈m));rw[gY (uad _),v5,f9,hj];rfl
 refine⟨L,A,SqL.of (by rw[hH,cY hly hys]),?_⟩;have e:(((d7 (natV l).length).map λ i=>decide (l.getD i 0∈m)).all id)=l.all λ x=>decide (x∈m):=by
  rw[len];have z:=congrArg (List.map λ x=>decide (x∈m)) (L3.bX l 0);rw[ua5] at z;have z':((d7 l.length).map λ i=>decide (l.getD i 0∈m))=l.map λ x=>decide (x∈m):=z;rw[z',ucp];rfl
 rw[e];exact q H2 s2
def natO (o:Option r8):List Nat:=(intO o).map Int.toNat
def wiO (level ahead:Option r8):Bool:=(natO level).all λ x=>decide (x∈natO ahead)
def DXs (p:j8)(K:b9)(H:Hp)(os:List (Option r8))(ys:List V):Prop:=os.length=ys.length/\∀ (i:Nat)(o:Option r8)(y:V),os[i]?=some o->ys[i]?=some y->DX p K H o y
def levB (n:Int)(os:List (Option r8)):Bool:=decide (1<=os.length)&&decide (os.length<=6)&&os.all (lvB n)&&decide ((lenO (os.getD 0 none):Int)=n)&&(d7 (os.length-1)).all λ i=>wiO (os.getD (1+i) none) (os.getD i none)
def TX (p:j8)(K:b9)(H:Hp):Option (List (Option r8))->V->Prop
 | none,v=>∃ o,DX p K H o v/\isTO o=false
 | some os,v=>∃ t ys,v=.ref t/\H t=some (.tup ys)/\DXs p K H os ys/\ys.length<=1000/\∀ o∈os,lenO o<=1000
def tB (n:Int):Option (List (Option r8))->Bool
 | none=>false
 | some os=>levB n os
theorem DXs.same {p:j8}{H H':Hp}{os:List (Option r8)}{ys:List V}(S:Same H H')(h:DXs p K H os ys):DXs p K H' os ys:=⟨h.1,λ i o y h1 h2=>(h.2 i o y h1 h2).same S⟩
theorem TX.same {p:j8}{H H':Hp}{T:Option (List (Option r8))}{v:V}(S:Same H H')(h:TX p K H T v):TX p K H' T v:=by
 cases T with
 | none=>exact let ⟨o,h1,h2⟩:=h;⟨o,h1.same S,h2⟩
 | some os=>exact let ⟨t,ys,e,ht,d,l1,l2⟩:=h;⟨t,ys,e,S _ _ ht,d.same S,l1,l2⟩
def spAreX (K:b9):Sp:=λ vs H Q _=>∃ (p:j8)(n:Int)(ts:List Tie)(wv:V)(T:Option (List (Option r8)))(v:V),vs=[wv,v]/\Is K H (webD n ts) wv/\1<=n/\TX p K H T v/\∀ H',Same H H'->Q (.bl (tB n T)) H'
theorem zeo {p:j8}{H:Hp}{n:Int}{o:Option r8}{x:V}(c:lvB n o=true)(h:DX p K H o x):∃ t,x=.ref t/\H t=some (.tup (natV (natO o)))/\(natO o).length=lenO o:=by
 unfold lvB at c;rw[uaa] at c;obtain⟨t,e,ht,len,bd⟩:=qM c.1 h;refine⟨t,e,?_,by unfold natO;rw[i5];exact len⟩;rw[ht];unfold natV natO;rw[ua5];refine congrArg (λ z=>some (HO.tup z)) (ucy λ i hi=>?_);have:=(bd i hi).1;show V.int i=V.int ((i.toNat:Nat):Int);rw[uao this]
theorem iteNB' {b:Bool}{A B:Prop}(hf:b=false->A)(ht:b=true->B):if (!b)=true then A else B:=by cases b with
 | false=>exact hf rfl
 | true=>exact ht rfl
theorem tG (T:Bi mg)(D:DefOk K mg "are_levels" s_are_levels ["web","thing"])(O_is_level:‹4› "is_level" ["web","thing"] (spLvX K))(O_lies_within:‹4› "lies_within" ["level","ahead"] (spLieB K)):‹5› "are_levels" ["web","thing"] (spAreX K):=by
 exists 4,sc_are_levels;obtain⟨pp,n,ts,wv,TT,v,rfl,isw,n1,tx,q⟩:=h;obtain⟨g0,g,ws,rfl,hg0,hg,hall,hlw⟩:=bY isw;have q0:=q H (Same.refl _);refine⟨_,(aF (aT (PW.pt (dI (bU (bN (aO (eE (n:="tuple")) rfl T.z_isinstance (by symm) (aA (pv 1) (aA (dM (v:=.ty "tuple") rfl T.z_tuple (by symm) rfl) aB))))) (dE (bU (oA eS eS aC (aO bO rfl T.z_len (by symm) (aA (pv 1) aB)) aC))))) (aE (aH bV)) aS) (aF (aT (PW.pt (dI (bU (bN (aO (cX rfl) rfl T.z_all (by symm) (aA (bE (N:=["web","thing"]) (sc0:=defScope s_are_levels) (own:=["level"]) (fr:=["web"]) (js:=[0]) rfl (bW (pv 1)) (λ _ _ _ _=>(aN (i:=0) (by show uan [("level":Str),("web":Str)];decide +kernel) rfl (v6 rfl))) (λ _ _ _ _=>bS) (λ _ _ _ _=>(aG O_is_level hr rfl (aA (pv 1) (aA (pv 0) aB))))) aB)))) (dE (aR rL (aO bO rfl T.z_len (by symm) (aA (aK aV (pv 1) aC (λ _ _=>rfl)) aB)) (aK aV (pv 0) aC (λ _ _=>rfl)) (nomark _))))) (aE (aH bV)) aS) (aE (aH (aO (cX rfl) rfl T.z_all (by symm) (aA (bE (N:=["web","thing"]) (sc0:=defScope s_are_levels) (own:=["ahead","level"]) (fr:=[]) (js:=[]) rfl (kA true true rfl T.z_zip (aA (pv 1) (aA (bH bI (pv 1) (bL aC) bG) aB))) (λ _ _ _ _=>(dL (n:=2) rfl (aU (aN (i:=0) (by show uan [("ahead":Str),("level":Str)];decide +kernel) rfl (v6 rfl)) (aU (aN (i:=1) (by show uan [("ahead":Str),("level":Str)];decide +kernel) rfl (v6 rfl)) bT)))) (λ _ _ _ _=>bS) (λ _ _ _ _=>(aG O_lies_within hr rfl (aA (pv 1) (aA (pv 0) aB))))) aB)))))),?_⟩;cases TT with
 | none =>
  obtain⟨o,isx,io⟩:=tx;cases o with
  | none =>
   obtain⟨a,rfl,_,⟨ys,h⟩ | h⟩:=isx
   ·exact⟨A,V,A,TyOf.lst h,X,iteT q0⟩
   ·exact⟨A,V,A,TyOf.dK h,X,iteT q0⟩
  | some d =>
   have ty:=kM isx.1;cases d with
   | int i=>exact⟨A,V,A,ty,X,iteT q0⟩
   | bool b=>exact⟨A,V,A,ty,X,iteT q0⟩
   | none=>exact⟨A,V,A,ty,X,iteT q0⟩
   | str x=>exact⟨A,V,A,ty,X,iteT q0⟩
   | list ds=>exact absurd isx.2 (by intro z;cases z)
   | dict ds=>exact absurd isx.2 (by intro z;cases z)
   | tuple ds=>cases io
 | some os =>
  obtain⟨p,vs,rfl,hp,dx,l1000,few⟩:=tx;have lx:vs.length=os.length:=dx.1.symm;have q:∀ H',Same H H'->Q (.bl (levB n os)) H':=q;unfold levB at q;refine⟨A,V,A,TyOf.tup hp,X,iteF ?_⟩;refine⟨A,p,A,.inr (SqT.of hp),M,A,?_⟩;by_cases one:1<=os.length
  case neg =>
   rw[ug5 (show ¬ (1:Int)<=((vs.length:Nat):Int) by left)];rw[ug5 one] at q;exact iteF ⟨A,iteT (q H (Same.refl _))⟩
  rw[ug3 (show (1:Int)<=((vs.length:Nat):Int) by left)];rw[ug3 one] at q;refine iteT ⟨M,A,?_⟩;by_cases six:os.length<=6
  case neg =>
   rw[ug5 (show ¬ ((vs.length:Nat):Int)<=6 by left)];rw[ug5 six] at q;exact iteT (q H (Same.refl _))
  rw[ug3 (show ((vs.length:Nat):Int)<=6 by left)];rw[ug3 six,udb,udb] at q;refine iteF ?_;have elt:∀ {i:Nat}{x:V},vs[i]?=some x->∃ o,os[i]?=some o/\DX pp K H o x:=λ {i x} hx=>by
   have hi:i<os.length:=by have:=(j6.mp hx).1;left
   exact⟨os[i],c7 hi,dx.2 i _ x (c7 hi) hx⟩
  refine⟨A,p,rfl,⟨_,SqT.of hp⟩,?_⟩;refine eB hp (λ σ'=>∃ y,σ'=[y,some (.ref g0)]) (λ i v _=>v=.bl ((λ i=>lvB n (os.getD i none)) i)) (by left) (by exact⟨none,rfl⟩) (λ _ _ _ _ _ h=>h) (λ i x σ' H' hx s2 sg C hC=>?_) (λ L ys H2 hL s2 hH hly hys=>?_)
  ·obtain⟨y,rfl⟩:=sg;obtain⟨o,eo,dxo⟩:=elt hx;refine⟨K,pp,n,ts,_,o,x,rfl,Is.same s2 _ isw,dxo.same s2,few o (uap eo),λ H5 s5=>hC _ _ _ ⟨_,rfl⟩ s5 ?_⟩;show V.bl (lvB n o)=V.bl (lvB n (os.getD i none));rw[f9,eo];rfl
  have eall:((d7 vs.length).map λ i=>lvB n (os.getD i none)).all id=os.all (lvB n):=by
   rw[lx];have z:=congrArg (List.map (lvB n)) (L3.bX os none);rw[ua5] at z;have z':((d7 os.length).map λ i=>lvB n (os.getD i none))=os.map (lvB n):=z;rw[z',ucp];rfl
  refine⟨L,A,SqL.of (by rw[hH,cY hly hys]),A,iteNB' (λ c=>?_) (λ c=>?_)⟩
  ·rw[eall] at c;rw[c] at q;exact q H2 s2
  rw[eall] at c;rw[c,udb] at q;have all1:∀ o∈os,lvB n o=true:=uas.mp c;have at_:∀ {i:Nat},i<os.length->∃ t,vs[i]?=some (.ref t)/\H t=some (.tup (natV (natO (os.getD i none))))/\(natO (os.getD i none)).length=lenO (os.getD i none):=λ {i} hi=>by
   have ev:vs[i]?=some vs[i]:=c7 (by left);have eo:os[i]?=some os[i]:=c7 hi;obtain⟨t,e1,e2,e3⟩:=zeo (all1 os[i] (ubt hi)) (dx.2 i _ _ eo ev);refine⟨t,by rw[ev,e1],?_⟩;rw[f9,eo];exact⟨e2,e3⟩
  obtain⟨t0,et0,ht0,len0⟩:=at_ (show 0<os.length by left);have at0:atI vs 0=some (.ref t0):=bP (uau 0) et0;refine⟨A,p,Y,SqT.of (s2 _ _ hp),at0,t0,A,.inr (SqT.of (s2 _ _ ht0)),A,g0,Y,SqT.of (s2 _ _ hg0),P,A,?_⟩;have en:decide (V.int (((natV (natO (os.getD 0 none))).length:Nat):Int)=V.int n)=decide ((lenO (os.getD 0 none):Int)=n):=by
   rw[cQ,len0];by_cases z:(lenO (os.getD 0 none):Int)=n
   ·rw[ug3 z,z,ug3 rfl]
   ·rw[ug5 z];exact ug5 λ y=>z (by injection y)
  rw[en];refine iteNB' (λ c0=>?_) (λ c0=>?_)
  ·rw[c0] at q;exact q H2 s2
  rw[c0,udb] at q;refine⟨K,A,p,A,s2 _ _ hp,λ c J3 S3 h3=>?_⟩;have ecut:cutV vs (some 1) none=vs.drop 1:=cut1 vs;rw[ecut] at h3;have S23:=s2.trans S3;refine⟨p,c,rfl,⟨_,SqX.of (t:=true) (S23 _ _ hp)⟩,⟨_,SqX.of (t:=true) h3⟩,?_⟩;refine jI (t1:=true) (t2:=true) (S23 _ _ hp) h3 (λ σ'=>σ'.length=2) (λ i v _=>v=.bl ((λ i=>wiO (os.getD (1+i) none) (os.getD i none)) i)) (by left) (by rfl) (λ _ _ _ _ _ h=>h) (λ i x z T' σ' H' hx hz s4 hT sg C hC=>?_) (λ L ys H5 hL s5 hH hly hys=>?_)
  ·match σ',sg with
   | [o1,o2],_ =>
    rw[udo] at hz;have hi:1+i<os.length:=by have:=(j6.mp hz).1;left
    obtain⟨t1,et1,ht1,ln1⟩:=at_ (show i<os.length by left);obtain⟨t2,et2,ht2,ln2⟩:=at_ hi;have f2:lenO (os.getD (1+i) none)<=1000:=few _ (by rw[f9,c7 hi];exact ubt hi);rw[hx] at et1;rw[hz] at et2;cases et1;cases et2;have s6:=S23.trans s4;have sN:=aP (o:=.tup [.ref t1,.ref t2]) hT;refine⟨T',A,SqT.of aM,Z,A,M,?_⟩;exact⟨K,t2,t1,natO (os.getD (1+i) none),natO (os.getD i none),rfl,sN _ _ (s6 _ _ ht2),sN _ _ (s6 _ _ ht1),by left,λ H7 s7=>hC _ _ _ rfl (sN.trans s7) rfl⟩
  refine⟨L,A,SqL.of (by rw[hH,cY hly hys]),?_⟩;have q0:=q H5 (S23.trans s5);have em:min vs.length (vs.drop 1).length=os.length-1:=by rw[o6];left
  rw[em,ucp];exact q0
def spNoL (K:b9)(cL:j8):Sp:=λ vs H _ E=>∃ (p:j8)(n:Int)(ts:List Tie)(wv:V)(T:Option (List (Option r8)))(v:V),vs=[wv,v]/\Is K H (webD n ts) wv/\1<=n/\TX p K H T v/\tB n T=false/\∀ H',Same H H'->E (.ref cL) none H'
theorem sL {cL:j8}(T:Bi mg)(D:DefOk K mg "need_levels" s_need_levels ["web","levels"])(m_NoLevels:mg "NoLevels"=some (.ref cL))(xm_NoLevels:XM K cL)(O_are_levels:‹5› "are_levels" ["web","thing"] (spAreX K)):OkX P w K mg base 6 "need_levels" ["web","levels"] (spNoL K cL):=by
 refine dG (k:=5) D sc_need_levels (λ vs H Q E h=>?_) (λ f cdv A outer s H vs Q E hr h=>?_)
 ·obtain⟨pp,n,ts,wv,TT,v,rfl,_⟩:=h;rfl
 obtain⟨pp,n,ts,wv,TT,v,rfl,isw,n1,tx,bad,q⟩:=h;have nd:=sc_need_levels.nd;refine⟨_,(aE (aT (bU (bN (aG O_are_levels hr rfl (aA (pv 0) (aA (pv 1) aB))))) (aE (zbb hr.hd rfl m_NoLevels xm_NoLevels)) aS)),?_⟩;refine⟨K,pp,n,ts,wv,TT,v,rfl,isw,n1,tx,λ H1 s1=>⟨_,rfl,?_⟩⟩;rw[bad];exact iteT (q H1 s1)
def io (ns:List Int):Option r8:=some (.tuple (ns.map .int))
theorem nQ (ns:List Int):(ns.map udt).map toI=ns:=by
 rw[ua5];exact (ucy λ x _=>rfl).trans (List.map_id ns)
theorem rP {n:Int}{ns:List Int}(h:lvB n (io ns)=true):ns.Pairwise (·<·)/\∀ i∈ns,0<=i/\i<n:=by
 unfold lvB at h;rw[uaa] at h;obtain⟨h1,h2⟩:=h;have h1:((ns.map udt).all (plD n)&&decide (((ns.map udt).map toI).Nodup))=true:=h1;have h2:risI ((ns.map udt).map toI)=true:=h2;rw[nQ] at h2;rw[uaa] at h1;have b:=(gU h1.1).2;rw[nQ] at b;exact⟨(za6 ns).mp h2,b⟩
theorem kC {n:Int}{ns:List Int}(h:ns.Pairwise (·<·)->(∀ i∈ns,0<=i/\i<n)->False):lvB n (io ns)=false:=uaw.mpr λ z=>h (rP z).1 (rP z).2
theorem zeq {n:Int}{ds:List r8}{d:r8}(h:d∈ds)(b:plD n d=false):lvB n (some (.tuple ds))=false:=by
 refine uaw.mpr λ z=>?_;unfold lvB at z;rw[uaa] at z;have z1:(ds.all (plD n)&&decide ((ds.map toI).Nodup))=true:=z.1;rw[uaa] at z1;have:=uas.mp z1.1 d h;rw[b] at this;cases this
theorem zdh {n:Int}{o:Option r8}(h:isTO o=false):lvB n o=false:=by
 match o,h with
 | none,_=>rfl
 | some .none,_=>rfl
 | some (.bool _),_=>rfl
 | some (.int _),_=>rfl
 | some (.str _),_=>rfl
 | some (.list _),_=>rfl
 | some (.dict _),_=>rfl
theorem fU {n:Int}{os:List (Option r8)}(h:levB n os=true):os.length<=6/\1<=os.length/\(∀ o∈os,lvB n o=true)/\(lenO (os.getD 0 none):Int)=n/\∀ i,i<os.length-1->wiO (os.getD (1+i) none) (os.getD i none)=true:=by
 unfold levB at h;simp only [uaa] at h;obtain⟨⟨⟨⟨h1,h2⟩,h3⟩,h4⟩,h5⟩:=h;exact⟨ug4 h2,ug4 h1,uas.mp h3,ug4 h4,λ i hi=>uas.mp h5 i (o9.mpr hi)⟩
theorem gX {n:Int}{os:List (Option r8)}{o:Option r8}(m:o∈os)(b:lvB n o=false):levB n os=false:=uaw.mpr λ z=>by
 have:=(fU z).2.2.1 o m;rw[b] at this;cases this
theorem zdj {n:Int}{os:List (Option r8)}(m:6<os.length):levB n os=false:=uaw.mpr λ z=>by
 have:=(fU z).1;left
theorem zdi {n:Int}:levB n []=false:=uaw.mpr λ z=>by
 have:=(fU z).2.1;exact absurd this (by decide)
theorem jS {n:Int}{o:Option r8}{os:List (Option r8)}(m:(lenO o:Int)≠n):levB n (o::os)=false:=uaw.mpr λ z=>m (fU z).2.2.2.1
theorem qX {n:Int}{os:List (Option r8)}(i:Nat)(hi:i+1<os.length)(m:wiO (os.getD (1+i) none) (os.getD i none)=false):levB n os=false:=uaw.mpr λ z=>by
 have:=(fU z).2.2.2.2 i (by left);rw[m] at this;cases this
theorem gM:∀ ns:List Int,tupAll (ns.map udt)=true
 | []=>rfl
 | _::ns=>gM ns
theorem jO:∀ {a b:List r8},tupAll a=true->tupAll b=true->tupAll (a++b)=true
 | [],_,_,h=>h
 | x::a,b,h1,h2=>by
  have h1:(tupD x&&tupAll a)=true:=h1;rw[uaa] at h1;show (tupD x&&tupAll (a++b))=true;rw[h1.1,jO h1.2 h2];rfl
theorem bQ {p t:j8}{H:Hp}{ns:List Int}(h:H t=some (.tup (ns.map V.int))):DX p K H (io ns) (.ref t):=⟨⟨t,A,h,IsAll.ints ns⟩,gM ns⟩
theorem dH (ns:List Int):lenO (io ns)=ns.length:=i5 _
theorem rA {p t:j8}{H:Hp}{a b:List Int}{d:r8}{v:V}(h:H t=some (.tup (a.map V.int++[v]++b.map V.int)))(hd:Is K H d v)(td:tupD d=true):DX p K H (some (.tuple (a.map .int++[d]++b.map .int))) (.ref t):=by
 refine⟨⟨t,A,h,IsAll.append (IsAll.append (IsAll.ints a) ⟨v,[],rfl,hd,rfl⟩) (IsAll.ints b)⟩,jO (jO (gM a) ?_) (gM b)⟩;show (tupD d&&true)=true;rw[td];rfl
theorem zd9 {x:Int}{l:List Int}(h:l≠[])(hx:l.head?=some x)(s:Nat):¬ (l.take s++[x]++l.drop s).Pairwise (·<·):=by
 intro z
 match l,hx,s with
 | y::r,hx,0 =>
  have:y=x:=by simpa using hx
  subst this;have z:(y::y::r).Pairwise (·<·):=z;have:=(ub0.mp z).1 y j3;left
 | y::r,hx,s+1 =>
  have:y=x:=by simpa using hx
  subst this;have z1:=(ucb.mp z).1;have:=(ucb.mp z1).2.2 y (by simp) y (by simp);left
theorem za5 {l:List Int}(up:l.Pairwise (·<·))(h:1<l.length):¬ l.reverse.Pairwise (·<·):=by
 intro z;rw[List.pairwise_reverse] at z
 match l,h with
 | x::y::r,_ =>
  have h1:=(ub0.mp up).1 y j3;have h2:=(ub0.mp z).1 y j3;left
theorem za3 {l:List Int}(up:l.Pairwise (·<·))(h:1<l.length):¬ (l.drop 1++l.take 1).Pairwise (·<·):=by
 intro z
 match l,h with
 | x::y::r,_ =>
  have h1:=(ub0.mp up).1 y j3;have h2:=(ucb.mp z).2.2 y j3 x j3;left
theorem za4 {l:List Int}(h:0<l.length):¬ (l++l.drop (l.length-1)).Pairwise (·<·):=by
 intro z;have e:l.drop (l.length-1)=[l[l.length-1]]:=by
  rw[uee (by left)];rw[uer (by left)]
 have:=(ucb.mp z).2.2 l[l.length-1] (ubt _) l[l.length-1] (by rw[e];exact l8.mpr rfl);left
theorem zW (xs:List V):cutV xs (some (-1)) none=xs.drop (xs.length-1):=by
 have e1:HT.sIx xs.length 0 (some (-1))=xs.length-1:=by
  unfold HT.sIx;simp;left
 unfold cutV;rw[e1];rw[show HT.sIx xs.length xs.length none=xs.length from rfl];refine ubj ?_;rw[o6];exact i6 _
theorem DXs.append {p:j8}{H:Hp}{a b:List (Option r8)}{x y:List V}(h1:DXs p K H a x)(h2:DXs p K H b y):DXs p K H (a++b) (x++y):=by
 refine⟨by rw[i8,i8,h1.1,h2.1],λ i o v ho hv=>?_⟩;by_cases hi:i<a.length
 ·rw[ubd hi] at ho;rw[ubd (by rw[← h1.1];exact hi)] at hv;exact h1.2 i o v ho hv
 ·rw[uat (by left)] at ho;rw[uat (by rw[← h1.1];left),← h1.1] at hv;exact h2.2 _ o v ho hv
theorem DXs.take {p:j8}{H:Hp}{a:List (Option r8)}{x:List V}(h:DXs p K H a x)(k:Nat):DXs p K H (a.take k) (x.take k):=by
 refine⟨by rw[uac,uac,h.1],λ i o v ho hv=>?_⟩;rw[List.getElem?_take] at ho hv;by_cases hi:i<k
 ·rw[ug7 hi] at ho hv;exact h.2 i o v ho hv
 ·rw[ug8 hi] at ho;cases ho
theorem DXs.drop {p:j8}{H:Hp}{a:List (Option r8)}{x:List V}(h:DXs p K H a x)(k:Nat):DXs p K H (a.drop k) (x.drop k):=by
 refine⟨by rw[o6,o6,h.1],λ i o v ho hv=>?_⟩;rw[udo] at ho hv;exact h.2 _ o v ho hv
theorem DXs.one {p:j8}{H:Hp}{o:Option r8}{v:V}(h:DX p K H o v):DXs p K H [o] [v]:=by
 refine⟨rfl,λ i o' v' ho hv=>?_⟩
 match i with
 | 0 =>
  cases ho;cases hv;exact h
 | i+1=>cases ho
theorem DXs.nil {p:j8}{H:Hp}:DXs p K H [] []:=⟨rfl,λ i o v ho=>by cases ho⟩
theorem DXs.cons {p:j8}{H:Hp}{o:Option r8}{v:V}{a:List (Option r8)}{x:List V}(h:DX p K H o v)(h2:DXs p K H a x):DXs p K H (o::a) (v::x):=DXs.append (a:=[o]) (x:=[v]) (DXs.one h) h2
theorem DX.mv {p q:j8}{H H':Hp}{o:Option r8}{v:V}{xs:List V}(b:But q H H')(hq:H q=some (.lst xs))(h:DX q K H o v)(h2:DX p K H o v):DX p K H' o v:=by
 cases o with
 | some d=>exact⟨Is.but b hq _ h2.2 h2.1,h2.2⟩
 | none =>
  obtain⟨a,ev,z,_⟩:=h;obtain⟨a',ev',z',y⟩:=h2;rw[ev] at ev';cases ev';exact⟨a,ev,z',y.imp (λ ⟨ys,h⟩=>⟨ys,b _ _ z h⟩) (b _ _ z)⟩
theorem DXs.mv {p q:j8}{H H':Hp}{os:List (Option r8)}{ys xs:List V}(b:But q H H')(hq:H q=some (.lst xs))(h:DXs q K H os ys)(h2:DXs p K H os ys):DXs p K H' os ys:=⟨h2.1,λ i o y h3 h4=>(h.2 i o y h3 h4).mv b hq (h2.2 i o y h3 h4)⟩
theorem TX.mv {p q:j8}{H H':Hp}{T:Option (List (Option r8))}{v:V}{xs:List V}(b:But q H H')(hq:H q=some (.lst xs))(h:TX q K H T v)(h2:TX p K H T v):TX p K H' T v:=by
 cases T with
 | none =>
  obtain⟨o,h1,h3⟩:=h2;obtain⟨o',h1',h3'⟩:=h;refine⟨o,?_,h3⟩;cases o with
  | some d=>exact⟨Is.but b hq _ h1.2 h1.1,h1.2⟩
  | none =>
   obtain⟨a,ev,z,y⟩:=h1;have za:a≠q:=by
    cases o' with
    | none =>
     obtain⟨a',ev',z',_⟩:=h1';rw[ev] at ev';cases ev';exact z'
    | some d =>
     obtain⟨i1,i2⟩:=h1';rw[ev] at i1;cases d with
     | tuple ds=>cases h3'
     | none=>cases i1
     | bool _=>cases i1
     | int _=>cases i1
     | str _=>cases i1
     | list _=>cases i2
     | dict _=>cases i2
   exact⟨a,ev,z,y.imp (λ ⟨ys,h⟩=>⟨ys,b _ _ za h⟩) (b _ _ za)⟩
 | some os =>
  obtain⟨t,ys,e,ht,d,l1,l2⟩:=h2;obtain⟨t',ys',e',ht',d',_,_⟩:=h;rw[e] at e';cases e';rw[ht] at ht';cases ht';exact⟨t,ys,e,b _ _ (λ z=>by rw[z,hq] at ht;cases ht) ht,d'.mv b hq d,l1,l2⟩
def BadT (p q:j8)(K:b9)(n:Int)(H:Hp)(v:V):Prop:=∃ T,TX p K H T v/\TX q K H T v/\tB n T=false
def BadR (p q:j8)(K:b9)(n:Int)(H:Hp)(v:V):Prop:=∃ o,DX p K H o v/\DX q K H o v/\lenO o<=1000/\lvB n o=false
theorem BadT.same {p q:j8}{n:Int}{H H':Hp}{v:V}(S:Same H H')(h:BadT p q K n H v):BadT p q K n H' v:=let ⟨T,a,b,c⟩:=h;⟨T,a.same S,b.same S,c⟩
theorem BadT.butp {p q:j8}{n:Int}{H H':Hp}{v:V}{xs:List V}(S:But p H H')(pt:H p=some (.lst xs))(h:BadT p q K n H v):BadT p q K n H' v:=let ⟨T,a,b,c⟩:=h;⟨T,a.mv S pt a,a.mv S pt b,c⟩
theorem BadT.butq {p q:j8}{n:Int}{H H':Hp}{v:V}{xs:List V}(S:But q H H')(pt:H q=some (.lst xs))(h:BadT p q K n H v):BadT p q K n H' v:=let ⟨T,a,b,c⟩:=h;⟨T,b.mv S pt a,b.mv S pt b,c⟩
theorem BadR.same {p q:j8}{n:Int}{H H':Hp}{v:V}(S:Same H H')(h:BadR p q K n H v):BadR p q K n H' v:=let ⟨T,a,b,c⟩:=h;⟨T,a.same S,b.same S,c⟩
theorem BadR.butq {p q:j8}{n:Int}{H H':Hp}{v:V}{xs:List V}(S:But q H H')(pt:H q=some (.lst xs))(h:BadR p q K n H v):BadR p q K n H' v:=let ⟨T,a,b,c⟩:=h;⟨T,b.mv S pt a,b.mv S pt b,c⟩
theorem cM {p q t:j8}{n:Int}{H:Hp}{os:List (Option r8)}{ys:List V}(ht:H t=some (.tup ys))(d:DXs p K H os ys)(d':DXs q K H os ys)(l:ys.length<=1000)(f:∀ o∈os,lenO o<=1000)(b:levB n os=false):BadT p q K n H (.ref t):=⟨some os,⟨t,ys,rfl,ht,d,l,f⟩,⟨t,ys,rfl,ht,d',l,f⟩,b⟩
theorem fH {p q:j8}{n:Int}{H:Hp}{o:Option r8}{v:V}(d:DX p K H o v)(d':DX q K H o v)(b:isTO o=false):BadT p q K n H v:=⟨none,⟨o,d,b⟩,⟨o,d',b⟩,rfl⟩
theorem eZ {p q:j8}{n:Int}{H:Hp}{o:Option r8}{v:V}(d:DX p K H o v)(d':DX q K H o v)(b:isTO o=false):BadR p q K n H v:=⟨o,d,d',by match o,b with
 | none,_=>exact x8 _
 | some .none,_=>exact x8 _
 | some (.bool _),_=>exact x8 _
 | some (.int _),_=>exact x8 _
 | some (.str _),_=>exact x8 _
 | some (.list _),_=>exact x8 _
 | some (.dict _),_=>exact x8 _,zdh b⟩
theorem gI {p q t:j8}{n:Int}{H:Hp}{ns:List Int}(h:H t=some (.tup (ns.map V.int)))(l:ns.length<=1000)(b:¬ ns.Pairwise (·<·)):BadR p q K n H (.ref t):=⟨io ns,bQ h,bQ h,by rw[dH];exact l,kC λ z _=>b z⟩
theorem zcm {p q t:j8}{n:Int}{H:Hp}{a b:List Int}{d:r8}{v:V}(h:H t=some (.tup (a.map V.int++[v]++b.map V.int)))(hd:Is K H d v)(td:tupD d=true)(pd:plD n d=false)(l:a.length+1+b.length<=1000):BadR p q K n H (.ref t):=by
 refine⟨_,rA h hd td,rA h hd td,?_,zeq (d:=d) (by simp) pd⟩;show (a.map udt++[d]++b.map udt).length<=1000;rw[i8,i8,i5,i5,k9];exact l
theorem DX.fresh {p q:j8}{H:Hp}{o:Option r8}{v:V}(f:H q=none)(h:DX p K H o v):DX q K H o v:=by
 cases o with
 | some d=>exact h
 | none =>
  obtain⟨a,e,_,y⟩:=h;refine⟨a,e,λ z=>?_,y⟩;rcases y with ⟨ys,y⟩ | y
  ·rw[z,f] at y;cases y
  ·rw[z,f] at y;cases y
theorem qW {n:Int}(n1:1<=n){m:Nat}(hm:n.toNat<m):lvB n (io (keepI (d7 m)))=false:=kC λ _ b=>by
 have:=(b n (ubx.mpr ⟨n.toNat,o9.mpr hm,uao (by left)⟩)).2;left
theorem zep {n:Int}:lvB n (io [n])=false:=kC λ _ b=>by
 have:=(b n j3).2;left
theorem DX.cons7 {p:j8}{H:Hp}{o:Option r8}{v:V}(h:DX p K H o v):DXs p K H [o,o,o,o,o,o,o] [v,v,v,v,v,v,v]:=.cons h (.cons h (.cons h (.cons h (.cons h (.cons h (.one h))))))
def NoLv (K:b9)(cL:j8)(H:Hp)(E:XK)(wv v:V):Prop:=∃ (p:j8)(n:Int)(ts:List Tie)(T:Option (List (Option r8))),Is K H (webD n ts) wv/\1<=n/\n<=24/\TX p K H T v/\tB n T=false/\∀ H',Same H H'->E (.ref cL) none H'
theorem NoLv.same {cL:j8}{H H':Hp}{E:XK}{wv v:V}(S:Same H H')(h:NoLv K cL H E wv v):NoLv K cL H' E wv v:=let ⟨p,n,ts,T,isw,n1,n24,tx,bad,q⟩:=h;⟨p,n,ts,T,Is.same S _ isw,n1,n24,tx.same S,bad,λ J S'=>q J (S.trans S')⟩
def spNoL2 (K:b9)(cL:j8):Sp:=λ vs H _ E=>∃ (wv v:V),vs=[wv,v]/\NoLv K cL H E wv v
def spNoL3 (K:b9)(cL:j8):Sp:=λ vs H _ E=>∃ (wv v x:V),vs=[wv,v,x]/\NoLv K cL H E wv v
def spNoL4 (K:b9)(cL:j8):Sp:=λ vs H _ E=>∃ (wv v x y:V),vs=[wv,v,x,y]/\NoLv K cL H E wv v
theorem yZ {cL:j8}(T:Bi mg)(D:DefOk K mg "bunch" s_bunch ["web","levels","v"])(O_need_levels:OkX P w K mg base 6 "need_levels" ["web","levels"] (spNoL K cL)):OkX P w K mg base 7 "bunch" ["web","levels","v"] (spNoL3 K cL):=by
 refine dG (k:=6) D sc_bunch (λ vs H Q E h=>?_) (λ f cdv A outer s H vs Q E hr h=>?_)
 ·obtain⟨wv,v,x,rfl,_⟩:=h;rfl
 obtain⟨wv,v,x,rfl,p,n,ts,TT,isw,n1,_,tx,bad,q⟩:=h;have nd:=sc_bunch.nd;refine⟨_,(aF (bK (cT O_need_levels hr rfl (aA (pv 0) (aA (pv 1) aB)))) gG),?_⟩;exact⟨K,p,n,ts,wv,TT,v,rfl,isw,n1,tx,bad,q⟩
theorem yX {cL:j8}(T:Bi mg)(D:DefOk K mg "pivot" s_pivot ["web","levels","i","v"])(O_need_levels:OkX P w K mg base 6 "need_levels" ["web","levels"] (spNoL K cL)):OkX P w K mg base 7 "pivot" ["web","levels","i","v"] (spNoL4 K cL):=by
 refine dG (k:=6) D sc_pivot (λ vs H Q E h=>?_) (λ f cdv A outer s H vs Q E hr h=>?_)
 ·obtain⟨wv,v,x,y,rfl,_⟩:=h;rfl
 obtain⟨wv,v,x,y,rfl,p,n,ts,TT,isw,n1,_,tx,bad,q⟩:=h;have nd:=sc_pivot.nd;refine⟨_,(aF (bK (cT O_need_levels hr rfl (aA (pv 0) (aA (pv 1) aB)))) gG),?_⟩;exact⟨K,p,n,ts,wv,TT,v,rfl,isw,n1,tx,bad,q⟩
theorem yY {cL:j8}(T:Bi mg)(D:DefOk K mg "climb" s_climb ["web","levels","u","v"])(O_need_levels:OkX P w K mg base 6 "need_levels" ["web","levels"] (spNoL K cL)):OkX P w K mg base 7 "climb" ["web","levels","u","v"] (spNoL4 K cL):=by
 refine dG (k:=6) D sc_climb (λ vs H Q E h=>?_) (λ f cdv A outer s H vs Q E hr h=>?_)
 ·obtain⟨wv,v,x,y,rfl,_⟩:=h;rfl
 obtain⟨wv,v,x,y,rfl,p,n,ts,TT,isw,n1,_,tx,bad,q⟩:=h;have nd:=sc_climb.nd;refine⟨_,(aF (bK (cT O_need_levels hr rfl (aA (pv 0) (aA (pv 1) aB)))) gG),?_⟩;exact⟨K,p,n,ts,wv,TT,v,rfl,isw,n1,tx,bad,q⟩
theorem tE {cL:j8}(T:Bi mg)(D:DefOk K mg "bunches_of" s_bunches_of ["web","levels"])(O_bunch:OkX P w K mg base 7 "bunch" ["web","levels","v"] (spNoL3 K cL)):OkX P w K mg base 8 "bunches_of" ["web","levels"] (spNoL2 K cL):=by
 refine dG (k:=7) D sc_bunches_of (λ vs H Q E h=>?_) (λ f cdv A outer s H vs Q E hr h=>?_)
 ·obtain⟨wv,v,rfl,_⟩:=h;rfl
 obtain⟨wv,v,rfl,nl⟩:=h;have nd:=sc_bunches_of.nd;obtain⟨p,n,ts,TT,isw,n1,n24,_⟩:=id nl;obtain⟨g0,g,ws,rfl,hg0,hg,hall,hlw⟩:=bY isw;refine⟨_,(aE (aH (zbf (N:=["web","levels"]) (sc0:=defScope s_bunches_of) (own:=["v"]) (fr:=["web","levels"]) (js:=[0,1]) rfl ze6 (cS rfl T.z_range (aA (aK aV (pv 0) aC (λ _ _=>rfl)) aB)) (λ _ _ _ _=>(aN (i:=0) (by show uan [("v":Str),("web":Str),("levels":Str)];decide +kernel) rfl (v6 rfl))) (λ _ _ _ _=>bS) (λ _ _ _ _ _ hZ=>(bB (lQ rfl) rfl T.z_dict (by symm) (aA (yT O_bunch hr rfl hZ (aA (pv 1) (aA (pv 2) (aA (pv 0) aB)))) aB)))))),?_⟩;refine⟨A,g0,Y,SqT.of hg0,rfl,n,rfl,by left,by left,?_⟩;refine mD (n:=n.toNat) (lo:=0) (λ σ'=>∃ o,σ'=[o,some (.ref g0),some v]) (λ _ _ _=>False) (by left) (by exact⟨none,rfl⟩) (λ _ _ _ _ _ h=>h) (λ i σ' H' hi s3 sg C hC=>?_) (λ L ys H3 hL s3 hH3 hly hys=>?_)
 ·obtain⟨o,rfl⟩:=sg;exact⟨K,A,V,A,nl.same s3⟩
 ·have hz:ys[0]?=some ys[0]:=c7 (by left);exact (hys 0 _ hz).elim
theorem sO {cL:j8}(T:Bi mg)(D:DefOk K mg "level_paper" s_level_paper ["web","levels"])(O_bunches_of:OkX P w K mg base 8 "bunches_of" ["web","levels"] (spNoL2 K cL)):OkX P w K mg base 9 "level_paper" ["web","levels"] (spNoL2 K cL):=by
 refine dG (k:=8) D sc_level_paper (λ vs H Q E h=>?_) (λ f cdv A outer s H vs Q E hr h=>?_)
 ·obtain⟨wv,v,rfl,_⟩:=h;rfl
 obtain⟨wv,v,rfl,nl⟩:=h;have nd:=sc_level_paper.nd;refine⟨_,(aF (aQ (i:=2) nd rfl (ufn rfl) (cT O_bunches_of hr rfl (aA (pv 0) (aA (pv 1) aB)))) gG),?_⟩;exact⟨K,_,A,nl⟩
theorem tD {cL:j8}(T:Bi mg)(D:DefOk K mg "level_keep" s_level_keep ["web","levels"])(O_ties_of_trees:‹8› "ties_of_trees" ["web","trees"] (spTiesTr K))(O_cluster_trees:‹8› "cluster_trees" ["web","bunches"] (spClTreesF K))(O_bunches_of:OkX P w K mg base 8 "bunches_of" ["web","levels"] (spNoL2 K cL)):OkX P w K mg base 9 "level_keep" ["web","levels"] (spNoL2 K cL):=by
 refine dG (k:=8) D sc_level_keep (λ vs H Q E h=>?_) (λ f cdv A outer s H vs Q E hr h=>?_)
 ·obtain⟨wv,v,rfl,_⟩:=h;rfl
 obtain⟨wv,v,rfl,nl⟩:=h;have nd:=sc_level_keep.nd;refine⟨_,(aE (aH (aG O_ties_of_trees hr rfl (aA (pv 0) (aA (aG O_cluster_trees hr rfl (aA (pv 0) (aA (cT O_bunches_of hr rfl (aA (pv 0) (aA (pv 1) aB))) aB))) aB))))),?_⟩;exact⟨K,K,_,A,nl⟩
structure XF64 (K:b9)(cE cL c1 c2 c3 c4 c5 c6 d1 d2 d3 d4 d5 d6:j8):Prop where
 xw:X9.XC K cL
 mw:PySem.W.exmOne K (.ref cL) (.ref cE)=some true
 vw:uds K (.ref cL) (.type "ValueError")=some true
 ww:uds K (.ref cL) (.ref cL)=some true
 na:uf4 K (.ref cL) ([c1,c2,c3,c4,c5,c6].map Value.ref)=some false
 nb:uf4 K (.ref cL) ([d1,d2,d3,d4,d5,d6].map Value.ref)=some false
def spAskX (K:b9)(cL:j8):Sp:=λ vs H _ E=>∃ (way:Int)(wv v:V)(lp:j8)(a b:V),vs=[.int way,wv,v,.ref lp]/\H lp=some (.lst [a,b])/\NoLv K cL H E wv v
theorem tK {cL:j8}(T:Bi mg)(D:DefOk K mg "_law_asked" s__law_asked ["way","web","levels","places"])(O_bunch:OkX P w K mg base 9 "bunch" ["web","levels","v"] (spNoL3 K cL))(O_pivot:OkX P w K mg base 9 "pivot" ["web","levels","i","v"] (spNoL4 K cL))(O_climb:OkX P w K mg base 9 "climb" ["web","levels","u","v"] (spNoL4 K cL))(O_level_keep:OkX P w K mg base 9 "level_keep" ["web","levels"] (spNoL2 K cL))(O_level_paper:OkX P w K mg base 9 "level_paper" ["web","levels"] (spNoL2 K cL)):OkX P w K mg base 10 "_law_asked" ["way","web","levels","places"] (spAskX K cL):=by
 refine dG (k:=9) D sc__law_asked (λ vs H Q E h=>?_) (λ f cdv A outer s H vs Q E hr h=>?_)
 ·obtain⟨way,wv,v,lp,a,b,rfl,_⟩:=h;rfl
 obtain⟨way,wv,v,lp,a,b,rfl,hl,nl⟩:=h;have nd:=sc__law_asked.nd;have l0:atI [a,b] 0=some a:=rfl;have l1:atI [a,b] 1=some b:=rfl;refine⟨_,(aF (aT (aR bA (pv 0) aC (nomark _)) (aE (aH (cT O_bunch hr rfl (aA (pv 1) (aA (pv 2) (aA (aK aW (pv 3) aC (λ _ _=>rfl)) aB)))))) aS) (aF (aT (aR bA (pv 0) aC (nomark _)) (aE (aH (cT O_pivot hr rfl (aA (pv 1) (aA (pv 2) (aA aC (aA (aK aW (pv 3) aC (λ _ _=>rfl)) aB))))))) aS) (aF (aT (aR bA (pv 0) aC (nomark _)) (aE (aH (cT O_climb hr rfl (aA (pv 1) (aA (pv 2) (aA (aK aW (pv 3) aC (λ _ _=>rfl)) (aA (aK aW (pv 3) aC (λ _ _=>rfl)) aB))))))) aS) (aF (aT (aR bA (pv 0) aC (nomark _)) (aE (aH (cT O_level_keep hr rfl (aA (pv 1) (aA (pv 2) aB))))) aS) (aE (aH (cT O_level_paper hr rfl (aA (pv 1) (aA (pv 2) aB))))))))),?_⟩;refine⟨E,A,ite2 (λ _=>?_) (λ _=>?_)⟩
 ·exact⟨K,A,lp,Y,SqL.of hl,l0,V,A,nl⟩
 refine⟨E,A,ite2 (λ _=>?_) (λ _=>?_)⟩
 ·exact⟨K,A,lp,Y,SqL.of hl,l0,V,_,A,nl⟩
 refine⟨E,A,ite2 (λ _=>?_) (λ _=>?_)⟩
 ·exact⟨K,A,lp,Y,SqL.of hl,l0,A,lp,Y,SqL.of hl,l1,V,_,A,nl⟩
 refine⟨E,A,ite2 (λ _=>?_) (λ _=>?_)⟩
 ·exact⟨K,_,A,nl⟩
 ·exact⟨K,_,A,nl⟩
def spAskN (K:b9):Sp:=λ vs H Q _=>∃ (way:Int)(n:Int)(ts:List Tie)(ls:List (List Nat))(wv lv:V)(lp:j8)(a b:Int),vs=[.int way,wv,lv,.ref lp]/\Is K H (webD n ts) wv/\WebOk n ts/\Lv K H n.toNat ls lv/\H lp=some (.lst [.int a,.int b])/\0<=a/\a<n/\0<=b/\b<n/\∀ v H',Same H H'->Q v H'
theorem tL (T:Bi mg)(D:DefOk K mg "_law_asked" s__law_asked ["way","web","levels","places"])(O_bunch:‹9› "bunch" ["web","levels","v"] (spBunch K))(O_pivot:‹9› "pivot" ["web","levels","i","v"] (spPivot K))(O_climb:‹9› "climb" ["web","levels","u","v"] (spClimb K))(O_level_keep:‹9› "level_keep" ["web","levels"] (spLevKeep K))(O_level_paper:‹9› "level_paper" ["web","levels"] (spLevPap K)):‹10› "_law_asked" ["way","web","levels","places"] (spAskN K):=by
 exists 9,sc__law_asked;obtain⟨way,n,ts,ls,wv,lv,lp,a,b,rfl,isw,ok,isl,hl,a0,a1,b0,b1,q⟩:=h;have l0:atI [V.int a,.int b] 0=some (.int a):=rfl;have l1:atI [V.int a,.int b] 1=some (.int b):=rfl;have one:=isl.2.1.one;refine⟨_,(aF (aT (aR bA (pv 0) aC (nomark _)) (aE (aH (aG O_bunch hr rfl (aA (pv 1) (aA (pv 2) (aA (aK aW (pv 3) aC (λ _ _=>rfl)) aB)))))) aS) (aF (aT (aR bA (pv 0) aC (nomark _)) (aE (aH (aG O_pivot hr rfl (aA (pv 1) (aA (pv 2) (aA aC (aA (aK aW (pv 3) aC (λ _ _=>rfl)) aB))))))) aS) (aF (aT (aR bA (pv 0) aC (nomark _)) (aE (aH (aG O_climb hr rfl (aA (pv 1) (aA (pv 2) (aA (aK aW (pv 3) aC (λ _ _=>rfl)) (aA (aK aW (pv 3) aC (λ _ _=>rfl)) aB))))))) aS) (aF (aT (aR bA (pv 0) aC (nomark _)) (aE (aH (aG O_level_keep hr rfl (aA (pv 1) (aA (pv 2) aB))))) aS) (aE (aH (aG O_level_paper hr rfl (aA (pv 1) (aA (pv 2) aB))))))))),?_⟩;refine⟨E,A,ite2 (λ _=>?_) (λ _=>?_)⟩
 ·exact⟨K,A,lp,Y,SqL.of hl,l0,n,ts,ls,wv,lv,a,rfl,isw,ok,isl,a0,a1,λ t ys D H' S _ _ _=>q _ H' S⟩
 refine⟨E,A,ite2 (λ _=>?_) (λ _=>?_)⟩
 ·exact⟨K,A,lp,Y,SqL.of hl,l0,n,ts,ls,wv,lv,0,a,rfl,isw,ok,isl,one,a0,a1,λ o D H' S _ _=>q _ H' S⟩
 refine⟨E,A,ite2 (λ _=>?_) (λ _=>?_)⟩
 ·exact⟨K,A,lp,Y,SqL.of hl,l0,A,lp,Y,SqL.of hl,l1,n,ts,ls,wv,lv,a.toNat,b.toNat,by rw[uao a0,uao b0];rfl,isw,ok,isl,by left,by left,λ r Du Dv H' S _ _ _=>q _ H' S⟩
 refine⟨E,A,ite2 (λ _=>?_) (λ _=>?_)⟩
 ·exact⟨K,n,ts,ls,wv,lv,rfl,isw,ok,isl,λ t H' S _=>q _ H' S⟩
 ·exact⟨K,n,ts,ls,wv,lv,rfl,isw,ok,isl,λ v H' S _ _=>q _ H' S⟩
def spRef64 (K:b9):Sp:=λ vs H Q _=>∃ (p:j8)(n:Int)(ts:List Tie)(TT:Option (List (Option r8)))(way:Int)(wv v:V)(lp:j8)(a b:V),vs=[.int way,wv,v,.ref lp]/\H lp=some (.lst [a,b])/\Is K H (webD n ts) wv/\1<=n/\n<=24/\TX p K H TT v/\tB n TT=false/\∀ H',Same H H'->Q (.bl true) H'
theorem sB {cE cL c1 c2 c3 c4 c5 c6 d1 d2 d3 d4 d5 d6:j8}(T:Bi mg)(D:DefOk K mg "_law_refused" s__law_refused ["way","web","levels","places"])(m_ThinError:mg "ThinError"=some (.ref cE))(m_NoLevels:mg "NoLevels"=some (.ref cL))(m_NoBack:mg "NoBack"=some (.ref c1))(m_NoFalls:mg "NoFalls"=some (.ref c2))(m_NoLength:mg "NoLength"=some (.ref c3))(m_NoLine:mg "NoLine"=some (.ref c4))(m_NoOrder:mg "NoOrder"=some (.ref c5))(m_NoPlain:mg "NoPlain"=some (.ref c6))(m_NoShare:mg "NoShare"=some (.ref d1))(m_NoText:mg "NoText"=some (.ref d2))(m_NoTie:mg "NoTie"=some (.ref d3))(m_NoTimes:mg "NoTimes"=some (.ref d4))(m_NoWeb:mg "NoWeb"=some (.ref d5))(m_TooMany:mg "TooMany"=some (.ref d6))(z_ValueError:mg "ValueError"=none)(X:XF64 K cE cL c1 c2 c3 c4 c5 c6 d1 d2 d3 d4 d5 d6)(O__law_asked:OkX P w K mg base 10 "_law_asked" ["way","web","levels","places"] (spAskX K cL)):‹11› "_law_refused" ["way","web","levels","places"] (spRef64 K):=by
 exists 10,sc__law_refused;obtain⟨p,n,ts,TT,way,wv,v,lp,a,b,rfl,hl,isw,n1,n24,tx,bad,q⟩:=h;refine⟨_,(aF (aQ (i:=4) nd rfl (v6 rfl) bD) (aF (zeb (i:=4) (j:=5) O__law_asked hr rfl (aA (pv 0) (aA (pv 1) (aA (pv 2) (aA (pv 3) aB)))) nd m_ThinError) (aF (aT (PW.pt (dI (bU (bN (aO zad rfl T.z_isinstance (by symm) (aA (pv 4) (aA (bZ (v:=V.ref _) rfl m_NoLevels rfl) aB))))) (dE (bU (bN (aO (xY (n:="ValueError")) rfl T.z_isinstance (by symm) (aA (pv 4) (aA (dM (v:=.ty "ValueError") rfl z_ValueError (by symm) rfl) aB)))))))) (aE (aH bV)) aS) (aF (aT (bN (aO mH rfl T.z_isinstance (by symm) (aA (pv 4) (aA (aZ (aA (bZ (v:=V.ref _) rfl m_NoBack rfl) (aA (bZ (v:=V.ref _) rfl m_NoFalls rfl) (aA (bZ (v:=V.ref _) rfl m_NoLength rfl) (aA (bZ (v:=V.ref _) rfl m_NoLine rfl) (aA (bZ (v:=V.ref _) rfl m_NoOrder rfl) (aA (bZ (v:=V.ref _) rfl m_NoPlain rfl) aB))))))) aB)))) (aE (aH bV)) aS) (aE (aH (qQ (aO mH rfl T.z_isinstance (by symm) (aA (pv 4) (aA (aZ (aA (bZ (v:=V.ref _) rfl m_NoShare rfl) (aA (bZ (v:=V.ref _) rfl m_NoText rfl) (aA (bZ (v:=V.ref _) rfl m_NoTie rfl) (aA (bZ (v:=V.ref _) rfl m_NoTimes rfl) (aA (bZ (v:=V.ref _) rfl m_NoWeb rfl) (aA (bZ (v:=V.ref _) rfl m_TooMany rfl) aB))))))) aB)))))))))),?_⟩;refine⟨K,K,way,wv,v,lp,a,b,rfl,hl,p,n,ts,TT,isw,n1,n24,tx,bad,λ H1 S1=>?_⟩;refine⟨cL,rfl,X.mw,λ a ha=>?_⟩;have Sa:Same H (upd H1 a (.ext (X9.IsX a cL))):=S1.trans (aP ha);refine⟨A,a,cL,cL,A,aM,X.xw,X.ww,A,iteF ?_⟩;refine⟨A,a,cL,A,aM,X.xw,X.vw,A,iteF ?_⟩;refine⟨A,(by show 6<=1000;decide),λ p1 J1 T1 f1 e1=>?_⟩;refine⟨a,cL,p1,[c1,c2,c3,c4,c5,c6],false,rfl,T1 _ _ aM,e1,X.xw,X.na,A,iteF ?_⟩;refine⟨A,(by show 6<=1000;decide),λ p2 J2 T2 f2 e2=>?_⟩;refine⟨a,cL,p2,[d1,d2,d3,d4,d5,d6],false,rfl,T2 _ _ (T1 _ _ aM),e2,X.xw,X.nb,?_⟩;exact⟨A,q J2 (Sa.trans (T1.trans T2))⟩
theorem brT1 {α:Sort _}{A T:α->Prop}{B:Prop}(main:(∀ x,A x->T x)->B)(tail:∀ x,A x->T x):B:=main tail
theorem zbn {tz:j8}{n:Int}(n1:1<=n)(n24:n<=24)(r:Int)(r0:0<=r)(r1:r<8):∃ x d,atI [V.int n,.int (0-1),.int (10^(59:Int).toNat),.non,.str "0",.ref tz,.bl (decide (V.int 0=V.int 0)),.bl (decide (V.int 0=V.int 1))] r=some x/\(∀ J:Hp,J tz=some (.tup [.int 0])->Is K J d x)/\tupD d=true/\plD n d=false:=by
 have:r=0\/r=1\/r=2\/r=3\/r=4\/r=5\/r=6\/r=7:=by left
 rcases this with rfl | rfl | rfl | rfl | rfl | rfl | rfl | rfl
 ·refine⟨_,.int n,rfl,λ _ _=>rfl,rfl,?_⟩;show (decide (0<=n)&&decide (n<n))=false;rw[ug5 (Int.lt_irrefl n),ue9]
 ·refine⟨_,.int (0-1),rfl,λ _ _=>rfl,P⟩
 ·refine⟨_,.int (10^(59:Int).toNat),rfl,λ _ _=>rfl,rfl,?_⟩;show (decide (0<=(10:Int)^(59:Int).toNat)&&decide ((10:Int)^(59:Int).toNat<n))=false;have:(24:Int)<=10^(59:Int).toNat:=by symm
  rw[ug5 (show ¬ (10:Int)^(59:Int).toNat<n by left),ue9]
 ·exact⟨_,.none,rfl,λ _ _=>rfl,P⟩
 ·exact⟨_,.str "0",rfl,λ _ _=>rfl,P⟩
 ·exact⟨_,.tuple [.int 0],rfl,λ J h=>⟨tz,_,rfl,h,_,_,rfl,rfl,rfl⟩,P⟩
 ·exact⟨_,.bool true,rfl,λ _ _=>rfl,P⟩
 ·exact⟨_,.bool false,rfl,λ _ _=>rfl,P⟩
def spSpo64 (K:b9):Sp:=λ vs H Q _=>∃ (p:j8)(n:Int)(ls:List (List Nat))(lv:V),vs=[.ref p,.int n,lv]/\Pot H p/\1<=n/\n<=24/\Lv K H n.toNat ls lv/\∀ fl us H',But p H H'->Pot H' p->H' fl=some (.lst us)->fl≠p->us.length<=1000->(∀ v∈us,BadT p fl K n H' v)->Q (.ref fl) H'
theorem sG (T:Bi mg)(D:DefOk K mg "_law_spoilt" s__law_spoilt ["pot","n","levels"])(O__law_take:‹1› "_law_take" ["pot","many"] spTake):‹2› "_law_spoilt" ["pot","n","levels"] (spSpo64 K):=by
 exists 1,sc__law_spoilt;obtain⟨p,n,ls,lv,rfl,hp,n1,n24,isl,q⟩:=h;obtain⟨isv,lo,_⟩:=isl;obtain⟨lt,vs,rfl,hlt,hl,hat⟩:=fF isv;have one:=lo.one;have six:=lo.six;have ntp:∀ {J:Hp}{a:j8}{xs:List V},Pot J p->J a=some (.tup xs)->a≠p:=λ pt h z=>by
  obtain⟨ys,e⟩:=pt.lst;rw[z,e] at h;cases h
 refine⟨_,(BSs.h (cG (fV (i:=3) nd rfl (ufn rfl) (BE.mk (aG O__law_take hr rfl (aA (pv 0) (aA (aO bO rfl T.z_len (by symm) (aA (pv 2) aB)) aB))))) (cG (fV (i:=4) nd rfl (v6 rfl) (kR aV (BE.mk (pv 2)) (BE.mk (pv 3)) (λ _ _=>rfl))) (cG (fV (i:=5) nd rfl (v6 rfl) (BE.mk (aG O__law_take hr rfl (aA (pv 0) (aA (aL bR (aO bO rfl T.z_len (by symm) (aA (pv 4) aB)) aC) aB))))) (cG (fV (i:=6) nd rfl (v6 rfl) (jZ (pB (BE.mk (pv 1)) (eH (BE.mk (aL dA aC aC)) (eH (BE.mk (aL cK aC aC)) (eG (BE.mk bD) (eG (BE.mk iC) (jK (dN (eG (BE.mk aC) cU)) (qJ (BE.mk (bC bA aC aC (nomark _))) (qJ (BE.mk (bC bA aC aC (nomark _))) cU)))))))))) (cG (fV (i:=7) nd rfl (v6 rfl) (jZ (jL (BE.mk (bB mG rfl T.z_list (by symm) (aA (pv 4) aB))) (eH (fX cA (fX cA (BE.mk (bH bI (pv 4) bG (bL (pv 5)))) (dN (pA (kR aW (BE.mk (pv 6)) (BE.mk (aG O__law_take hr rfl (aA (pv 0) (aA aC aB)))) (λ _ _=>rfl)) cU))) (BE.mk (bH bI (pv 4) (bL (pv 5)) bG))) (eG (BE.mk bD) (eG (BE.mk aC) (eG (BE.mk iC) (zcn (BE.mk mM) cU)))))))) (cG (kQ (aR dS (aO bO rfl T.z_len (by symm) (aA (pv 4) aB)) aC (nomark _)) (iA (BS.mk (bK (cF uai ub9 ub7 gC (pv 7) (aA (aL cA (aL cA (bH bI (pv 4) bG (bL (pv 5))) (bH bI (pv 4) bG (bL aC))) (bH bI (pv 4) (bL (pv 5)) bG)) aB))))) jY) (cG (kQ (aR dS (aO bO rfl T.z_len (by symm) (aA (pv 4) aB)) aC (nomark _)) (iA (BS.mk (bK (cF uai ub8 ub6 eV (pv 7) (aA (cH (aA (yS zd6 (pv 4) bG (eR eK aC)) (aA (aL cA (bH bI (pv 4) (bL aC) bG) (bH bI (pv 4) bG (bL aC))) (aA (aL cA (pv 4) (bH bI (pv 4) (bL (eR eK aC)) bG)) aB)))) aB))))) jY) (cG (BS.mk (lS (i:=8) (N:=["pot","n","levels","at","row","spot","others","rows","found"]) (sc0:=defScope s__law_spoilt) (own:=["one"]) (fr:=["levels","at"]) (js:=[2,3]) rfl (gW (pv 7)) (λ _ _ _ _=>(aN (i:=0) (by show uan [("one":Str),("levels":Str),("at":Str)];decide +kernel) rfl (v6 rfl))) (λ _ _ _ _=>bS) (λ _ _ _ _=>(aL cA (aL cA (bH bI (pv 1) bG (bL (pv 2))) (aZ (aA (pv 0) aB))) (bH bI (pv 1) (bL (aL bR (pv 2) aC)) bG))) nd rfl (v6 rfl))) (cG (BS.mk (bK (cF uai ub8 ub6 eV (pv 8) (aA (BE.h (jZ (jL (BE.mk (bB mG rfl T.z_list (by symm) (aA (pv 2) aB))) (jK (dN cU) (eH (fX zbi (dN (pA (kR aV (BE.mk (pv 2)) (BE.mk aC) (λ _ _=>rfl)) cU)) (BE.mk aC)) (eH (fX cA (BE.mk (pv 2)) (dN (jK (dN (pB (BE.mk (pv 1)) cU)) cU))) (eH (fX cA (BE.mk (pv 2)) (dN (jL (BE.mk (bB (fZ rfl) rfl T.z_tuple (by symm) (aA (bB eW rfl T.z_range (by symm) (aA (aL bR (pv 1) aC) aB)) aB))) cU))) cU))))))) aB)))) (cG (BS.mk (bK (cF uai ub8 ub6 eV (pv 8) (aA (cH (aA bD (aA (pv 1) (aA iC (aA mM aB))))) aB)))) (cG (BS.mk (bK (cF uai ub8 ub6 eV (pv 8) (aA (cH (aA (aL cA (bH bI (pv 2) bG (bL aC)) (aZ (aA (aZ aB) (aA (aZ (aA (aG O__law_take hr rfl (aA (pv 0) (aA (pv 1) aB))) aB)) aB)))) (aA (aL cA (aZ (aA (bB (fZ rfl) rfl T.z_tuple (by symm) (aA (bB eW rfl T.z_range (by symm) (aA (aL bR (pv 1) aC) aB)) aB)) aB)) (bH bI (pv 2) (bL aC) bG)) aB))) aB)))) (cG (kQ (aR dS (pv 1) aC (nomark _)) (iA (BS.mk (bK (cF uai ub8 ub6 eV (pv 8) (aA (cH (aA (aZ (aA (bH bI (aK aV (pv 2) aC (λ _ _=>rfl)) (bL aC) bG) aB)) (aA (aL cA (aZ (aA (bH bI (aK aV (pv 2) aC (λ _ _=>rfl)) bG (bL (eR eK aC))) aB)) (bH bI (pv 2) (bL aC) bG)) (aA (aZ (aA (aZ aB) aB)) (aA (aZ (aA (aK aV (pv 2) aC (λ _ _=>rfl)) (aA (aZ (aA aC (aA aC aB))) (aA (aZ (aA aC aB)) (aA (aZ (aA aC aB)) aB))))) aB))))) aB))))) jY) (iA (ze4 (BE.mk (pv 8))))))))))))))))),?_⟩;refine⟨K,lt,A,.inr (SqT.of hlt),p,A,hp,by left,by left,λ at_ J1 a0 a1 b1 p1=>?_⟩;have hat1:∀ (i:Nat),i<ls.length->∃ t,vs[i]?=some (V.ref t)/\J1 t=some (.tup (natV (lvl ls i))):=λ i hi=>by
  obtain⟨t,e1,e2⟩:=hat i hi;exact⟨t,e1,b1 _ _ (ntp hp e2) e2⟩
 have hlt1:=b1 _ _ (ntp hp hlt) hlt;obtain⟨rt,ert,hrt⟩:=hat1 at_.toNat (by left);obtain⟨l,el⟩:∃ l,l=lvl ls at_.toNat:=⟨_,rfl⟩;have up:=lo.rise at_.toNat;have inn:=lo.inn at_.toNat;have ll:=lo.len at_.toNat;rw[← el] at hrt up inn ll;refine⟨K,lt,Y,SqT.of hlt1,bP a0 ert,?_⟩;refine⟨K,rt,A,.inr (SqT.of hrt),M,p,A,p1,by rw[cQ];left,by rw[cQ];left,λ sp J2 sp0 sp1 b2 p2=>?_⟩;have hrt2:=b2 _ _ (ntp p1 hrt) hrt;have hlt2:=b2 _ _ (ntp p1 hlt1) hlt1;have hat2:∀ (i:Nat),i<ls.length->∃ t,vs[i]?=some (V.ref t)/\J2 t=some (.tup (natV (lvl ls i))):=λ i hi=>by
  obtain⟨t,e1,e2⟩:=hat1 i hi;exact⟨t,e1,b2 _ _ (ntp p1 e2) e2⟩
 refine⟨A,M,M,⟨by decide,by decide,by decide⟩,(by show 1<=1000;decide),λ tz J3 S3 f3 e3=>⟨rfl,rfl,(by show 8<=1000;decide),λ lq J4 S4 f4 e4=>?_⟩⟩;have nlq:lq≠p:=λ z=>by
  obtain⟨ys,e⟩:=(p2.same S3).lst;rw[z,e] at f4;cases f4
 have p4:=p2.same (S3.trans S4);have hrt4:=(S3.trans S4) _ _ hrt2;have oth:=zbn (K:=K) (tz:=tz) n1 n24
 refine⟨A,rt,A,.inr hrt4,λ la J5 S5 f5 e5=>?_⟩;have nla:la≠p:=λ z=>by
  obtain⟨ys,e⟩:=p4.lst;rw[z,e] at f5;cases f5
 have p5:=p4.same S5;refine⟨K,A,rt,A,S5 _ _ hrt4,λ c1 J6 S6 e6=>?_⟩;have p6:=p5.same S6;refine⟨K,p,8,rfl,p6,by decide,by decide,λ r J7 r0 r1 b7 p7=>?_⟩;obtain⟨x,d,ex,isd,td,pd⟩:=oth r r0 r1;have e47:J7 lq=some (.lst _):=b7 _ _ nlq (S6 _ _ (S5 _ _ e4));refine⟨lq,Y,SqL.of e47,ex,(by show 1<=1000;decide),λ t1 J8 S8 f8 e8=>?_⟩;have hc1:=S8 _ _ (b7 _ _ (ntp p6 e6) e6);obtain⟨sk,rfl⟩:∃ sk:Nat,sp=(sk:Int):=⟨sp.toNat,by left⟩;rw[eJ] at hc1;have lt1:((natV l).take sk).length<=24:=by rw[uac,cQ];left
 refine⟨c1,t1,M,hc1,e8,o8 (show _<=1000 by rw[k9];left) (by decide),λ t2 J9 S9 e9=>?_⟩;have hrt9:J9 rt=some (.tup (natV l)):=S9 _ _ (S8 _ _ (b7 _ _ (ntp p6 (S6 _ _ (S5 _ _ hrt4))) (S6 _ _ (S5 _ _ hrt4))));refine⟨K,A,rt,A,hrt9,λ c2 Ja Sa ea=>?_⟩;rw[dY] at ea;have ld1:((natV l).drop sk).length<=24:=by rw[o6,cQ];left
 refine⟨t2,c2,M,Sa _ _ e9,ea,o8 (show _<=1000 by rw[i8,k9];left) (by decide),λ t3 Jb Sb eb=>?_⟩;refine λ ldc Jc Sc fc ec=>⟨(by show 6<=1000;decide),λ lr Jd Sd fd ed=>?_⟩;obtain⟨nsl,ensl⟩:∃ nsl,nsl=keepI l:=⟨_,rfl⟩;have lns:nsl.length=l.length:=by rw[ensl];exact i5 _
 have upI:nsl.Pairwise (·<·):=by
  rw[ensl];unfold keepI;rw[uce];exact up.imp λ h=>by left
 have enat:natV l=nsl.map V.int:=by rw[ensl,bM]
 have lr_ne:∀ {a:j8}{ob:HO},Jc a=some ob->a≠lr:=λ {a ob} h z=>by rw[z,fd] at h;cases h
 have S9c:=Sa.trans (Sb.trans Sc);have S8c:=S9.trans S9c;have hla:Jc la=some (.lst (natV l)):=S8c _ _ (S8 _ _ (b7 _ _ nla (S6 _ _ e5)));have htz:Jc tz=some (.tup [.int 0]):=S8c _ _ (S8 _ _ (b7 _ _ (ntp p6 (S6 _ _ (S5 _ _ (S4 _ _ e3)))) (S6 _ _ (S5 _ _ (S4 _ _ e3)))));have ht3:Jc t3=some (.tup ((nsl.take sk).map V.int++[x]++(nsl.drop sk).map V.int)):=by
  rw[Sc _ _ eb,enat,uen,ud5]
 have pc:Pot Jc p:=((((p7.same S8).same S9).same Sa).same Sb).same Sc;have ncp:∀ {a:j8}{ob:HO},Jb a=none->a≠p:=λ {a ob} h z=>by
  obtain⟨ys,e⟩:=((((p7.same S8).same S9).same Sa).same Sb).lst;rw[z,e] at h;cases h
 have six0:∀ v∈[V.ref la,.ref t3,.non,.int 0,.str "",.ref ldc],BadR p lr K n Jd v:=λ v hv=>by
  simp only [j4,m7,or_false] at hv;rcases hv with rfl | rfl | rfl | rfl | rfl | rfl
  ·exact eZ (o:=none) ⟨la,rfl,nla,.inl ⟨_,Sd _ _ hla⟩⟩ ⟨la,rfl,lr_ne hla,.inl ⟨_,Sd _ _ hla⟩⟩ rfl
  ·exact zcm (Sd _ _ ht3) (isd Jd (Sd _ _ htz)) td pd (by rw[uac,o6];left)
  ·exact eZ (o:=some .none) ⟨P⟩ ⟨P⟩ rfl
  ·exact eZ (o:=some (.int 0)) ⟨P⟩ ⟨P⟩ rfl
  ·exact eZ (o:=some (.str "")) ⟨P⟩ ⟨P⟩ rfl
  ·exact eZ (o:=none) ⟨ldc,rfl,ncp (ob:=.dK []) fc,.inr (Sd _ _ ec)⟩ ⟨ldc,rfl,lr_ne ec,.inr (Sd _ _ ec)⟩ rfl
 have hrtc:Jc rt=some (.tup (nsl.map V.int)):=by rw[← enat];exact S9c _ _ hrt9
 have nrt:=lr_ne hrtc;have lm:∀ ms:List Int,(ms.map V.int).length=ms.length:=λ ms=>i5 _
 apply brT1 (A:=λ (J:Hp)=>But lr Jd J/\∃ us,J lr=some (.lst us)/\us.length<=7/\∀ v∈us,BadR p lr K n J v)
 case main =>
  intro tail;refine⟨A,rt,A,.inr (SqT.of (Sd _ _ hrtc)),M,A,ite2 (λ c=>?_) (λ c=>?_)⟩
  ·have c0:0<nsl.length:=by have:=ug4 c;rw[lm] at this;left
   refine⟨A,.inl ⟨Z,SqL.of ed⟩,K,A,rt,A,Sd _ _ hrtc,λ k1 K1 T1 g1=>?_⟩;refine⟨K,rt,A,T1 _ _ (Sd _ _ hrtc),λ k2 K2 T2 g2=>?_⟩;rw[eJ,← uen] at g1;rw[show (some 1:Option Int)=some ((1:Nat):Int) from rfl,eJ,← uen] at g2;refine⟨k1,k2,M,T2 _ _ g1,g2,o8 (show _<=1000 by rw[lm,lm,uac,uac];left) (by decide),λ k3 K3 T3 g3=>?_⟩;refine⟨K,A,rt,A,T3 _ _ (T2 _ _ (T1 _ _ (Sd _ _ hrtc))),λ k4 K4 T4 g4=>?_⟩;rw[dY,← ud5] at g4;refine⟨k3,k4,M,T4 _ _ g3,g4,o8 (show _<=1000 by rw[i8,lm,lm,lm,uac,uac,o6];left) (by decide),λ k5 K5 T5 g5=>?_⟩;have T15:=T1.trans (T2.trans (T3.trans (T4.trans T5)));refine⟨lr,M,T15 _ _ ed,(by show 6<1000;decide),λ K6 b6' e6'=>?_⟩;refine tail K6 ⟨λ b o z e=>b6' _ _ z (T15 _ _ e),_,e6',by simp,λ v hv=>BadR.butq b6' (T15 _ _ ed) ?_⟩;rcases w8.mp hv with hv | hv
   ·exact (six0 v hv).same T15
   ·rw[l8.mp hv];rw[← ub2,← ub2] at g5;refine gI g5 (by rw[i8,i8,uac,uac,o6];left) ?_;obtain⟨y,r,ey⟩:∃ y r,nsl=y::r:=by
     cases nsl with
     | nil=>cases c0
     | cons y r=>exact⟨y,r,rfl⟩
    have:=zd9 (x:=y) (l:=nsl) (by rw[ey];exact List.cons_ne_nil _ _) (by rw[ey];rfl) sk;rw[show nsl.take 1=[y] by rw[ey];rfl];exact this
  ·exact tail Jd ⟨But.refl,_,ed,(by show 6<=7;decide),six0⟩
 case tail =>
 rintro Je ⟨be,us,hus,lus,bus⟩;have hrte:=be _ _ nrt (Sd _ _ hrtc);apply brT1 (A:=λ (J:Hp)=>But lr Je J/\∃ us,J lr=some (.lst us)/\us.length<=10/\∀ v∈us,BadR p lr K n J v)
 case main =>
  intro tail;refine⟨A,rt,A,.inr (SqT.of hrte),M,A,ite2 (λ c=>?_) (λ c=>?_)⟩
  ·have c0:1<nsl.length:=by have:=ug4 c;rw[lm] at this;left
   refine⟨A,.inl ⟨Z,SqL.of hus⟩,?_⟩;refine⟨A,E,rt,_,0,rfl,hrte,.inl ⟨P⟩,λ k1 K1 T1 _ g1=>?_⟩;refine⟨K,rt,A,T1 _ _ hrte,λ k2 K2 T2 g2=>?_⟩;refine⟨K,rt,A,T2 _ _ (T1 _ _ hrte),λ k3 K3 T3 g3=>?_⟩;rw[ue8,← List.map_reverse] at g1;rw[show (some 1:Option Int)=some ((1:Nat):Int) from rfl,dY,← ud5] at g2;rw[show (some 1:Option Int)=some ((1:Nat):Int) from rfl,eJ,← uen] at g3;refine⟨k2,k3,M,T3 _ _ g2,g3,o8 (show _<=1000 by rw[lm,lm,o6,uac];left) (by decide),λ k4 K4 T4 g4=>?_⟩;have hrt4':=T4 _ _ (T3 _ _ (T2 _ _ (T1 _ _ hrte)));refine⟨K,K,rt,A,hrt4',λ k5 K5 T5 g5=>?_⟩;rw[zW,lm,← ud5] at g5;refine⟨rt,k5,M,T5 _ _ hrt4',g5,o8 (show _<=1000 by rw[lm,lm,o6];left) (by decide),λ k6 K6 T6 g6=>⟨(by show 3<=1000;decide),λ lx K7 T7 _ g7=>?_⟩⟩;have T57:=T5.trans (T6.trans T7);have T17:=T1.trans (T2.trans (T3.trans (T4.trans T57)));refine⟨lr,lx,M,T17 _ _ hus,g7,(by show us.length+3<=1000;left),λ K8 b8' e8'=>?_⟩;refine tail K8 ⟨λ b o z e=>b8' _ _ z (T17 _ _ e),_,e8',(by rw[i8];show us.length+3<=10;left),λ v hv=>BadR.butq b8' (T17 _ _ hus) ?_⟩;rcases w8.mp hv with hv | hv
   ·exact (bus v hv).same T17
   simp only [j4,m7,or_false] at hv;rw[← ub2] at g4 g6;rcases hv with rfl | rfl | rfl
   ·exact gI ((T2.trans (T3.trans (T4.trans T57))) _ _ g1) (by rw[udi];left) (za5 upI c0)
   ·exact gI (T57 _ _ g4) (by rw[i8,o6,uac];left) (za3 upI c0)
   ·exact gI (T7 _ _ g6) (by rw[i8,o6];left) (za4 (by left))
  ·exact tail Je ⟨But.refl,us,hus,by left,bus⟩
 case tail =>
 rintro Jf ⟨bf,ws,hws,lws,bws⟩;have keepf:∀ {a:j8}{ob:HO},Jc a=some ob->Jf a=some ob:=λ {a ob} h=>bf _ _ (lr_ne h) (be _ _ (lr_ne h) (Sd _ _ h));have pf:Pot Jf p:=by
  obtain⟨a',b',e',z⟩:=pc;exact⟨a',b',keepf e',z⟩
 have keep2:∀ {a:j8}{xs:List V},J2 a=some (.tup xs)->Jf a=some (.tup xs):=λ {a xs} h=>by
  have h5:=S5 _ _ (S4 _ _ (S3 _ _ h));exact keepf (S8c _ _ (S8 _ _ (b7 _ _ (ntp p6 (S6 _ _ h5)) (S6 _ _ h5))))
 have hltf:=keep2 hlt2;have hatf:∀ (i:Nat),i<ls.length->∃ t,vs[i]?=some (V.ref t)/\Jf t=some (.tup (natV (lvl ls i))):=λ i hi=>by
  obtain⟨t,e1,e2⟩:=hat2 i hi;exact⟨t,e1,keep2 e2⟩
 have lvs:vs.length=ls.length:=hl;have dxv:∀ (q:j8),DXs q K Jf (ls.map λ l=>io (keepI l)) vs:=λ q=>⟨by rw[i5,lvs],λ i o y ho hy=>by
  rw[l7] at ho;obtain⟨l',hl',rfl⟩:=ubc.mp ho;have hi:=(j6.mp hl').1;obtain⟨t,e1,e2⟩:=hatf i hi;rw[hy] at e1;cases e1;have:lvl ls i=l':=by unfold lvl;rw[f9,hl'];rfl
  rw[this,bM] at e2;exact bQ e2⟩
 have fewv:∀ o∈ls.map λ l=>io (keepI l),lenO o<=1000:=λ o ho=>by
  obtain⟨l',hl',rfl⟩:=ubx.mp ho;obtain⟨i,hi,rfl⟩:=List.mem_iff_getElem.mp hl';rw[dH];have:=lo.len i;unfold lvl at this;rw[f9,c7 hi] at this;have h2:(keepI ls[i]).length=ls[i].length:=i5 _;have h3:ls[i].length<=n.toNat:=this;left
 obtain⟨ak,rfl⟩:∃ ak:Nat,at_=(ak:Int):=⟨at_.toNat,by left⟩
 refine⟨A,lr,rfl,⟨_,SqL.of hws⟩,?_⟩;refine jJ hws (λ σ'=>∃ o,σ'=[o,some (.ref lt),some (.int (ak:Int))]) (λ i v J=>∃ t,v=.ref t/\J t=some (.tup (vs.take ak++[ws.getD i .non]++vs.drop (ak+1)))) (by left) (by exact⟨none,rfl⟩) (λ i v H H' k ⟨t,e,h⟩=>⟨t,e,k _ _ h⟩) (λ i x σ' H' hx s2 sg C hC=>?_) (λ fl ys Jg hfl sg_ hg hly hys=>?_)
 ·obtain⟨o,rfl⟩:=sg;have ex:ws.getD i .non=x:=by rw[f9,hx];rfl
  have lt0:(vs.take ak).length<=6:=by rw[uac];left
  have ld0:(vs.drop (ak+1)).length<=6:=by rw[o6];left
  refine⟨K,A,lt,A,s2 _ _ hltf,λ c1 K1 T1 g1=>⟨_,rfl,(by show 1<=1000;decide),λ t1 K2 T2 _ g2=>?_⟩⟩;rw[eJ] at g1;refine⟨c1,t1,M,T2 _ _ g1,g2,o8 (show _<=1000 by rw[k9];left) (by decide),λ t2 K3 T3 g3=>?_⟩;refine⟨K,M,A,lt,A,T3 _ _ (T2 _ _ (T1 _ _ (s2 _ _ hltf))),λ c2 K4 T4 g4=>?_⟩;rw[show (some ((ak:Int)+1):Option Int)=some ((ak+1:Nat):Int) from rfl,dY] at g4;refine⟨t2,c2,M,T4 _ _ g3,g4,o8 (show _<=1000 by rw[i8,k9];left) (by decide),λ t3 K5 T5 g5=>?_⟩;refine hC _ _ _ ⟨A⟩ (T1.trans (T2.trans (T3.trans (T4.trans T5)))) ⟨t3,rfl,?_⟩;rw[g5,ex]
 have bad0:∀ v∈ys,BadT p fl K n Jg v:=λ v hv=>by
  obtain⟨i,hi,rfl⟩:=List.mem_iff_getElem.mp hv;obtain⟨t,e,ht⟩:=hys i _ (c7 hi);have hw:i<ws.length:=by left
  have eo:ws.getD i .non=ws[i]:=by rw[f9,c7 hw];rfl
  obtain⟨o,d1,_,d3,d4⟩:=bws ws[i] (ubt hw);rw[eo] at ht;rw[e];have mk:∀ q,DX q K Jf o ws[i]->DXs q K Jg ((ls.map λ l=>io (keepI l)).take ak++[o]++(ls.map λ l=>io (keepI l)).drop (ak+1)) (vs.take ak++[ws[i]]++vs.drop (ak+1)):=λ q h=>((((dxv q).take ak).append (DXs.one h)).append ((dxv q).drop (ak+1))).same sg_;refine cM ht (mk p d1) (mk fl (d1.fresh hfl)) (by rw[i8,i8,uac,o6,k9];left) (λ o' ho'=>?_) (gX (o:=o) (by simp) d4);rcases w8.mp ho' with ho' | ho'
  ·rcases w8.mp ho' with ho' | ho'
   ·exact fewv o' (List.mem_of_mem_take ho')
   ·rw[l8.mp ho'];exact d3
  ·exact fewv o' (ue6 ho')
 have pg:=pf.same sg_;have hltg:=sg_ _ _ hltf;have nfl:fl≠p:=λ z=>by
  obtain⟨ys,e⟩:=pf.lst;rw[z,e] at hfl;cases hfl
 obtain⟨t0,et0,ht0⟩:=hatf 0 (by left);have at0:atI vs 0=some (.ref t0):=bP (uau 0) et0;have ht0g:=sg_ _ _ ht0;rw[lo.first] at ht0g;have emp:∀ {J J':Hp}{a:j8},Pot J p->J a=none->a≠p:=λ {J J' a} pt h z=>by
  obtain⟨ys,e⟩:=pt.lst;rw[z,e] at h;cases h
 refine⟨A,.inl ⟨Z,SqL.of hg⟩,?_⟩;have lvs6:vs.length<=6:=by left
 refine⟨A,lt,A,.inr hltg,λ la2 K1 T1 f1 g1=>⟨(by show 0<=1000;decide),λ te K2 T2 _ g2=>?_⟩⟩;have hlt2':=T2 _ _ (T1 _ _ hltg);refine⟨A,lt,Y,SqT.of hlt2',at0,(by show 1<=1000;decide),λ u1 K3 T3 _ g3=>⟨u1,7,_,rfl,rfl,g3,by decide,by decide,(by show 1*7<=1000;decide),by simp,λ u2 K4 T4 g4=>?_⟩⟩;have hlt4:=T4 _ _ (T3 _ _ hlt2');refine⟨K,(by show 1<=1000;decide),λ u3 K5 T5 _ g5=>⟨(by show 1<=1000;decide),λ u4 K6 T6 _ g6=>⟨lt,u4,_,_,rfl,rfl,T6 _ _ (T5 _ _ hlt4),g6,o8 (show _<=1000 by rw[k9];left) (by decide),λ u5 K7 T7 g7=>?_⟩⟩⟩;have hlt7:=T7 _ _ (T6 _ _ (T5 _ _ hlt4));refine⟨K,M,A,λ rg hrg=>⟨rg,_,rfl,aM,by left,by left,λ u6 K8 T8 _ g8=>⟨(by show 1<=1000;decide),λ u7 K9 T9 _ g9=>?_⟩⟩⟩;have T8':=(aP (o:=.rng 0 (n+1)) hrg).trans T8;refine⟨lt,u7,M,T9 _ _ (T8' _ _ hlt7),g9,o8 (show _<=1000 by rw[k9];left) (by decide),λ u8 K10 T10 g10=>⟨(by show 5<=1000;decide),λ lx K11 T11 _ g11=>?_⟩⟩;have R8:=T9.trans (T10.trans T11);have R5:=T6.trans (T7.trans (T8'.trans R8));have R4:=T5.trans R5;have R2:=T3.trans (T4.trans R4);have R0:=T1.trans (T2.trans R2);have nf:∀ {a:j8},Jg a=none->a≠fl:=λ {a} h z=>by rw[z,hg] at h;cases h
 have dxe:∀ (q:j8),DXs q K K11 (ls.map λ l=>io (keepI l)) vs:=λ q=>(dxv q).same (sg_.trans R0);have d0:∀ (q:j8),DX q K K11 (io (keepI (d7 n.toNat))) (.ref t0):=λ q=>bQ (by rw[← bM];exact R0 _ _ ht0g);have lrn:∀ m:Nat,m<=25->lenO (io (keepI (d7 m)))<=1000:=λ m hm=>by
  rw[dH];unfold keepI;rw[i5,t5];left
 have dn:∀ (q:j8),DX q K K11 (io [n]) (.ref u3):=λ q=>bQ (R5 _ _ g5);have dr:∀ (q:j8),DX q K K11 (io (keepI (d7 (n+1).toNat))) (.ref u6):=λ q=>bQ (by rw[← bM];exact R8 _ _ g8);refine⟨fl,lx,M,R0 _ _ hg,g11,(by show ys.length+5<=1000;left),λ K12 b12 e12=>?_⟩;have bad1:∀ v∈ys++[V.ref la2,.ref te,.ref u2,.ref u5,.ref u8],BadT p fl K n K12 v:=λ v hv=>BadT.butq b12 (R0 _ _ hg) (by
  rcases w8.mp hv with hv | hv
  ·exact (bad0 v hv).same R0
  simp only [j4,m7,or_false] at hv;rcases hv with rfl | rfl | rfl | rfl | rfl
  ·exact fH (o:=none) ⟨la2,rfl,emp (J':=Jg) pg f1,.inl ⟨_,(T2.trans R2) _ _ g1⟩⟩ ⟨la2,rfl,nf f1,.inl ⟨_,(T2.trans R2) _ _ g1⟩⟩ rfl
  ·exact cM (R2 _ _ g2) DXs.nil DXs.nil (by decide) (λ o ho=>by cases ho) zdi
  ·have mk:∀ q,DXs q K K11 [io (keepI (d7 n.toNat)),io (keepI (d7 n.toNat)),io (keepI (d7 n.toNat)),io (keepI (d7 n.toNat)),io (keepI (d7 n.toNat)),io (keepI (d7 n.toNat)),io (keepI (d7 n.toNat))] [V.ref t0,.ref t0,.ref t0,.ref t0,.ref t0,.ref t0,.ref t0]:=λ q=>(d0 q).cons7;refine cM (R4 _ _ g4) (mk p) (mk fl) (by show 7<=1000;decide) (λ o ho=>?_) (zdj (by show 6<7;decide));have:o=io (keepI (d7 n.toNat)):=by simpa using ho
   rw[this];exact lrn _ (by left)
  ·refine cM ((T8'.trans R8) _ _ g7) ((dxe p).append (DXs.one (dn p))) ((dxe fl).append (DXs.one (dn fl))) (by rw[i8,k9];left) (λ o ho=>?_) (gX (o:=io [n]) (by simp) zep);rcases w8.mp ho with ho | ho
   ·exact fewv o ho
   ·rw[l8.mp ho];exact (by show 1<=1000;decide)
  ·refine cM (T11 _ _ g10) ((dxe p).append (DXs.one (dr p))) ((dxe fl).append (DXs.one (dr fl))) (by rw[i8,k9];left) (λ o ho=>?_) (gX (o:=io (keepI (d7 (n+1).toNat))) (by simp) (qW n1 (by left)));rcases w8.mp ho with ho | ho
   ·exact fewv o ho
   ·rw[l8.mp ho];exact lrn _ (by left))
 obtain⟨zs,ezs⟩:∃ zs,zs=ys++[V.ref la2,.ref te,.ref u2,.ref u5,.ref u8]:=⟨A⟩;have lzs:zs.length<=15:=by rw[ezs,i8];show ys.length+5<=15;left
 rw[← ezs] at e12 bad1;have nft:∀ {a:j8}{xs:List V},K11 a=some (.tup xs)->a≠fl:=λ {a xs} h z=>by
  rw[z,R0 _ _ hg] at h;cases h
 have hlt12:K12 lt=some (.tup vs):=b12 _ _ (nft (R0 _ _ hltg)) (R0 _ _ hltg);have ht012:K12 t0=some (.tup (natV (d7 n.toNat))):=b12 _ _ (nft (R0 _ _ ht0g)) (R0 _ _ ht0g);have p12:Pot K12 p:=by
  obtain⟨a',b',e',z⟩:=pg.same R0;exact⟨a',b',b12 _ _ (Ne.symm nfl) e',z⟩
 have dx12:∀ (q:j8),DXs q K K12 (ls.map λ l=>io (keepI l)) vs:=λ q=>(dxe fl).mv b12 (R0 _ _ hg) (dxe q)
 refine⟨A,.inl ⟨Z,SqL.of e12⟩,?_⟩;refine⟨A,λ ld2 K13 T13 f13 g13=>⟨(by show 4<=1000;decide),λ lx2 K14 T14 _ g14=>⟨fl,lx2,_,_,rfl,rfl,(T13.trans T14) _ _ e12,g14,(by show zs.length+4<=1000;left),λ K15 b15 e15=>?_⟩⟩⟩;have T12:=T13.trans T14;have bad2:∀ v∈zs++[V.non,.int n,.str "",.ref ld2],BadT p fl K n K15 v:=λ v hv=>BadT.butq b15 (T12 _ _ e12) (by
  rcases w8.mp hv with hv | hv
  ·exact (bad1 v hv).same T12
  simp only [j4,m7,or_false] at hv;rcases hv with rfl | rfl | rfl | rfl
  ·exact fH (o:=some .none) ⟨P⟩ ⟨P⟩ rfl
  ·exact fH (o:=some (.int n)) ⟨P⟩ ⟨P⟩ rfl
  ·exact fH (o:=some (.str "")) ⟨P⟩ ⟨P⟩ rfl
  ·exact fH (o:=none) ⟨ld2,rfl,emp (J':=K12) p12 f13,.inr (T14 _ _ g13)⟩ ⟨ld2,rfl,(λ z=>by rw[z,e12] at f13;cases f13),.inr (T14 _ _ g13)⟩ rfl)
 obtain⟨z2,ez2⟩:∃ z2,z2=zs++[V.non,.int n,.str "",.ref ld2]:=⟨A⟩;have lz2:z2.length<=19:=by rw[ez2,i8];show zs.length+4<=19;left
 rw[← ez2] at e15 bad2;have nft2:∀ {a:j8}{xs:List V},K14 a=some (.tup xs)->a≠fl:=λ {a xs} h z=>by
  rw[z,T12 _ _ e12] at h;cases h
 have hlt15:K15 lt=some (.tup vs):=b15 _ _ (nft2 (T12 _ _ hlt12)) (T12 _ _ hlt12);have ht015:K15 t0=some (.tup (natV (d7 n.toNat))):=b15 _ _ (nft2 (T12 _ _ ht012)) (T12 _ _ ht012);have p15:Pot K15 p:=by
  obtain⟨a',b',e',z⟩:=p12.same T12;exact⟨a',b',b15 _ _ (Ne.symm nfl) e',z⟩
 have dx15:∀ (q:j8),DXs q K K15 (ls.map λ l=>io (keepI l)) vs:=λ q=>((dx12 fl).same T12).mv b15 (T12 _ _ e12) ((dx12 q).same T12)
 refine⟨A,.inl ⟨Z,SqL.of e15⟩,K,lt,A,hlt15,λ c1' K16 T16 g16=>⟨(by show 0<=1000;decide),λ w1 K17 T17 _ g17=>?_⟩⟩;rw[show (some 1:Option Int)=some ((1:Nat):Int) from rfl,eJ] at g16;have p17:=(p15.same T16).same T17;refine⟨K,p,n,rfl,p17,by left,by left,λ r' K18 r0' r1' b18 p18=>⟨(by show 1<=1000;decide),λ w2 K19 T19 _ g19=>⟨(by show 2<=1000;decide),λ w3 K20 T20 _ g20=>?_⟩⟩⟩;have T57':=T16.trans T17;have T80:=T19.trans T20;have kp17:∀ {a:j8}{xs:List V},K17 a=some (.tup xs)->K20 a=some (.tup xs):=λ {a xs} h=>T80 _ _ (b18 _ _ (ntp p17 h) h);refine⟨c1',w3,M,kp17 (T17 _ _ g16),g20,o8 (show _<=1000 by rw[uac];show _+2<=1000;left) (by decide),λ w4 K21 T21 g21=>?_⟩;refine⟨A,M,A,λ rg2 hrg2=>⟨rg2,_,rfl,aM,by left,by left,λ w5 K22 T22 _ g22=>⟨(by show 1<=1000;decide),λ w6 K23 T23 _ g23=>?_⟩⟩⟩;have T22':=(aP (o:=.rng 0 (n+1)) hrg2).trans T22;have hlt20:=kp17 (T57' _ _ hlt15);refine⟨K,lt,A,T23 _ _ (T22' _ _ (T21 _ _ hlt20)),λ c2' K24 T24 g24=>?_⟩;rw[show (some 1:Option Int)=some ((1:Nat):Int) from rfl,dY] at g24;refine⟨w6,c2',M,T24 _ _ g23,g24,o8 (show _<=1000 by rw[o6,k9];left) (by decide),λ w7 K25 T25 g25=>⟨(by show 2<=1000;decide),λ lx3 K26 T26 _ g26=>?_⟩⟩;have R25:=T25.trans T26;have R22:=T23.trans (T24.trans R25);have R20:=T21.trans (T22'.trans R22);have R18:=T80.trans R20;have e17:=T57' _ _ e15;have e26:K26 fl=some (.lst z2):=R18 _ _ (b18 _ _ nfl e17);obtain⟨xs17,ep17⟩:=p17.lst;have dx26:∀ (q:j8),DXs q K K26 (ls.map λ l=>io (keepI l)) vs:=λ q=>((((dx15 p).same T57').mv b18 ep17 ((dx15 q).same T57')).same R18);obtain⟨l0,lr0,els⟩:∃ l0 lr0,ls=l0::lr0:=by
  cases ls with
  | nil=>exact absurd one (by decide)
  | cons a b=>exact⟨a,b,rfl⟩
 have el0:l0=d7 n.toNat:=by
  have:=lo.first;rw[els] at this;exact this
 have ht026:K26 t0=some (.tup (natV (d7 n.toNat))):=R20 _ _ (kp17 (T57' _ _ ht015));refine⟨fl,lx3,M,e26,g26,(by show z2.length+2<=1000;left),λ K27 b27 e27=>?_⟩;have bad3:∀ v∈z2++[V.ref w4,.ref w7],BadT p fl K n K27 v:=λ v hv=>BadT.butq b27 e26 (by
  rcases w8.mp hv with hv | hv
  ·exact (((bad2 v hv).same T57').butp b18 ep17).same R18
  simp only [j4,m7,or_false] at hv;rcases hv with rfl | rfl
  ·have mk:∀ q,DXs q K K26 ((ls.map λ l=>io (keepI l)).take 1++[io [],io [r']]) (vs.take 1++[V.ref w1,.ref w2]):=λ q=>((dx26 q).take 1).append (.cons (bQ (ns:=[]) (R20 _ _ (kp17 g17))) (.one (bQ (ns:=[r']) ((T20.trans R20) _ _ g19))));refine cM ((T22'.trans R22) _ _ g21) (mk p) (mk fl) (by rw[i8,uac];show _+2<=1000;left) (λ o ho=>?_) ?_
   ·rcases w8.mp ho with ho | ho
    ·exact fewv o (List.mem_of_mem_take ho)
    ·simp only [j4,m7,or_false] at ho;rcases ho with rfl | rfl
     ·exact (by show 0<=1000;decide)
     ·exact (by show 1<=1000;decide)
   ·rw[els];exact qX 1 (by show 1+1<3;decide) rfl
  ·refine cM (T26 _ _ g25) ((DXs.one (bQ (ns:=keepI (d7 (n+1).toNat)) (by rw[← bM];exact R22 _ _ g22))).append ((dx26 p).drop 1)) ((DXs.one (bQ (ns:=keepI (d7 (n+1).toNat)) (by rw[← bM];exact R22 _ _ g22))).append ((dx26 fl).drop 1)) (by rw[i8,o6,k9];left) (λ o ho=>?_) (gX (o:=io (keepI (d7 (n+1).toNat))) (by simp) (qW n1 (by left)));rcases w8.mp ho with ho | ho
   ·rw[l8.mp ho];exact lrn _ (by left)
   ·exact fewv o (ue6 ho))
 obtain⟨z3,ez3⟩:∃ z3,z3=z2++[V.ref w4,.ref w7]:=⟨A⟩;have lz3:z3.length<=21:=by rw[ez3,i8];show z2.length+2<=21;left
 rw[← ez3] at e27 bad3;have nft3:∀ {a:j8}{xs:List V},K26 a=some (.tup xs)->a≠fl:=λ {a xs} h z=>by
  rw[z,e26] at h;cases h
 have hlt26:=R20 _ _ hlt20;have hlt27:K27 lt=some (.tup vs):=b27 _ _ (nft3 hlt26) hlt26;have ht027:K27 t0=some (.tup (natV (d7 n.toNat))):=b27 _ _ (nft3 ht026) ht026;have p27:Pot K27 p:=by
  obtain⟨a',b',e',z⟩:=p18.same R18;exact⟨a',b',b27 _ _ (Ne.symm nfl) e',z⟩
 have dx27:∀ (q:j8),DXs q K K27 (ls.map λ l=>io (keepI l)) vs:=λ q=>(dx26 fl).mv b27 e26 (dx26 q);have BT:But p H K27:=λ b o z e=>by
  have h4:=S4 _ _ (S3 _ _ (b2 _ _ z (b1 _ _ z e)));have hc:Jc b=some o:=S8c _ _ (S8 _ _ (b7 _ _ z (S6 _ _ (S5 _ _ h4))));have hf:=keepf hc;have ne:b≠fl:=λ y=>by rw[y,hfl] at hf;cases hf
  exact b27 _ _ ne (R18 _ _ (b18 _ _ z (T57' _ _ (b15 _ _ ne (T12 _ _ (b12 _ _ ne (R0 _ _ (sg_ _ _ hf))))))))
 refine⟨A,M,A,ite2 (λ c=>?_) (λ c=>?_)⟩
 ·have cn:1<n:=ug4 c;refine⟨A,.inl ⟨Z,SqL.of e27⟩,?_⟩;have rne:d7 n.toNat≠[]:=λ z=>by
   have:=congrArg List.length z;rw[t5] at this;have:n.toNat=0:=this;left
  refine⟨A,lt,Y,SqT.of hlt27,at0,A,t0,A,ht027,λ c3 M1 U1 h1=>⟨(by show 1<=1000;decide),λ y1 M2 U2 _ h2=>?_⟩⟩;rw[zb6] at h1;have U12:=U1.trans U2;refine⟨A,lt,Y,SqT.of (U12 _ _ hlt27),at0,K,t0,A,U12 _ _ ht027,λ c4 M3 U3 h3=>⟨(by show 1<=1000;decide),λ y2 M4 U4 _ h4=>?_⟩⟩;rw[zb7 rne] at h3;have U14:=U12.trans (U3.trans U4);refine⟨K,lt,A,U14 _ _ hlt27,λ c5 M5 U5 h5=>?_⟩;rw[show (some 1:Option Int)=some ((1:Nat):Int) from rfl,dY] at h5;refine⟨y2,c5,M,U5 _ _ h4,h5,o8 (show _<=1000 by rw[o6,k9];left) (by decide),λ y3 M6 U6 h6=>?_⟩;refine⟨(by show 0<=1000;decide),λ y4 M7 U7 _ h7=>⟨(by show 1<=1000;decide),λ y5 M8 U8 _ h8=>?_⟩⟩;have U18:=U14.trans (U5.trans (U6.trans (U7.trans U8)));refine⟨A,lt,Y,SqT.of (U18 _ _ hlt27),at0,(by show 2<=1000;decide),λ y6 M9 U9 _ h9=>⟨(by show 1<=1000;decide),λ y7 Ma Ua _ ha=>⟨(by show 1<=1000;decide),λ y8 Mb Ub _ hb=>⟨(by show 4<=1000;decide),λ y9 Mc Uc _ hc=>⟨(by show 4<=1000;decide),λ lx4 Md Ud _ hd=>?_⟩⟩⟩⟩⟩;have Vb:=Uc.trans Ud;have Va:=Ub.trans Vb;have V9:=Ua.trans Va;have V8:=U9.trans V9;have V7:=U8.trans V8;have V6:=U7.trans V7;have V4:=U5.trans (U6.trans V6);have V2:=U3.trans (U4.trans V4);have VV:=U18.trans V8;have h9':Md y6=some (.tup (([0,1]:List Int).map V.int)):=V9 _ _ h9;have ha':Md y7=some (.tup (([1]:List Int).map V.int)):=Va _ _ ha;have hb':Md y8=some (.tup (([0]:List Int).map V.int)):=Vb _ _ hb;have kI:∀ l:List Nat,(keepI l).length=l.length:=λ l=>i5 _;refine⟨fl,lx4,M,VV _ _ e27,hd,(by show z3.length+4<=1000;left),λ Me_ be_ ee_=>?_⟩;have bad4:∀ v∈z3++[V.ref y1,.ref y3,.ref y5,.ref y9],BadT p fl K n Me_ v:=λ v hv=>BadT.butq be_ (VV _ _ e27) (by
   rcases w8.mp hv with hv | hv
   ·exact (bad3 v hv).same VV
   simp only [j4,m7,or_false] at hv;rcases hv with rfl | rfl | rfl | rfl
   ·have d:∀ q,DX q K Md (io (keepI ((d7 n.toNat).drop 1))) (.ref c3):=λ q=>bQ (by rw[← bM];exact (U2.trans V2) _ _ h1);refine cM (V2 _ _ h2) (.one (d p)) (.one (d fl)) (by show 1<=1000;decide) (λ o ho=>?_) (jS ?_)
    ·rw[l8.mp ho,dH,kI,o6,t5];left
    ·rw[dH,kI,o6,t5];left
   ·have d:∀ q,DX q K Md (io (keepI (d7 n.toNat).dropLast)) (.ref c4):=λ q=>bQ (by rw[← bM];exact (U4.trans V4) _ _ h3);have dd:∀ q,DXs q K Md (io (keepI (d7 n.toNat).dropLast)::(ls.map λ l=>io (keepI l)).drop 1) (V.ref c4::vs.drop 1):=λ q=>.cons (d q) (((dx27 q).same VV).drop 1);refine cM (V6 _ _ h6) (dd p) (dd fl) (by show (vs.drop 1).length+1<=1000;rw[o6];left) (λ o ho=>?_) (jS ?_)
    ·rcases j4.mp ho with ho | ho
     ·rw[ho,dH,kI,List.length_dropLast,t5];left
     ·exact fewv o (ue6 ho)
    ·rw[dH,kI,List.length_dropLast,t5];left
   ·have d:∀ q,DX q K Md (io []) (.ref y4):=λ q=>bQ (V7 _ _ h7);refine cM (V8 _ _ h8) (.one (d p)) (.one (d fl)) (by show 1<=1000;decide) (λ o ho=>?_) (jS ?_)
    ·rw[l8.mp ho];exact (by show 0<=1000;decide)
    ·rw[dH];show ((0:Nat):Int)≠n;left
   ·have d:∀ q,DXs q K Md [io (keepI (d7 n.toNat)),io [0,1],io [1],io [0]] [V.ref t0,.ref y6,.ref y7,.ref y8]:=λ q=>.cons (bQ (by rw[← bM];exact VV _ _ ht027)) (.cons (bQ h9') (.cons (bQ ha') (.one (bQ hb'))));refine cM (Ud _ _ hc) (d p) (d fl) (by show 4<=1000;decide) (λ o ho=>?_) (qX 2 (by show 3<4;decide) (by show wiO (io [0]) (io [1])=false;decide));simp only [j4,m7,or_false] at ho;rcases ho with rfl | rfl | rfl | rfl
    ·exact lrn _ (by left)
    ·exact (by show 2<=1000;decide)
    ·exact (by show 1<=1000;decide)
    ·exact (by show 1<=1000;decide))
  have pM:Pot Me_ p:=by
   obtain⟨a',b',e',z⟩:=p27.same VV;exact⟨a',b',be_ _ _ (Ne.symm nfl) e',z⟩
  have BM:But p H Me_:=λ b o z e=>by
   have h4:=S4 _ _ (S3 _ _ (b2 _ _ z (b1 _ _ z e)));have hc:Jc b=some o:=S8c _ _ (S8 _ _ (b7 _ _ z (S6 _ _ (S5 _ _ h4))));have hf:=keepf hc;have ne:b≠fl:=λ y=>by rw[y,hfl] at hf;cases hf
   exact be_ _ _ ne (VV _ _ (BT _ _ z e))
  exact⟨A,q fl _ Me_ BM pM ee_ nfl (by rw[i8];show z3.length+4<=1000;left) bad4⟩
 ·exact⟨A,q fl z3 K27 BT p27 e27 nfl (by left) bad3⟩
def spLaw (K:b9):Sp:=λ vs H Q _=>∃ (a:j8)(ns:List Int),vs=[.ref a]/\SqL K H a (ns.map V.int)/\ns.length<=63/\∀ H',Q (.bl true) H'
theorem zem {f:j8}{fd:FuncData}(T:Bi mg)(F:Fun K "law" "law" s_law f fd)(O__law_pot:‹11› "_law_pot" ["script","k"] (spPot K))(O__law_take:‹11› "_law_take" ["pot","many"] spTake)(O__law_web:‹11› "_law_web" ["pot","most"] (spWeb K))(O__law_levels:‹11› "_law_levels" ["pot","n"] (spLevels K))(O__law_spoilt:‹11› "_law_spoilt" ["pot","n","levels"] (spSpo64 K))(O__law_refused:‹11› "_law_refused" ["way","web","levels","places"] (spRef64 K))(O__law_asked:‹11› "_law_asked" ["way","web","levels","places"] (spAskN K)):FnOk P w K mg base CX0 12 f fd ["script"] (spLaw K):=by
 refine F.ok (k:=11) sc_law (λ vs H Q E h=>?_) (λ cdv A outer s H vs Q E hr h=>?_)
 ·obtain⟨a,ns,rfl,_⟩:=h;rfl
 obtain⟨a,ns,rfl,hS,h63,q⟩:=h;have nd:=sc_law.nd;have hl:(ns.map V.int).length=ns.length:=i5 _;refine⟨_,(aF (cC PassesOwn.never rfl (cS rfl T.z_range (aA (aO (iW rfl) rfl T.z_max (by symm) (aA aC (aA (aO (nD rfl) rfl T.z_min (by symm) (aA aC (aA (aO bO rfl T.z_len (by symm) (aA (pv 0) aB)) aB))) aB))) aB)) (aN (i:=1) nd rfl (v6 rfl)) (aF (aQ (i:=2) nd rfl (v6 rfl) (aG O__law_pot hr rfl (aA (pv 0) (aA (pv 1) aB)))) (aF (aQ (i:=3) nd rfl (v6 rfl) (aG O__law_web hr rfl (aA (pv 2) (aA aC aB)))) (aF (aQ (i:=4) nd rfl (v6 rfl) (aG O__law_levels hr rfl (aA (pv 2) (aA (aK aV (pv 3) aC (λ _ _=>rfl)) aB)))) (aF (aQ (i:=5) nd rfl (v6 rfl) (cH (aA (aG O__law_take hr rfl (aA (pv 2) (aA (aK aV (pv 3) aC (λ _ _=>rfl)) aB))) (aA (aG O__law_take hr rfl (aA (pv 2) (aA (aK aV (pv 3) aC (λ _ _=>rfl)) aB))) aB)))) (aF (cC PassesOwn.never rfl (gW (aG O__law_spoilt hr rfl (aA (pv 2) (aA (aK aV (pv 3) aC (λ _ _=>rfl)) (aA (pv 4) aB))))) (aN (i:=6) nd rfl (v6 rfl)) (aE (cC PassesOwn.never rfl (cS rfl T.z_range (aA aC aB)) (aN (i:=7) nd rfl (v6 rfl)) (aE (aT (bU (bN (aG O__law_refused hr rfl (aA (pv 7) (aA (pv 3) (aA (pv 6) (aA (pv 5) aB))))))) (aE (aH bV)) aS))))) (aE (cC PassesOwn.never rfl (cS rfl T.z_range (aA aC aB)) (aN (i:=7) nd rfl (v6 rfl)) (aE (bK (aG O__law_asked hr rfl (aA (pv 7) (aA (pv 3) (aA (pv 4) (aA (pv 5) aB))))))))))))))) (aE (aH bV))),?_⟩;refine⟨A,a,A,.inl hS,_,A,_,K,?_,?_,?_⟩
 ·split <;> split <;> left
 ·rw[hl];split <;> split <;> left
 generalize hj:(if (if (((ns.map V.int).length:Nat):Int)<5 then (((ns.map V.int).length:Nat):Int) else 5)>2 then (if (((ns.map V.int).length:Nat):Int)<5 then (((ns.map V.int).length:Nat):Int) else 5) else 2)=j;have j12:j<=5:=by rw[← hj];split <;> split <;> left
 refine dJ (n:=j.toNat) (λ i σ H'=>∃ x1 x2 x3 x4 x5 x6 x7:Option V,σ=[some (.ref a),x1,x2,x3,x4,x5,x6,x7]/\Same H H') ⟨none,none,none,none,none,none,none,rfl,Same.refl H⟩ ?turn (λ σ H' _=>q H');rintro i σ H0 hi ⟨x1,x2,x3,x4,x5,x6,x7,rfl,s0⟩;refine⟨K,a,_,ns,rfl,s0.seq hS,by left,by left,λ l H1 s1 fl p1=>?_⟩;have s01:Same H H1:=s0.trans s1;have fl0:H l=none:=s0.free fl;refine⟨A,l,7,rfl,p1,by decide,by decide,λ wv H2 n ts b3 p3 ok _ isw=>?_⟩;have few60:=ok.few;have n1:=ok.n1;have n24:=ok.n24;have tkb:∀ {J J':Hp},But l J J'->Pot J l->TupKeep J J':=λ b pp=>by
  obtain⟨xs,e⟩:=pp.lst;exact λ a ys h=>b _ _ (λ z=>by rw[z,e] at h;cases h) h
 have isB:∀ {J J':Hp},TupKeep J J'->Is K J (webD n ts) wv->Is K J' (webD n ts) wv:=λ k h=>Is.tk k _ (zcq n ts) h;obtain⟨g0,g,ws,rfl,hg0,hg,hall,hlw⟩:=bY isw;refine⟨K,g0,Y,SqT.of hg0,rfl,l,n,rfl,p3,n1,n24,λ lv H3 ls b4 p4 islv=>?_⟩;have tk4:=tkb b4 p3;have hg4:=tk4 _ _ hg0;refine⟨K,g0,Y,SqT.of hg4,rfl,l,n,rfl,p4,by left,by left,λ r1 J5 r10 r11 b5 p5=>?_⟩;have tk5:=tkb b5 p4;have hg5:=tk5 _ _ hg4;refine⟨K,g0,Y,SqT.of hg5,rfl,l,n,rfl,p5,by left,by left,λ r2 J6 r20 r21 b6 p6=>⟨(by show 2<=1000;decide),λ lp J7 S7 f7 e7=>?_⟩⟩;have tk6:=tkb b6 p5;have tk47:TupKeep H3 J7:=λ a us e=>S7 _ _ (tk6 _ _ (tk5 _ _ e));have hg7:=S7 _ _ (tk6 _ _ hg5);have lvk:∀ {J J':Hp},TupKeep J J'->Lv K J n.toNat ls lv->Lv K J' n.toNat ls lv:=λ k h=>⟨Is.tk k _ (xG ls) h.1,h.2⟩;have lv7:=lvk tk47 islv;have is7:=isB tk47 (isB tk4 isw);have p7:=p6.same S7;have nlp:lp≠l:=λ z=>by
  obtain⟨xs,e⟩:=p6.lst;rw[z,e] at f7;cases f7
 refine⟨K,g0,Y,SqT.of hg7,X,l,n,ls,lv,rfl,p7,n1,n24,lv7,λ fl us J8 b8 p8 e8 nfl lus bad=>⟨fl,rfl,⟨_,SqL.of e8⟩,?_⟩⟩;have tk8:=tkb b8 p7;have is8:=isB tk8 is7;have lv8:=lvk tk8 lv7;have e7':=b8 _ _ nlp e7;have B8:∀ b o,H b=some o->J8 b=some o:=λ b o e=>by
  have nl:=aY e fl0;exact b8 _ _ nl (S7 _ _ (b6 _ _ nl (b5 _ _ nl (b4 _ _ nl (b3 _ _ nl (s01 _ _ e))))))
 refine zb0 (xs:=us) (λ i' σ J=>∃ y6 y7:Option V,σ=[some (.ref a),some (.int (0+(i:Int))),some (.ref l),some (.ref g0),some lv,some (.ref lp),y6,y7]/\Same J8 J) ⟨_,_,rfl,Same.refl _⟩ (λ i' σ J _ h=>?_) (λ i' x σ J hx h=>?_) (λ σ J h=>?_)
 ·obtain⟨y6,y7,rfl,sm⟩:=h;exact SqL.of (sm _ _ e8)
 ·obtain⟨y6,y7,rfl,sm⟩:=h;obtain⟨TT,tx,_,tb⟩:=bad x (uap hx);refine⟨5,rfl,by decide,by decide,?_⟩;refine dJ (n:=5) (λ k σ J'=>∃ y7:Option V,σ=[some (.ref a),some (.int (0+(i:Int))),some (.ref l),some (.ref g0),some lv,some (.ref lp),some x,y7]/\Same J8 J') ⟨_,rfl,sm⟩ (λ k σ J' hk h=>?_) (λ σ J' h=>?_)
  ·obtain⟨y7,rfl,sm'⟩:=h;exact⟨K,K,l,n,ts,TT,V,x,lp,_,A,sm' _ _ e7',Is.same sm' _ is8,n1,n24,tx.same sm',tb,λ J9 S9=>⟨_,rfl,iteF ⟨_,rfl,sm'.trans S9⟩⟩⟩
  ·obtain⟨y7,rfl,sm'⟩:=h;exact⟨_,A,sm'⟩
 ·obtain⟨y6,y7,rfl,sm⟩:=h;refine⟨5,rfl,by decide,by decide,?_⟩;refine dJ (n:=5) (λ k σ J'=>∃ y7:Option V,σ=[some (.ref a),some (.int (0+(i:Int))),some (.ref l),some (.ref g0),some lv,some (.ref lp),y6,y7]/\Same J8 J') ⟨_,rfl,sm⟩ (λ k σ J' hk h=>?_) (λ σ J' h=>?_)
  ·obtain⟨y7,rfl,sm'⟩:=h;exact⟨K,K,_,n,ts,ls,_,lv,lp,r1,r2,rfl,Is.same sm' _ is8,ok,lvk (λ _ _ e=>sm' _ _ e) lv8,sm' _ _ e7',r10,r11,r20,r21,λ v J9 S9=>⟨_,rfl,sm'.trans S9⟩⟩
  ·obtain⟨y7,rfl,sm'⟩:=h;exact⟨V,V,V,A,λ b o e=>sm' _ _ (B8 _ _ e)⟩
end
end Me
namespace Me
open PySem PySem.Spec PyProof.Rows L2 L3
abbrev Bdq (x:Str)(st:uc9)(ps:List Str):Prop:=∀ (kV doc pm:c9)(an:Option j8)(cdv ct:c9)(us:List c9),us.length=ps.length->bindArgs (ucl x x (defArgs st) (defBody st) (defScope st) .none kV doc pm an cdv ct) ⟨us,[]⟩=pure (ps.zip us)
theorem zez {K:b9}{h:Heap}{mg:Str->Option c9}{x:Str}{st:uc9}{ps:List Str}{f:j8}{od an:Option j8}{sl:Array (Option c9)}{oc kV dc pm cd ct:c9}(X:K.In h)(G:h.Ns m9 mg)
  (b:∀ (kV doc pm:c9)(an:Option j8)(cdv ct:c9)(us:List c9),us.length=ps.length->bindArgs (ucl x x (defArgs st) (defBody st) (defScope st) .none kV doc pm an cdv ct) ⟨us,[]⟩=pure (ps.zip us))
  (a:r9 K m9 x=some (some (.ref f))) (l:K.lookup f=some ⟨oc,od,.func (ucl x x (defArgs st) (defBody st) (defScope st) .none kV dc pm an cd ct),sl⟩) (c:ud7 K cd x=true) (k:udc K (.ref f)=true):DefOk K mg x st ps:=by
 have F:=qY (st:=st) l c k;exact⟨f,_,F,F.binds b,ube X G a⟩
theorem dq {p:n0}{K:b9}{h:Heap}{mg:Str->Option c9}{x:Str}{st:uc9}{ps:List Str}(f c j u:Nat)(X:K.In h)(G:h.Ns m9 mg)
  (b:∀ (kV doc pm:c9)(an:Option j8)(cdv ct:c9)(us:List c9),us.length=ps.length->bindArgs (ucl x x (defArgs st) (defBody st) (defScope st) .none kV doc pm an cdv ct) ⟨us,[]⟩=pure (ps.zip us))
  (a:r9 K m9 x=some (some (.ref f)):=by kernel_rfl) (l:K.lookup f=some ⟨.type "function",none,.func (ucl x x (defArgs st) (defBody st) (defScope st) .none .none .none (Hx.mdV p ⟨0,0,0,j,u,0⟩) none (.ref c) .none),#[]⟩:=by kernel_rfl) (cc:ud7 K (.ref c) x=true:=by kernel_rfl) (k:udc K (.ref f)=true:=by kernel_rfl):DefOk K mg x st ps:=zez X G b a l cc k
theorem wV:Bdq "is_whole" s_is_whole ["thing"]:=by ac_rfl
theorem vK:Bdq "is_rising" s_is_rising ["parts"]:=by ac_rfl
theorem wW:Bdq "is_place" s_is_place ["web","thing"]:=by ac_rfl
theorem zci:Bdq "whole" s_whole ["web"]:=by ac_rfl
theorem tR:Bdq "tie_between" s_tie_between ["web","a","b"]:=by ac_rfl
theorem rV:Bdq "are_unlike_places" s_are_unlike_places ["web","thing"]:=by ac_rfl
theorem tQ:Bdq "tie_weights" s_tie_weights ["web"]:=by ac_rfl
theorem vM:Bdq "cost_with" s_cost_with ["cost","length","weight"]:=by ac_rfl
theorem sR:Bdq "reached_from" s_reached_from ["web","keep","root"]:=by ac_rfl
theorem vL:Bdq "fars_from" s_fars_from ["web","keep","root"]:=by ac_rfl
theorem vJ:Bdq "tree_from" s_tree_from ["web","keep","root"]:=by ac_rfl
theorem wX:Bdq "is_level" s_is_level ["web","thing"]:=by ac_rfl
theorem tU:Bdq "lies_within" s_lies_within ["level","ahead"]:=by ac_rfl
theorem uR:Bdq "are_levels" s_are_levels ["web","thing"]:=by ac_rfl
theorem tT:Bdq "need_levels" s_need_levels ["web","levels"]:=by ac_rfl
theorem zah:Bdq "top_of" s_top_of ["levels","place"]:=by ac_rfl
theorem uN:Bdq "nearest_of" s_nearest_of ["levels","number","fars"]:=by ac_rfl
theorem uP:Bdq "is_bunched" s_is_bunched ["levels","fars","w"]:=by ac_rfl
theorem wT:Bdq "pivot_by" s_pivot_by ["levels","i","fars"]:=by ac_rfl
theorem wS:Bdq "web_fars" s_web_fars ["web","place"]:=by ac_rfl
theorem zcl:Bdq "bunch" s_bunch ["web","levels","v"]:=by ac_rfl
theorem zcj:Bdq "pivot" s_pivot ["web","levels","i","v"]:=by ac_rfl
theorem zck:Bdq "climb" s_climb ["web","levels","u","v"]:=by ac_rfl
theorem vI:Bdq "tree_ties" s_tree_ties ["web","tree"]:=by ac_rfl
theorem wU:Bdq "not_kept" s_not_kept ["web","keep"]:=by ac_rfl
theorem uQ:Bdq "bunches_of" s_bunches_of ["web","levels"]:=by ac_rfl
theorem sS:Bdq "cluster_tree" s_cluster_tree ["web","bunches","w"]:=by ac_rfl
theorem sK:Bdq "cluster_trees" s_cluster_trees ["web","bunches"]:=by ac_rfl
theorem sJ:Bdq "ties_of_trees" s_ties_of_trees ["web","trees"]:=by ac_rfl
theorem uO:Bdq "level_keep" s_level_keep ["web","levels"]:=by ac_rfl
theorem vN:Bdq "best_side" s_best_side ["web","bunches","tie"]:=by ac_rfl
theorem tV:Bdq "level_paper" s_level_paper ["web","levels"]:=by ac_rfl
theorem wZ:Bdq "_law_pot" s__law_pot ["script","k"]:=by ac_rfl
theorem vP:Bdq "_law_take" s__law_take ["pot","many"]:=by ac_rfl
theorem tY:Bdq "_law_length" s__law_length ["pot","way"]:=by ac_rfl
theorem vO:Bdq "_law_tied" s__law_tied ["pot","n","style","a","b"]:=by ac_rfl
theorem uS:Bdq "_law_order" s__law_order ["pot","many"]:=by ac_rfl
theorem wY:Bdq "_law_web" s__law_web ["pot","most"]:=by ac_rfl
theorem tX:Bdq "_law_levels" s__law_levels ["pot","n"]:=by ac_rfl
theorem tW:Bdq "_law_spoilt" s__law_spoilt ["pot","n","levels"]:=by ac_rfl
theorem uT:Bdq "_law_asked" s__law_asked ["way","web","levels","places"]:=by ac_rfl
theorem sU:Bdq "_law_refused" s__law_refused ["way","web","levels","places"]:=by ac_rfl
theorem zdm {P:n0}{w:uak}{K:b9}{mg:Str->Option c9}{base:Heap}{f:j8}{fd:FuncData}(T:Bi mg){xcE xcL xc1 xc2 xc3 xc4 xc5 xc6 xd1 xd2 xd3 xd4 xd5 xd6:j8}(m_ThinError:mg "ThinError"=some (.ref xcE))(m_NoLevels:mg "NoLevels"=some (.ref xcL))(m_NoBack:mg "NoBack"=some (.ref xc1))(m_NoFalls:mg "NoFalls"=some (.ref xc2))(m_NoLength:mg "NoLength"=some (.ref xc3))(m_NoLine:mg "NoLine"=some (.ref xc4))(m_NoOrder:mg "NoOrder"=some (.ref xc5))(m_NoPlain:mg "NoPlain"=some (.ref xc6))(m_NoShare:mg "NoShare"=some (.ref xd1))(m_NoText:mg "NoText"=some (.ref xd2))(m_NoTie:mg "NoTie"=some (.ref xd3))(m_NoTimes:mg "NoTimes"=some (.ref xd4))(m_NoWeb:mg "NoWeb"=some (.ref xd5))(m_TooMany:mg "TooMany"=some (.ref xd6))(z_ValueError:mg "ValueError"=none)(xm_NoLevels:XM K xcL)(XF:XF64 K xcE xcL xc1 xc2 xc3 xc4 xc5 xc6 xd1 xd2 xd3 xd4 xd5 xd6)
  (D_is_whole:DefOk K mg "is_whole" s_is_whole ["thing"])
  (D_is_rising:DefOk K mg "is_rising" s_is_rising ["parts"])
  (D_is_place:DefOk K mg "is_place" s_is_place ["web","thing"])
  (D_whole:DefOk K mg "whole" s_whole ["web"])
  (D_tie_between:DefOk K mg "tie_between" s_tie_between ["web","a","b"])
  (D_are_unlike_places:DefOk K mg "are_unlike_places" s_are_unlike_places ["web","thing"])
  (D_tie_weights:DefOk K mg "tie_weights" s_tie_weights ["web"])
  (D_cost_with:DefOk K mg "cost_with" s_cost_with ["cost","length","weight"])
  (D_reached_from:DefOk K mg "reached_from" s_reached_from ["web","keep","root"])
  (D_fars_from:DefOk K mg "fars_from" s_fars_from ["web","keep","root"])
  (D_tree_from:DefOk K mg "tree_from" s_tree_from ["web","keep","root"])
  (D_is_level:DefOk K mg "is_level" s_is_level ["web","thing"])
  (D_lies_within:DefOk K mg "lies_within" s_lies_within ["level","ahead"])
  (D_are_levels:DefOk K mg "are_levels" s_are_levels ["web","thing"])
  (D_need_levels:DefOk K mg "need_levels" s_need_levels ["web","levels"])
  (D_top_of:DefOk K mg "top_of" s_top_of ["levels","place"])
  (D_nearest_of:DefOk K mg "nearest_of" s_nearest_of ["levels","number","fars"])
  (D_is_bunched:DefOk K mg "is_bunched" s_is_bunched ["levels","fars","w"])
  (D_pivot_by:DefOk K mg "pivot_by" s_pivot_by ["levels","i","fars"])
  (D_web_fars:DefOk K mg "web_fars" s_web_fars ["web","place"])
  (D_bunch:DefOk K mg "bunch" s_bunch ["web","levels","v"])
  (D_pivot:DefOk K mg "pivot" s_pivot ["web","levels","i","v"])
  (D_climb:DefOk K mg "climb" s_climb ["web","levels","u","v"])
  (D_tree_ties:DefOk K mg "tree_ties" s_tree_ties ["web","tree"])
  (D_not_kept:DefOk K mg "not_kept" s_not_kept ["web","keep"])
  (D_bunches_of:DefOk K mg "bunches_of" s_bunches_of ["web","levels"])
  (D_cluster_tree:DefOk K mg "cluster_tree" s_cluster_tree ["web","bunches","w"])
  (D_cluster_trees:DefOk K mg "cluster_trees" s_cluster_trees ["web","bunches"])
  (D_ties_of_trees:DefOk K mg "ties_of_trees" s_ties_of_trees ["web","trees"])
  (D_level_keep:DefOk K mg "level_keep" s_level_keep ["web","levels"])
  (D_best_side:DefOk K mg "best_side" s_best_side ["web","bunches","tie"])
  (D_level_paper:DefOk K mg "level_paper" s_level_paper ["web","levels"])
  (D__law_pot:DefOk K mg "_law_pot" s__law_pot ["script","k"])
  (D__law_take:DefOk K mg "_law_take" s__law_take ["pot","many"])
  (D__law_length:DefOk K mg "_law_length" s__law_length ["pot","way"])
  (D__law_tied:DefOk K mg "_law_tied" s__law_tied ["pot","n","style","a","b"])
  (D__law_order:DefOk K mg "_law_order" s__law_order ["pot","many"])
  (D__law_web:DefOk K mg "_law_web" s__law_web ["pot","most"])
  (D__law_levels:DefOk K mg "_law_levels" s__law_levels ["pot","n"])
  (D__law_spoilt:DefOk K mg "_law_spoilt" s__law_spoilt ["pot","n","levels"])
  (D__law_asked:DefOk K mg "_law_asked" s__law_asked ["way","web","levels","places"])
  (D__law_refused:DefOk K mg "_law_refused" s__law_refused ["way","web","levels","places"])
  (F:Fun K "law" "law" s_law f fd):FnOk P w K mg base CX0 12 f fd ["script"] (spLaw K):=by
 have O__law_take:=vC (P:=P) (w:=w) (base:=base) T D__law_take;have O__law_pot:=wG (P:=P) (w:=w) (base:=base) T D__law_pot;have O__law_length:=tJ T D__law_length O__law_take;have O__law_tied:=vB T D__law_tied O__law_take;have O__law_order:=uI T D__law_order O__law_take;have O__law_web:=wF T D__law_web (O__law_take.mono (by decide)) O__law_order O__law_tied O__law_length;have O_tie_weights:=sV (P:=P) (w:=w) (base:=base) T D_tie_weights;have O_cost_with:=uZ (P:=P) (w:=w) (base:=base) T D_cost_with
 have O_reached_fromC:=sE T D_reached_from O_tie_weights O_cost_with
 have O_reached_from:‹2› "reached_from" ["web","keep","root"] (spReached K):=O_reached_fromC.imp yN;have O_reached_fromB:‹2› "reached_from" ["web","keep","root"] (spReachedB K):=O_reached_fromC.imp yO;have O_tree_from:=uC T D_tree_from O_reached_fromB;have O_tie_between:=sW (P:=P) (w:=w) (base:=base) T D_tie_between;have O_fars_from:=uY T D_fars_from O_reached_from;have O_is_whole:=wC (P:=P) (w:=w) (base:=base) T D_is_whole;have O_is_place:=wD T D_is_place O_is_whole;have O_are_unlike_places:=rT T D_are_unlike_places O_is_place;have O_is_rising:=rZ (P:=P) (w:=w) (base:=base) T D_is_rising;have O_is_level:=wE T D_is_level O_are_unlike_places (O_is_rising.mono (by decide));have O_lies_within:=sY (P:=P) (w:=w) (K:=K) (base:=base) T D_lies_within;have O_are_levels:=uH T D_are_levels O_is_level (O_lies_within.mono (by decide));have O_need_levels:=sX T D_need_levels O_are_levels;have O_top_of:=yW (P:=P) (w:=w) (base:=base) T D_top_of;have O_nearest_of:=uD (P:=P) (w:=w) (base:=base) T D_nearest_of;have O_is_bunched:=uF T D_is_bunched O_nearest_of O_top_of;have O_whole:=zbj (P:=P) (w:=w) (base:=base) T D_whole;have O_web_fars:=vZ T D_web_fars (O_whole.mono (by decide)) O_fars_from;have O_bunch:=zbm T D_bunch O_need_levels (O_web_fars.mono (by decide)) (O_is_bunched.mono (by decide));have O__law_levels:=tH T D__law_levels O__law_take;have O_tree_ties:=uB T D_tree_ties O_tie_between;have O_bunches_of:=uG T D_bunches_of O_bunch;have O_cluster_tree:=sP T D_cluster_tree O_tree_from (O_whole.mono (by decide));have O_cluster_trees:=sF T D_cluster_trees O_cluster_tree;have O_ties_of_trees:=sD T D_ties_of_trees (O_tree_ties.mono (by decide));have O_level_keep:=uE T D_level_keep (O_ties_of_trees.mono (by decide)) (O_cluster_trees.mono (by decide)) O_bunches_of;have O_not_kept:=wB T D_not_kept O_whole;have O_best_side:=vA (P:=P) (w:=w) (K:=K) (base:=base) T D_best_side;have O_level_paper:=sZ T D_level_paper O_bunches_of (O_cluster_trees.mono (by decide)) (O_not_kept.mono (by decide)) (O_ties_of_trees.mono (by decide)) (O_best_side.mono (by decide));have O_pivot_by:=wA T D_pivot_by O_top_of;have O_pivot:=zbk T D_pivot O_need_levels (O_web_fars.mono (by decide)) (O_pivot_by.mono (by decide));have O_climb:=zbl T D_climb O_need_levels (O_web_fars.mono (by decide)) (O_is_bunched.mono (by decide)) (O_top_of.mono (by decide)) (O_pivot_by.mono (by decide));have X_is_place:=uW T D_is_place O_is_whole;have X_are_unlike:=tF T D_are_unlike_places X_is_place;have X_is_level:=uX T D_is_level X_are_unlike (O_is_rising.mono (by decide));have X_lies:=sM (P:=P) (w:=w) (K:=K) (base:=base) T D_lies_within;have X_are_levels:=tG T D_are_levels X_is_level (X_lies.mono (by decide));have X_need:=sL T D_need_levels m_NoLevels xm_NoLevels X_are_levels;have X_bunch:=yZ T D_bunch X_need;have X_pivot:=yX T D_pivot X_need;have X_climb:=yY T D_climb X_need;have X_bunches_of:=tE T D_bunches_of X_bunch;have X_level_paper:=sO T D_level_paper X_bunches_of;have X_level_keep:=tD T D_level_keep (O_ties_of_trees.mono (by decide)) (O_cluster_trees.mono (by decide)) X_bunches_of;have X_asked:=tK T D__law_asked (X_bunch.mono (by decide)) (X_pivot.mono (by decide)) (X_climb.mono (by decide)) X_level_keep X_level_paper;have O__law_asked:=tL T D__law_asked (O_bunch.mono (by decide)) (O_pivot.mono (by decide)) (O_climb.mono (by decide)) O_level_keep O_level_paper;have O__law_refused:=sB T D__law_refused m_ThinError m_NoLevels m_NoBack m_NoFalls m_NoLength m_NoLine m_NoOrder m_NoPlain m_NoShare m_NoText m_NoTie m_NoTimes m_NoWeb m_TooMany z_ValueError XF X_asked;have O__law_spoilt:=sG T D__law_spoilt O__law_take;exact zem T F (O__law_pot.mono (by decide)) (O__law_take.mono (by decide)) (O__law_web.mono (by decide)) (O__law_levels.mono (by decide)) (O__law_spoilt.mono (by decide)) O__law_refused (O__law_asked.mono (by decide))
theorem walk {l:PySem.W.OpenLaw}{q:n0}{loose:List Str}{XP:(Str->Option c9)->Heap->Prop}{YP:uak->Heap->Prop}{d:DefRec}{K:Params->b9}(hn:l.most=some 63)(hdf:d.params.defaults=[])
  (hY:∀ (w:uak)(h:Heap),YP w h->(K w.params).In h)
  (F:∀ (w:uak)(mg:Str->Option c9)(fa:j8)(h:Heap),(K w.params).In h->h.Ns m9 mg->mg d.name=some (.ref fa) ->
   ∃ fd:FuncData,(∀ (s:d8)(u:c9),BindsTo s fd ⟨[u],[]⟩ [("script",u)])/\∀ base:Heap,(K w.params).In base->base.Ns m9 mg->FnOk l.prog w (K w.params) mg base CX0 12 fa fd ["script"] (spLaw (K w.params))) :
  PySem.W.WalkO q loose XP YP l.row.toRowW d [] (λ f vs=>PySem.call f vs) :=
 L2.zcp (n:=63) (k:=12) (x:="script") (CX:=λ _=>CX0) (sp:=λ w=>spLaw (K w.params)) hn (by decide) hdf ⟨rfl,by decide,by decide,rfl⟩ hY F (λ _ _ a ns hl _ hS=>⟨a,ns,rfl,hS,hl,λ _=>rfl⟩) λ _ _ _ _ _ z=>z
end Me
namespace Hy
open PySem PySem.W Hx
def cs:List Ch:=[⟨0,15,187,0,187,0⟩,⟨1,15,189,0,187,0⟩,⟨2,28,207,0,187,24⟩,⟨3,40,223,0,187,24⟩,⟨4,52,239,0,187,24⟩,⟨5,64,255,0,187,24⟩,⟨6,76,271,0,187,24⟩,⟨7,88,287,0,187,24⟩,⟨8,100,303,0,187,24⟩,⟨9,112,319,0,187,24⟩,⟨10,124,335,0,187,24⟩,⟨11,136,351,0,187,24⟩,⟨12,148,367,0,187,24⟩,⟨13,160,383,0,187,24⟩,⟨14,172,399,0,187,24⟩,⟨15,184,415,15,415,0⟩,⟨16,184,417,15,415,0⟩,⟨17,191,424,15,415,0⟩,⟨18,196,430,18,430,0⟩,⟨19,196,432,18,430,0⟩,⟨20,203,440,18,430,0⟩,⟨21,210,447,18,430,0⟩,⟨22,217,459,22,459,0⟩,⟨23,217,461,22,459,0⟩,⟨24,222,467,22,459,0⟩,⟨25,229,477,22,459,0⟩,⟨26,236,486,22,459,0⟩,⟨27,243,506,22,459,0⟩,⟨28,248,512,22,459,0⟩,⟨29,255,523,29,523,0⟩,⟨30,255,525,29,523,0⟩,⟨31,262,533,29,523,0⟩,⟨32,267,539,29,523,0⟩,⟨33,272,545,29,523,0⟩,⟨34,279,553,29,523,0⟩,⟨35,284,559,29,523,0⟩,⟨36,289,565,29,523,0⟩,⟨37,296,575,29,523,0⟩,⟨38,301,581,29,523,0⟩,⟨39,308,589,29,523,0⟩,⟨40,313,595,29,523,0⟩,⟨41,320,605,29,523,0⟩,⟨42,327,622,42,622,0⟩,⟨43,327,624,42,622,0⟩,⟨44,332,630,44,630,0⟩,⟨45,332,632,44,630,0⟩,⟨46,337,638,46,638,0⟩,⟨47,337,640,46,638,0⟩,⟨48,342,646,46,638,0⟩,⟨49,347,652,46,638,0⟩,⟨50,352,658,46,638,0⟩,⟨51,359,669,46,638,0⟩,⟨52,366,677,46,638,0⟩,⟨53,371,683,46,638,0⟩,⟨54,376,689,54,689,0⟩,⟨55,376,691,54,689,0⟩,⟨56,383,701,54,689,0⟩,⟨57,390,710,54,689,0⟩,⟨58,397,718,54,689,0⟩,⟨59,404,730,54,689,0⟩,⟨60,411,741,54,689,0⟩,⟨61,418,758,54,689,0⟩,⟨62,423,764,54,689,0⟩,⟨63,428,770,54,689,0⟩,⟨64,435,780,54,689,0⟩,⟨65,442,792,54,689,0⟩]
end Hy
lay_quick Hx.PieceT Hx.PreT Hx.BlockT Hx.LookA Hx.LookB Hx.LookC PySem.Challenge.pw_thinways_k64_levels_refused
namespace Hy
open PySem PySem.W Hx
theorem pre:PreT a7 boots boot_drawn boot_heap boot_toks cs ⟨0,15,187⟩:=by
 rw[PySem.W.Fast.te16428918119715843241,PySem.W.Fast.te11167416209773627439];delta PySem.W.Fast.tw16428918119715843241;intro w;kernel_rfl
theorem pc0:PieceT a7 boots boot_drawn cs ⟨0,15,187⟩ ⟨2,28,207⟩ 196:=by
 rw[PySem.W.Fast.te4643275101561185336,PySem.W.Fast.te11167416209773627439];delta PySem.W.Fast.tw4643275101561185336;intro w;kernel_rfl
theorem pc1:PieceT a7 boots boot_drawn cs ⟨2,28,207⟩ ⟨3,40,223⟩ 214:=by
 rw[PySem.W.Fast.te4643275101561185336,PySem.W.Fast.te11167416209773627439];delta PySem.W.Fast.tw4643275101561185336;intro w;kernel_rfl
theorem pc2:PieceT a7 boots boot_drawn cs ⟨3,40,223⟩ ⟨4,52,239⟩ 214:=by
 rw[PySem.W.Fast.te4643275101561185336,PySem.W.Fast.te11167416209773627439];delta PySem.W.Fast.tw4643275101561185336;intro w;kernel_rfl
theorem pc3:PieceT a7 boots boot_drawn cs ⟨4,52,239⟩ ⟨5,64,255⟩ 214:=by
 rw[PySem.W.Fast.te4643275101561185336,PySem.W.Fast.te11167416209773627439];delta PySem.W.Fast.tw4643275101561185336;intro w;kernel_rfl
theorem pc4:PieceT a7 boots boot_drawn cs ⟨5,64,255⟩ ⟨6,76,271⟩ 214:=by
 rw[PySem.W.Fast.te4643275101561185336,PySem.W.Fast.te11167416209773627439];delta PySem.W.Fast.tw4643275101561185336;intro w;kernel_rfl
theorem pc5:PieceT a7 boots boot_drawn cs ⟨6,76,271⟩ ⟨7,88,287⟩ 214:=by
 rw[PySem.W.Fast.te4643275101561185336,PySem.W.Fast.te11167416209773627439];delta PySem.W.Fast.tw4643275101561185336;intro w;kernel_rfl
theorem pc6:PieceT a7 boots boot_drawn cs ⟨7,88,287⟩ ⟨8,100,303⟩ 214:=by
 rw[PySem.W.Fast.te4643275101561185336,PySem.W.Fast.te11167416209773627439];delta PySem.W.Fast.tw4643275101561185336;intro w;kernel_rfl
theorem pc7:PieceT a7 boots boot_drawn cs ⟨8,100,303⟩ ⟨9,112,319⟩ 214:=by
 rw[PySem.W.Fast.te4643275101561185336,PySem.W.Fast.te11167416209773627439];delta PySem.W.Fast.tw4643275101561185336;intro w;kernel_rfl
theorem pc8:PieceT a7 boots boot_drawn cs ⟨9,112,319⟩ ⟨10,124,335⟩ 214:=by
 rw[PySem.W.Fast.te4643275101561185336,PySem.W.Fast.te11167416209773627439];delta PySem.W.Fast.tw4643275101561185336;intro w;kernel_rfl
theorem pc9:PieceT a7 boots boot_drawn cs ⟨10,124,335⟩ ⟨11,136,351⟩ 214:=by
 rw[PySem.W.Fast.te4643275101561185336,PySem.W.Fast.te11167416209773627439];delta PySem.W.Fast.tw4643275101561185336;intro w;kernel_rfl
theorem pc10:PieceT a7 boots boot_drawn cs ⟨11,136,351⟩ ⟨12,148,367⟩ 214:=by
 rw[PySem.W.Fast.te4643275101561185336,PySem.W.Fast.te11167416209773627439];delta PySem.W.Fast.tw4643275101561185336;intro w;kernel_rfl
theorem pc11:PieceT a7 boots boot_drawn cs ⟨12,148,367⟩ ⟨13,160,383⟩ 214:=by
 rw[PySem.W.Fast.te4643275101561185336,PySem.W.Fast.te11167416209773627439];delta PySem.W.Fast.tw4643275101561185336;intro w;kernel_rfl
theorem pc12:PieceT a7 boots boot_drawn cs ⟨13,160,383⟩ ⟨14,172,399⟩ 214:=by
 rw[PySem.W.Fast.te4643275101561185336,PySem.W.Fast.te11167416209773627439];delta PySem.W.Fast.tw4643275101561185336;intro w;kernel_rfl
theorem pc13:PieceT a7 boots boot_drawn cs ⟨14,172,399⟩ ⟨23,217,461⟩ 389:=by
 rw[PySem.W.Fast.te4643275101561185336,PySem.W.Fast.te11167416209773627439];delta PySem.W.Fast.tw4643275101561185336;intro w;kernel_rfl
theorem pc14:PieceT a7 boots boot_drawn cs ⟨23,217,461⟩ ⟨37,296,575⟩ 396:=by
 rw[PySem.W.Fast.te4643275101561185336,PySem.W.Fast.te11167416209773627439];delta PySem.W.Fast.tw4643275101561185336;intro w;kernel_rfl
theorem pc15:PieceT a7 boots boot_drawn cs ⟨37,296,575⟩ ⟨53,371,683⟩ 400:=by
 rw[PySem.W.Fast.te4643275101561185336,PySem.W.Fast.te11167416209773627439];delta PySem.W.Fast.tw4643275101561185336;intro w;kernel_rfl
theorem pc16:PieceT a7 boots boot_drawn cs ⟨53,371,683⟩ ⟨66,449,806⟩ 389:=by
 rw[PySem.W.Fast.te4643275101561185336,PySem.W.Fast.te11167416209773627439];delta PySem.W.Fast.tw4643275101561185336;intro w;kernel_rfl
theorem blk:BlockT a7 :=by
 rw[PySem.W.Fast.te421534021395069552,PySem.W.Fast.te11167416209773627439];delta PySem.W.Fast.tw421534021395069552;intro w s;kernel_rfl
theorem run (w:uak)(os:OsState):topRun treeTable a7 w 11 ann0 (12+(1+(196+(214+(214+(214+(214+(214+(214+(214+(214+(214+(214+(214+(214+(389+(396+(400+(389+2))))))))))))))))))) ⟨boot_heap w.params,uel [],boot_drawn,boot_toks,os⟩ (topStub a7)=some (stT a7 boots boot_drawn cs ⟨66,449,806⟩ w os).abs:=zc2 pre blk (chain pc0 (by decide) (chain pc1 (by decide) (chain pc2 (by decide) (chain pc3 (by decide) (chain pc4 (by decide) (chain pc5 (by decide) (chain pc6 (by decide) (chain pc7 (by decide) (chain pc8 (by decide) (chain pc9 (by decide) (chain pc10 (by decide) (chain pc11 (by decide) (chain pc12 (by decide) (chain pc13 (by decide) (chain pc14 (by decide) (chain pc15 (by decide) (chain pc16 (by decide) (zZ (by kernel_rfl)))))))))))))))))))
theorem size (w:uak):((boot_heap w.params).isNs m9&&(uel []:Array GenState).size==0,(boot_heap w.params).objs.size,(boot_heap w.params).nsMap m9 "__annotations__")=(true,11,ann0):=by kernel_rfl
theorem lkA:LookA a7 boots boot_drawn boot_heap cs ⟨66,449,806⟩:=by
 rw[PySem.W.Fast.te7818774390570169022,PySem.W.Fast.te11167416209773627439];delta PySem.W.Fast.tw7818774390570169022;intro w;kernel_rfl
theorem lkB:LookB a7 boots boot_drawn cs ⟨66,449,806⟩ [65] (OpenRow.toRowW (v9).row).records:=by
 rw[PySem.W.Fast.te13889730532244352606,PySem.W.Fast.te11167416209773627439];delta PySem.W.Fast.tw13889730532244352606;intro w;kernel_rfl
theorem lkC:LookC a7 boots cs ⟨66,449,806⟩ [3,23,24,36,37,48,49,60,61,72,73,84,85,96,97,108,109,120,121,132,133,144,145,156,157,168,169,180,181,189,190,194,195,201,202,208,209,215,216,220,221,227,228,234,235,241,242,246,247,253,254,260,261,265,266,270,271,277,278,282,283,287,288,294,295,299,300,306,307,311,312,318,319,325,326,330,331,335,336,340,341,345,346,350,351,357,358,364,365,369,370,374,375,381,382,388,389,395,396,402,403,409,410,416,417,421,422,426,427,433,434,440,441,447,448]:=by
 rw[PySem.W.Fast.te6241646928739474683,PySem.W.Fast.te11167416209773627439];delta PySem.W.Fast.tw6241646928739474683;intro w;kernel_rfl
noncomputable abbrev K:=Kf a7 boots cs
theorem Kas (P:Params):[3,23,24,36,37,48,49,60,61,72,73,84,85,96,97,108,109,120,121,132,133,144,145,156,157,168,169,180,181,189,190,194,195,201,202,208,209,215,216,220,221,227,228,234,235,241,242,246,247,253,254,260,261,265,266,270,271,277,278,282,283,287,288,294,295,299,300,306,307,311,312,318,319,325,326,330,331,335,336,340,341,345,346,350,351,357,358,364,365,369,370,374,375,381,382,388,389,395,396,402,403,409,410,416,417,421,422,426,427,433,434,440,441,447,448]=(K P).map (·.1):=by kernel_rfl
noncomputable abbrev H:Hook:=kHook K [3,23,24,36,37,48,49,60,61,72,73,84,85,96,97,108,109,120,121,132,133,144,145,156,157,168,169,180,181,189,190,194,195,201,202,208,209,215,216,220,221,227,228,234,235,241,242,246,247,253,254,260,261,265,266,270,271,277,278,282,283,287,288,294,295,299,300,306,307,311,312,318,319,325,326,330,331,335,336,340,341,345,346,350,351,357,358,364,365,369,370,374,375,381,382,388,389,395,396,402,403,409,410,416,417,421,422,426,427,433,434,440,441,447,448] Kas
theorem opn:opening a7=plainProg (a7).main.scope.names:=by kernel_rfl
theorem fnc (s:d8):fenceModules? a7 s=some s:=by kernel_rfl
theorem left:LeftO a7 (qv a7 [65]) (lz a7 [65] 66) (λ s=>xlAt (qv a7 [65]) [] s&&recOk (OpenRow.toRowW (v9).row).records s) (Hook.obs H) (Hook.val H) 9306 :=
 zdk (p:=a7) (cs:=cs) (is:=[65]) (as:=[3,23,24,36,37,48,49,60,61,72,73,84,85,96,97,108,109,120,121,132,133,144,145,156,157,168,169,180,181,189,190,194,195,201,202,208,209,215,216,220,221,227,228,234,235,241,242,246,247,253,254,260,261,265,266,270,271,277,278,282,283,287,288,294,295,299,300,306,307,311,312,318,319,325,326,330,331,335,336,340,341,345,346,350,351,357,358,364,365,369,370,374,375,381,382,388,389,395,396,402,403,409,410,416,417,421,422,426,427,433,434,440,441,447,448]) (rc:=(OpenRow.toRowW (v9).row).records) (c:=⟨66,449,806⟩) (M:=12+(1+(196+(214+(214+(214+(214+(214+(214+(214+(214+(214+(214+(214+(214+(389+(396+(400+(389+2))))))))))))))))))) (N:=9306) (e:=Kas) opn (by decide) fnc size run (by decide) lkA lkB lkC
end Hy
namespace Hy
open PySem PySem.W PyProof.Rows L2 L3 Hx Me
theorem all {w:uak}{h:Heap}{mg:Str->Option c9}{fa:j8}(X:(K w.params).In h)(G:h.Ns m9 mg)(hfa:mg "law"=some (.ref fa)) :
  ∃ fd:FuncData,(∀ (s:d8)(v:c9),BindsTo s fd ⟨[v],[]⟩ [("script",v)])/\∀ base:Heap,(K w.params).In base->base.Ns m9 mg->FnOk (v9).prog w (K w.params) mg base CX0 12 fa fd ["script"] (spLaw (K w.params)):=by
 have T:Bi mg:=⟨v7 X G (show r9 (K w.params) m9 "len"=some none by kernel_rfl),v7 X G (show r9 (K w.params) m9 "range"=some none by kernel_rfl),v7 X G (show r9 (K w.params) m9 "zip"=some none by kernel_rfl),v7 X G (show r9 (K w.params) m9 "all"=some none by kernel_rfl),v7 X G (show r9 (K w.params) m9 "sorted"=some none by kernel_rfl),v7 X G (show r9 (K w.params) m9 "isinstance"=some none by kernel_rfl),v7 X G (show r9 (K w.params) m9 "min"=some none by kernel_rfl),v7 X G (show r9 (K w.params) m9 "max"=some none by kernel_rfl),v7 X G (show r9 (K w.params) m9 "tuple"=some none by kernel_rfl),v7 X G (show r9 (K w.params) m9 "list"=some none by kernel_rfl),v7 X G (show r9 (K w.params) m9 "int"=some none by kernel_rfl),v7 X G (show r9 (K w.params) m9 "bool"=some none by kernel_rfl),v7 X G (show r9 (K w.params) m9 "str"=some none by kernel_rfl),v7 X G (show r9 (K w.params) m9 "enumerate"=some none by kernel_rfl),v7 X G (show r9 (K w.params) m9 "sum"=some none by kernel_rfl),v7 X G (show r9 (K w.params) m9 "abs"=some none by kernel_rfl),v7 X G (show r9 (K w.params) m9 "set"=some none by kernel_rfl),v7 X G (show r9 (K w.params) m9 "reversed"=some none by kernel_rfl),v7 X G (show r9 (K w.params) m9 "any"=some none by kernel_rfl),v7 X G (show r9 (K w.params) m9 "repr"=some none by kernel_rfl),v7 X G (show r9 (K w.params) m9 "dict"=some none by kernel_rfl)⟩;have D_is_whole:=dq (p:=a7) (ps:=["thing"]) 190 189 15 415 X G wV;have D_is_rising:=dq (p:=a7) (ps:=["parts"]) 195 194 15 415 X G vK;have D_is_place:=dq (p:=a7) (ps:=["web","thing"]) 202 201 18 430 X G wW;have D_whole:=dq (p:=a7) (ps:=["web"]) 209 208 18 430 X G zci;have D_tie_between:=dq (p:=a7) (ps:=["web","a","b"]) 216 215 18 430 X G tR;have D_are_unlike_places:=dq (p:=a7) (ps:=["web","thing"]) 221 220 22 459 X G rV;have D_tie_weights:=dq (p:=a7) (ps:=["web"]) 228 227 22 459 X G tQ;have D_cost_with:=dq (p:=a7) (ps:=["cost","length","weight"]) 235 234 22 459 X G vM;have D_reached_from:=dq (p:=a7) (ps:=["web","keep","root"]) 242 241 22 459 X G sR;have D_fars_from:=dq (p:=a7) (ps:=["web","keep","root"]) 247 246 22 459 X G vL;have D_tree_from:=dq (p:=a7) (ps:=["web","keep","root"]) 254 253 22 459 X G vJ;have D_is_level:=dq (p:=a7) (ps:=["web","thing"]) 261 260 29 523 X G wX;have D_lies_within:=dq (p:=a7) (ps:=["level","ahead"]) 266 265 29 523 X G tU;have D_are_levels:=dq (p:=a7) (ps:=["web","thing"]) 271 270 29 523 X G uR;have D_need_levels:=dq (p:=a7) (ps:=["web","levels"]) 278 277 29 523 X G tT;have D_top_of:=dq (p:=a7) (ps:=["levels","place"]) 283 282 29 523 X G zah;have D_nearest_of:=dq (p:=a7) (ps:=["levels","number","fars"]) 288 287 29 523 X G uN;have D_is_bunched:=dq (p:=a7) (ps:=["levels","fars","w"]) 295 294 29 523 X G uP;have D_pivot_by:=dq (p:=a7) (ps:=["levels","i","fars"]) 300 299 29 523 X G wT;have D_web_fars:=dq (p:=a7) (ps:=["web","place"]) 307 306 29 523 X G wS;have D_bunch:=dq (p:=a7) (ps:=["web","levels","v"]) 312 311 29 523 X G zcl;have D_pivot:=dq (p:=a7) (ps:=["web","levels","i","v"]) 319 318 29 523 X G zcj;have D_climb:=dq (p:=a7) (ps:=["web","levels","u","v"]) 326 325 29 523 X G zck;have D_tree_ties:=dq (p:=a7) (ps:=["web","tree"]) 331 330 42 622 X G vI;have D_not_kept:=dq (p:=a7) (ps:=["web","keep"]) 336 335 44 630 X G wU;have D_bunches_of:=dq (p:=a7) (ps:=["web","levels"]) 341 340 46 638 X G uQ;have D_cluster_tree:=dq (p:=a7) (ps:=["web","bunches","w"]) 346 345 46 638 X G sS;have D_cluster_trees:=dq (p:=a7) (ps:=["web","bunches"]) 351 350 46 638 X G sK;have D_ties_of_trees:=dq (p:=a7) (ps:=["web","trees"]) 358 357 46 638 X G sJ;have D_level_keep:=dq (p:=a7) (ps:=["web","levels"]) 365 364 46 638 X G uO;have D_best_side:=dq (p:=a7) (ps:=["web","bunches","tie"]) 370 369 46 638 X G vN;have D_level_paper:=dq (p:=a7) (ps:=["web","levels"]) 375 374 46 638 X G tV;have D__law_pot:=dq (p:=a7) (ps:=["script","k"]) 382 381 54 689 X G wZ;have D__law_take:=dq (p:=a7) (ps:=["pot","many"]) 389 388 54 689 X G vP;have D__law_length:=dq (p:=a7) (ps:=["pot","way"]) 396 395 54 689 X G tY;have D__law_tied:=dq (p:=a7) (ps:=["pot","n","style","a","b"]) 403 402 54 689 X G vO;have D__law_order:=dq (p:=a7) (ps:=["pot","many"]) 410 409 54 689 X G uS;have D__law_web:=dq (p:=a7) (ps:=["pot","most"]) 417 416 54 689 X G wY;have D__law_levels:=dq (p:=a7) (ps:=["pot","n"]) 422 421 54 689 X G tX;have D__law_spoilt:=dq (p:=a7) (ps:=["pot","n","levels"]) 427 426 54 689 X G tW;have D__law_asked:=dq (p:=a7) (ps:=["way","web","levels","places"]) 434 433 54 689 X G uT;have D__law_refused:=dq (p:=a7) (ps:=["way","web","levels","places"]) 441 440 54 689 X G sU;have m_ThinError:=ube X G (show r9 (K w.params) m9 "ThinError"=some (some (.ref 24)) by kernel_rfl);have m_NoLevels:=ube X G (show r9 (K w.params) m9 "NoLevels"=some (some (.ref 97)) by kernel_rfl);have m_NoBack:=ube X G (show r9 (K w.params) m9 "NoBack"=some (some (.ref 169)) by kernel_rfl);have m_NoFalls:=ube X G (show r9 (K w.params) m9 "NoFalls"=some (some (.ref 109)) by kernel_rfl);have m_NoLength:=ube X G (show r9 (K w.params) m9 "NoLength"=some (some (.ref 133)) by kernel_rfl);have m_NoLine:=ube X G (show r9 (K w.params) m9 "NoLine"=some (some (.ref 157)) by kernel_rfl);have m_NoOrder:=ube X G (show r9 (K w.params) m9 "NoOrder"=some (some (.ref 61)) by kernel_rfl);have m_NoPlain:=ube X G (show r9 (K w.params) m9 "NoPlain"=some (some (.ref 73)) by kernel_rfl);have m_NoShare:=ube X G (show r9 (K w.params) m9 "NoShare"=some (some (.ref 85)) by kernel_rfl);have m_NoText:=ube X G (show r9 (K w.params) m9 "NoText"=some (some (.ref 145)) by kernel_rfl);have m_NoTie:=ube X G (show r9 (K w.params) m9 "NoTie"=some (some (.ref 121)) by kernel_rfl);have m_NoTimes:=ube X G (show r9 (K w.params) m9 "NoTimes"=some (some (.ref 49)) by kernel_rfl);have m_NoWeb:=ube X G (show r9 (K w.params) m9 "NoWeb"=some (some (.ref 37)) by kernel_rfl);have m_TooMany:=ube X G (show r9 (K w.params) m9 "TooMany"=some (some (.ref 181)) by kernel_rfl);have z_ValueError:=v7 X G (show r9 (K w.params) m9 "ValueError"=some none by kernel_rfl);have xm_NoLevels:XM (K w.params) 97:=⟨"NoLevels","NoLevels",96,[.ref 24],.ref 24::Hx.mro0,true,[],[],false,none,none,some (.ref 88),none,some (.str "NoLevels" 287),some (.str "NoLevels" 295),some (.bool true),(by kernel_rfl),(by kernel_rfl),(.own (c0:=.type "type") (dd:=none) (cd:=⟨"ThinError",[.type "ValueError"],.ref 24::Hx.mro0,23,"ThinError",true,[],[.ref 37,.ref 49,.ref 61,.ref 73,.ref 85,.ref 97,.ref 109,.ref 121,.ref 133,.ref 145,.ref 157,.ref 169,.ref 181],false,none,false⟩) (sl:=#[some (.ref 15),none,some (.str "ThinError" 189),some (.str "ThinError" 197),some (.builtin "ValueError.__new__"),some (.bool true)]) (by kernel_rfl) (by kernel_rfl) .base),by symm⟩;have XF:XF64 (K w.params) 24 97 169 109 133 157 61 73 85 145 121 49 37 181:=⟨⟨(by kernel_rfl),(by kernel_rfl),(by kernel_rfl),(by kernel_rfl),(by kernel_rfl),(by kernel_rfl)⟩,(by kernel_rfl),(by kernel_rfl),(by kernel_rfl),(by kernel_rfl),(by kernel_rfl)⟩;have e:=hfa.symm.trans (ube X G (show r9 (K w.params) m9 "law"=some (some (.ref 448)) by kernel_rfl));cases e;have F:=qY (x:="law") (qual:="law") (st:=s_law) (K:=K w.params) (f:=448) (oc:=.type "function") (od:=none) (an:=none) (osl:=#[]) (kV:=.none) (doc:=.none) (pm:=Hx.mdV a7 ⟨0,0,0,54,689,0⟩) (cdv:=.ref 447) (ct:=.none) (by kernel_rfl) (by kernel_rfl) (by kernel_rfl);exact⟨_,λ s v=>.of_eq rfl,λ base _ _=>zdm (P:=(v9).prog) (w:=w) (base:=base) T m_ThinError m_NoLevels m_NoBack m_NoFalls m_NoLength m_NoLine m_NoOrder m_NoPlain m_NoShare m_NoText m_NoTie m_NoTimes m_NoWeb m_TooMany z_ValueError xm_NoLevels XF D_is_whole D_is_rising D_is_place D_whole D_tie_between D_are_unlike_places D_tie_weights D_cost_with D_reached_from D_fars_from D_tree_from D_is_level D_lies_within D_are_levels D_need_levels D_top_of D_nearest_of D_is_bunched D_pivot_by D_web_fars D_bunch D_pivot D_climb D_tree_ties D_not_kept D_bunches_of D_cluster_tree D_cluster_trees D_ties_of_trees D_level_keep D_best_side D_level_paper D__law_pot D__law_take D__law_length D__law_tied D__law_order D__law_web D__law_levels D__law_spoilt D__law_asked D__law_refused F⟩
end Hy
open PySem PySem.W PyProof.Rows
set_option maxRecDepth 100000 in
set_option maxHeartbeats 0 in
theorem PySem.Challenge.cw_thinways_k64_levels_refused_holds : PySem.Challenge.rw_thinways_k64_levels_refused.Holds := by
 w_on;o_law
 refine holds_open (q:=(Hx.qv PySem.Challenge.pw_thinways_k64_levels_refused [65])) (loose:=Hx.lz PySem.Challenge.pw_thinways_k64_levels_refused [65] 66) (Xt:=λ s=>xlAt (Hx.qv PySem.Challenge.pw_thinways_k64_levels_refused [65]) [] s&&recOk (OpenRow.toRowW (PySem.Challenge.rw_thinways_k64_levels_refused).row).records s) (XP:=XL (Hx.qv PySem.Challenge.pw_thinways_k64_levels_refused [65]) []) (Yf:=Hook.obs Hy.H) (Ya:=Hook.val Hy.H) (YP:=Hook.says Hy.H) (N:=9306) Hy.left (Hook.of Hy.H) (Hook.keeps Hy.H) (λ s e=>xl_of s (Bool.and_eq_true_iff.mp e).1) XL.keeps (by rfl) (by rfl) (by rfl) (λ s e=>recFacts_of (Bool.and_eq_true_iff.mp e).2) (by rfl) (by first | assumption | decide +kernel) (by symm) ⟨rfl,rfl,rfl,rfl,rfl,by symm⟩ ?hw ?hc
 case hw=>w_witness2
 case hc =>
  refine Me.walk (l:=PySem.Challenge.rw_thinways_k64_levels_refused) rfl rfl (λ w h Y=>PySem.W.kIn_of Y) λ w mg fa h KX G hmg=>Hy.all KX G hmg
