import PyProof.Rows.All
import Wide.All
import OpenK.AllK
import Wide.FinOn
import Lean
import PyProof.EqAt
import PyProof.EqKinds
import PyProof.TupleCall
import KE.KSortTup
import PyProof.ZipIter
import PyProof.TupleIter
import PyProof.WalksMore
import PyProof.Rows.TupIter
import PyProof.EnumIter
import PyProof.EnumFor
import PyProof.EnumStmt
import PyProof.ReprRoads
import PyProof.Rows.SeqMore
import PyProof.ListMulRoad
import PyProof.FactsAll.tuple_2
import PyProof.FactsAll.tuple_3
import PyProof.Rows.Tup
import PyProof.ListRange
import PyProof.TupleOfSeq
import PyProof.SumAny
import PyProof.ConsumeS
import PyProof.Rows.CallKwBuiltin
import KE.KLam
import KE.KSortKey
import PyProof.AutoSeq1
import KE.KListMore
import PyProof.FactsAll.subtypes_4
import PyProof.SetRoads
import PyProof.Rows.SetFrom
import PyProof.WalkInts
import PyProof.DictDisplay
import PyProof.ReprBulk
import PyProof.Conv_int_bool
import PyProof.DictWalks
import PySem.SetTable
import PyProof.FactsAll.set_2
import PySem.Challenge.RW_thinways_k49_papers_of_pairs_judged
set_option Elab.async false
set_option linter.all false
set_option maxRecDepth 100000
def uhz:=@decide_eq_true
def uh0:=@of_decide_eq_true
def uh1:=@decide_eq_false
def uh2:=@if_pos
def uh3:=@if_neg
local macro_rules|`(tactic|let $d:letDecl)=>`(tactic|have $d:letDecl)
local macro_rules|`(tactic|exact $t)=>`(tactic|refine $t)
open PySem renaming wpAny_bind→a7, wpAny_pure→c7, Value→i5, Shared→i6, wpAny→j7, Addr→o7, Program→o9, sizeLine→p8, wpAny_ite_split→u4, model→v4, wpAny_field→v7, wpAny_callSpecial?_slot→v9, wpAny_setField_rec→x9, wpAny_newObj_type→uac, mainGlobals→uad, wpAny_call_entry→uaf, wpAny_holding→uak, wpAny_setState_of→uar, World→uaw, Around→uax, wpAny_seqItems→uay, starEach→ubi, sizeLine_eq→ubn, PyData→ubo, codeAny_builtin→ubp, wpAny_isInstance→ub3, wpAny_askSetting→ub4, wpAny_rule→uca, wpAny_onRaise→ucl, wpAny_attempt→ucm, wpAny_mono→ucr, mem_of_lookup→ucs, wpAny_typeOf→ucx, wpAny_truthy_bool→ucy, wpAny_storeSet_of→ucz, fits_of_scanBound→uc0, wpAny_updateSeq→uc2, wpAny_setEntries_of→uc3, Expr→uc7, wpAny_updateSeq_pair→uc8, codeAny_mono→ude, wpAny_letGo→udg, plainId_quiet→udh, wpAny_setField→udk, wpAny_passesOwn→udt, wpAny_setEpoch_of→udx, wpAny_pyIter_list→udy, Stmt→ud3, isSubtype_type→ud7, wpAny_pyIter_zip→ud8, wpAny_specialOf→uel, wpAny_Call_Name_kw→uem, wpAny_runValue→ueu, wpAny_newTuple→uev, isSubtype_stop→uew, weight_type_call_type→ue0, builtinLookup_eq_fast→ue1, wpAny_loadPart'→uff, SetOf_store→ufg, wpAny_pyIter_tuple→ufs, tupleKind_room_in1→uft, check_set_init_1→ufv, wpAny_sequenceKey→uf1, wpAny_execs_nil→ugi, typeLookup_type→ugj, codeAny_of_tree→ugk, codeAny_call_builtin→ugo, wpAny_fieldsOf→ugt, entryFor_alias→ugu, wpAny_standAt→ug4, wpAny_newList→ug5, wpAny_pyIter_slot→uhc, call_meets→uhd, callType_new→uhi, noFill_tuple_add→uhp
open PySem.Challenge renaming pw_thinways_k49_papers_of_pairs_judged→a8, rw_thinways_k49_papers_of_pairs_judged→u6
open PySem.Heap renaming get?_push_of_some→a9, get?_push_size→i9, lt_size→j5, size_push→uan, get?_update_other→uap, get?_update_self→ua7, ExtBut→ugf
open PySem.W renaming Frag→b8, mg_none_of→uah, nsIn→ua9, kia_one→ub5, fnOf→uc1, keepIn→ueh, codeIn→ue5, methodObj→ugl, instObj→ugx, lookIn→ug6, findIn→ug7, cellsFrom_some→uhj
open List renaming getD_eq_getElem?_getD→c8, length_map→c9, getElem?_eq_getElem→d7, range→d8, length_append→i7, getElem?_map→j0, mem_cons→j4, length_singleton→j6, mem_cons_of_mem→j8, getElem?_eq_some_iff→j9, size_toArray→k9, not_mem_nil→l7, mem_cons_self→l9, mem_range→m8, length_drop→m9, length_take→o8, mem_singleton→u5, replicate→v6, all_eq_true→v8, mem_map→w8, mem_append_right→z0, length_range→uaa, getElem?_append_right→uab, getElem?_eq_none→uag, mem_of_getElem?→ual, getElem?_append_left→uao, map_append→uaq, length_cons→uas, mem_append→uat, Nodup→uau, map_map→ua0, pairwise_map→ua1, map_congr_left→ua2, mem_of_find?_eq_some→ua6, nodup_cons→uba, map_cons→ubc, take_of_length_le→ube, length_replicate→ubg, mem_append_left→ubj, forIn_cons→ubr, find?_eq_none→ubu, pairwise_lt_range→ubw, range_succ→ubx, eq_nil_of_length_eq_zero→uby, getD→ub2, forIn_nil→ub6, mem_flatMap→ub7, lookup_cons→ub8, length_pos_iff→ucc, ext_getElem?→ucd, pairwise_iff_getElem→ucf, mem_iff_getElem?→uci, find?_some→ucj, all_map→uck, any_eq_true→ucn, mem_filter→uct, length_set→ucu, filterMap_cons→ucv, filterMap_append→uc4, append_nil→uc5, replicate_succ→uc9, map_id→uda, getElem?_range→udb, getElem_mem→udd, map_filterMap→udi, getElem?_drop→udj, take_add_one→udo, nodup_append→udp, map_drop→udq, perm_cons_erase→uds, zipIdx_cons→ud0, take_length→ud1, length_reverse→ud2, length_filterMap_le→ud4, length_erase_of_mem→ud5, zipIdx_nil→ud9, pairwise_cons→uea, mem_filterMap→ueb, getElem?_take→uec, getElem?_replicate→ued, find?_cons→uee, reverse_cons→uej, flatten_cons→uek, take_append_drop→uen, mem_of_mem_take→ues, mem_erase_of_ne→uet, any_cons→uey, reverse_append→ue3, flatMap_append→ue4, zip_cons_cons→ue8, nodup_nil→ufc, filterMap→ufd, drop_eq_getElem_cons→ufe, append_assoc→ufm, length_eq_zero_iff→ufu, ext_getElem→ufw, countP_cons→ufx, getElem?_set_self→uf0, mem_of_mem_erase→uf2, length_nil→uf3, getElem?_toArray→uf4, countP_mono_left→uf5, contains_iff_mem→uf6, reverse_reverse→ugc, getElem?_set_ne→ugd, map_eq_nil_iff→ugg, getElem_of_mem→ugh, findIdx?_eq_some_iff_getElem→ugn, toArray→ugz, perm_middle→ug2, of_mem_zip→uha, nodup_iff_pairwise_ne→uhe, length_eraseIdx_of_lt→uhf, findIdx?_eq_none_iff→uhl, filterMap_eq_nil_iff→uhm, drop_zero→uhn, foldl→uhu, pairwise_filterMap→uhx
open Nat renaming le_refl→i8, ne_of_lt→k8, lt_of_lt_of_le→u7, zero_le→uae, le_trans→uaj, le_add_right→ua5, lt_succ_of_lt→ubf, lt_of_le_of_lt→ubv, lt_irrefl→ubz, ne_of_gt→ub9, lt_succ_self→ucq, le_succ→udc, not_lt_zero→ueg, min_le_right→uer, add_comm→ufb, lt_trichotomy→ufq, succ_le_succ→ufz, strongRecOn→uf8, min_le_left→uf9, le_of_lt→uga, le_of_eq→ugb, lt_or_eq_of_le→ugq, eq_zero_or_pos→ugr, lt_trans→ug0, lt_or_ge→ug1, mod_lt→uhw
open Bool renaming and_eq_true→m7, false_ne_true→p6, false_eq_true→ubm, eq_false_iff→uce, or_eq_true→uc6, eq_iff_iff→udm, true_and→udr, false_and→udw, and_true→uef, not_eq_true'→ugw, and_false→uho, or_false→uhy
open Option renaming map_eq_some_iff→r6, isSome_iff_exists→ub0, map→ue9, isSome_map→ufa, bind_eq_some_iff→ufl, map_some→ufy
open Array renaming length_toList→r8, getD_eq_getD_getElem?→ubd, getElem?_eq_getElem→ubh, getElem?_toList→ub1, getD→uez, mk→ufr, size_map→uge, forIn_toList→ugm, getElem?_eq_some_iff→uhb
open Or renaming inl→t6, inr→ugv
open PySem.F renaming called_set→v5, plainAttrs_list→ubs, slot_zip_next→ubt, type_list_append→ucg, slot_list_append→uch, plain_list_iadd→ucp, args_zip_next_1→udu, slot_tuple_iterator_next→udv, entry_zip_next→ud6, slot_enumerate_next→ueo, plain_proto_collect→uep, entry_proto_collect→ueq, plain_extend_loop→ue6, args_tuple_add_2→ue7, entry_type_call→ufh, entry_tuple_add→ufi, entry_list_iadd→ufj, typeCall_set_1→ufn, slot_tuple_add→ufo, entry_set_init→ufp, sub_tuple_frozenset→ugy, plain_extend_loop→ug9, args_tuple_iterator_next_1→uhk, sub_tuple_set→uhq, slot_set_iter→uhr, plain_set_new→uhs, entry_tuple_iterator_next→uht, slot_set_xor→uhv
open PySem.Str renaming ofString→uai
open PyProof.Rows renaming slot_tuple_getitem→uam, callWith_type1→ubb
open Int renaming toNat_natCast→uav, natCast_nonneg→ua3, toNat_of_nonneg→ua4, toNat→ubk, le_refl→ubl, emod_lt_of_pos→uco, emod_nonneg→ucw, le_of_lt→udn, add_right_comm→ugs, ne_of_lt→ug3
open Option.some renaming inj→uaz
open PySem.Heap.SameBut renaming update→ua8, refl→ubq
open List.Pairwise renaming imp_of_mem→ucb, nil→uhh
open PyProof.Rows.F renaming plain_set_update_loop→udf, entry_set_update_loop→ufk
open PySem.PyData renaming canLayAll0→udl, eqv→udz, int→uei, depthAll→uex, canLay0→uf7, depth→ugp
open List.Perm renaming refl→ue2, append_left→uhg
open PySem.Heap.IsSliceOf renaming new→ug8
local macro_rules | `(tactic| ac_rfl) => `(tactic| first | exact (fun _ _ _ _ _ _ us hl => match us, hl with | [_], _ => rfl) | exact (fun _ _ _ _ _ _ us hl => match us, hl with | [_, _], _ => rfl) | exact (fun _ _ _ _ _ _ us hl => match us, hl with | [_, _, _], _ => rfl) | exact (fun _ _ _ _ _ _ us hl => match us, hl with | [_, _, _, _], _ => rfl) | exact (fun _ _ _ _ _ _ us hl => match us, hl with | [_, _, _, _, _], _ => rfl) | exact (fun _ _ _ _ _ _ us hl => match us, hl with | [_, _, _, _, _, _], _ => rfl) | exact (fun _ _ _ _ _ _ us hl => match us, hl with | [_, _, _, _, _, _, _], _ => rfl))
local macro_rules | `(tactic| left) => `(tactic| first | lia | omega)
local macro_rules | `(tactic| symm) => `(tactic| decide +kernel)
local macro_rules | `(tactic| right) => `(tactic| exact ⟨rfl, rfl, rfl, by decide +kernel, rfl, by decide +kernel, by decide +kernel⟩)
set_option hygiene false
local macro_rules
|`(‹30›)=>`(s.heap.push { cls:=.type "list",data:=.seq ([]:List i5).toArray })
|`(‹31›)=>`(aH O__law_take hr rfl (aA (pv 0) (aA aC aB)))
|`(‹32›)=>`(.ref ‹128›)
|`(‹33›)=>`(cxComp X own fr scope fp pins s3 H3)
|`(‹34›)=>`(λ _ _=>rfl)
|`(‹35›)=>`(names.map λ (n,k)=>if (k==NameKind.free&&env.scope.kind==.function&&env.kindOf n==some .cell) then (n,NameKind.cell) else (n,k))
|`(‹36›)=>`(((sIx items.size 0 lo:Nat):Int)==0&&(1:Int)==1&&(sIx items.size items.size hi-sIx items.size 0 lo)==items.size)
|`(‹37›)=>`(Option (Int × Int))
|`(‹38›)=>`(v4 X.prog X.w)
|`(‹39›)=>`(d8 ts.length)
|`(‹40›)=>`(λ z=>absurd z (by decide))
|`(‹41›)=>`(Builtin.SmallTypes.nextOf (.ref i1) >>= _)
|`(‹42›)=>`(λ i=>ns.getD i 0)
|`(‹43›)=>`(.ListComp elt [⟨tg,iter,ifs,0⟩] scope pos)
|`(‹44›)=>`(intKind prog w)
|`(‹45›)=>`(Is K H (webD n ts) wv)
|`(‹46›)=>`(hl1.to λ o e=>F.extBut _ _ o1.1 e)
|`(‹47›)=>`(h1.to λ o e=>F.extBut _ _ D.n3 e)
|`(‹48›)=>`(Builtin.SmallTypes.ownedTupleIsFree (.ref z) >>= _)
|`(‹49›)=>`(Nat × Nat × Int)
|`(‹50›)=>`(s.heap.push { cls:=.type "set",data:=.set #[] 0 (.fresh 0 0 (ledOf w)) })
|`(‹51›)=>`(λ i=>decide (0<=i)&&decide (i<n))
|`(‹52›)=>`(aX I q (by simp))
|`(‹53›)=>`(cxComp X own fr scope fp pins s3 (upd H2 D (.lst [])))
|`(‹54›)=>`((items.toList.drop (sIx items.size 0 lo)).take (sIx items.size items.size hi-sIx items.size 0 lo))
|`(‹55›)=>`(Option (List Int))
|`(‹56›)=>`(aQ (aK (i:=4) nd rfl (t6 rfl)) (aQ (aK (i:=5) nd rfl (t6 rfl)) bL))
|`(‹57›)=>`(show false=true from hs)
|`(‹58›)=>`(aP bD rfl T.z_len (by symm) (aA (pv 2) aB))
|`(‹59›)=>`(aP bD rfl T.z_len (by symm) (aA (pv 1) aB))
|`(‹60›)=>`(Builtin.«zip.__next__» ⟨[.ref z],[]⟩)
|`(‹61›)=>`(λ r s'=>r=.ok (.ret (.bool true))/\OldK s₁.heap s'.heap/\s'.os=s₁.os/\AllBare s'.gens)
|`(‹62›)=>`(F.toList.map λ i=>ns.getD i 0)
|`(‹63›)=>`(tbN ts (ws.getD i 0) (ws.getD (i+1) 0))
|`(‹64›)=>`(hl2.to λ o e=>U.extBut _ _ o2.2.2.1 (e2.extBut _ _ o2.2.2.2.1 (F.extBut _ _ o2.1 e)))
|`(‹65›)=>`(h2.to λ o e=>U.extBut _ _ D.n9.symm (e2.extBut _ _ D.n10.symm (F.extBut _ _ D.n4 e)))
|`(‹66›)=>`(‹128›+1)
|`(‹67›)=>`(ns.map V.int)
|`(‹68›)=>`(by exact⟨none,rfl⟩)
|`(‹69›)=>`(s.heap.push { cls:=.type "range",data:=.fields #[.int lo t,.int hi u,.int 1 v] })
|`(‹70›)=>`(c7 ⟨A,c7 h⟩)
|`(‹71›)=>`((Obj.mapSeq (·.push Value.none)))
|`(‹72›)=>`(aA (dZ (v:=.ty "tuple") rfl T.z_tuple (by symm) rfl) aB)
|`(‹73›)=>`(λ _ _ _ _ _ h=>h)
|`(‹74›)=>`(WK K H n ts ks wv kv)
|`(‹75›)=>`(([(tieAt ts i).1,(tieAt ts i).2.1]:List Int).map .int)
|`(‹76›)=>`(uc1 x qual (defArgs st) (defBody st) (defScope st) .none kV doc pm an cdv ct)
|`(‹77›)=>`(ha pos pins s σ H _ I h)
|`(‹78›)=>`(Builtin.SmallTypes.nextOf (.ref i2) >>= _)
|`(‹79›)=>`(s.heap.push (emp w))
|`(‹80›)=>`(uc1 x x (defArgs st) (defBody st) (defScope st) .none kV doc pm an cdv ct)
|`(‹81›)=>`(cs.set v (some (c.1+l,c.2+w)))
|`(‹82›)=>`(envOfC qual scope ‹128› f cd)
|`(‹83›)=>`(Builtin.SmallTypes.ownedTupleHandOut (.ref z) (.ref q.objs.size) >>= _)
|`(‹84›)=>`(λ p' n' q' g' a b d O e2=>z p' n' q' g' (by left) (by left) d O e2)
|`(‹85›)=>`(λ _ _ _ _=>bV)
|`(‹86›)=>`(x==("__debug__":Str))
|`(‹87›)=>`(cs.set v.toNat (some (d.1+t.2.2,d.2+2^k)))
|`(‹88›)=>`(aA (pv 0) (aA (pv 1) aB))
|`(‹89›)=>`(ha pins s σ H _ I h)
|`(‹90›)=>`(key2 (tieAt ts i).2.1 (tieAt ts i).1)
|`(‹91›)=>`(ub3 (T:="StopIteration") (b:=true) ⟨o,U,p2⟩ uew (c7 (hQ _ O)))
|`(‹92›)=>`(aO aV (pv 4) aC (nomark _))
|`(‹93›)=>`(start3 own js σ)
|`(‹94›)=>`(λ z=>nomatch z)
|`(‹95›)=>`(by with_unfolding_all rfl)
|`(‹96›)=>`(aK (i:=3) nd rfl (t6 rfl))
|`(‹97›)=>`(Classical.propDecidable _)
|`(‹98›)=>`(acrossI ts hs k<=(tieAt ts k).2.2)
|`(‹99›)=>`(λ w O=>fJ rx U r fs w (by simpa using O))
|`(‹100›)=>`(((d8 (mask+1)).filterMap λ j=>(O.getD j none).map (j,·)))
|`(‹101›)=>`(rI (λ _ j=>0<j) λ i j=>.int (i%j))
|`(‹102›)=>`(Builtin.Tuple.tupleItemsOf (.ref t) >>= _)
|`(‹103›)=>`(acrossI ts hs (ks.getD i 0)<=(tieAt ts (ks.getD i 0)).2.2)
|`(‹104›)=>`(ws.length-1)
|`(‹105›)=>`(SetTable.grown es1.size)
|`(‹106›)=>`(clOf X.env.cells scope.names [])
|`(‹107›)=>`(show u=Value.ref a from rx)
|`(‹108›)=>`(e2.extBut _ _ D.n3.symm z1)
|`(‹109›)=>`(cxOf CX P w K mg base N qual scope f cdv A outer s H E)
|`(‹110›)=>`(b∈X.ex\/X.s₀.heap.objs.size<=b)
|`(‹111›)=>`(if w.params.followText "set-order"=true then _ else _)
|`(‹112›)=>`(HT.sIx xs.length xs.length hi-HT.sIx xs.length 0 lo)
|`(‹113›)=>`(by kernel_rfl)
|`(‹114›)=>`(upd H5 D (.lst (ys++[v])))
|`(‹115›)=>`(pickOrder (w.params.setOrder a ep) es)
|`(‹116›)=>`((wysN ts prs).map (ue9 keepI))
|`(‹117›)=>`(Builtin.Slice.sliceApplied (.ref sl) (pure (n:Int)))
|`(‹118›)=>`(aA (pv 0) (aA (pv 1) (aA (pv 2) aB)))
|`(‹119›)=>`(s.heap.update a (Obj.mapSeq λ _=>(#[]:Array i5)))
|`(‹120›)=>`(O.toList.map λ i=>(ys.getD i V.non,ks.getD i []))
|`(‹121›)=>`(EP X pins σ Q)
|`(‹122›)=>`(pl.map λ i=>rawInt (i:Nat))
|`(‹123›)=>`(Builtin.SmallTypes.nextOf (.ref it))
|`(‹124›)=>`(ns.getD i 0<(ns.drop 1).getD i 0)
|`(‹125›)=>`(s.heap.push (itObj t l))
|`(‹126›)=>`(s.heap.push (itObj true l1))
|`(‹127›)=>`(kvs.map λ kv=>if kv.1=k then (kv.1,y) else kv)
|`(‹128›)=>`(s.heap.objs.size)
set_option hygiene true
set_option hygiene false
local macro_rules | `(⟨$a,*⟩) => do let u : Lean.TSyntax `term ← `(_); let r : Lean.TSyntax `term ← `(rfl); if a.getElems.any (fun x => x.raw.getId == `A || x.raw.getId == `C || x.raw.getId == `E || x.raw.getId == `K || x.raw.getId == `M || x.raw.getId == `P || x.raw.getId == `V || x.raw.getId == `X || x.raw.getId == `Y || x.raw.getId == `Z) then (let b : Array (Lean.TSyntax `term) := a.getElems.foldl (fun o x => if x.raw.getId == `A then o ++ #[u, r] else if x.raw.getId == `C then o ++ #[u, r, r] else if x.raw.getId == `E then o ++ #[u, u, r, r] else if x.raw.getId == `K then o ++ #[u, r, u, r] else if x.raw.getId == `M then o ++ #[r, r] else if x.raw.getId == `P then o ++ #[u, u] else if x.raw.getId == `V then o ++ #[u, u, u, r, r] else if x.raw.getId == `X then o ++ #[r, u, r] else if x.raw.getId == `Y then o ++ #[r, u] else if x.raw.getId == `Z then o ++ #[u, r, u, r, u, r] else  o ++ #[x]) #[]; `(⟨$[$b],*⟩)) else Lean.Macro.throwUnsupported
set_option hygiene true
namespace L2
open PySem PySem.Spec PyProof.Rows
abbrev Key:=Sum Int Str
def keyIs:Key->i5->Bool
 | .inl k,v=>Value.isInt k v
 | .inr x,v=>Value.isStrOf x v
def keyH (w:uaw):Key->Int
 | .inl k=>hashInt k
 | .inr x=>hashStr w x
theorem cX:∀ {k:Key}{v:i5},keyIs k v=true->(∃ i t,k=Sum.inl i/\v=Value.int i t)\/(∃ x t,k=Sum.inr x/\v=Value.str x t)
 | .inl i,v,h=>by
  obtain⟨t,e⟩:=Value.isInt_shape (k:=i) (v:=v) h;exact .inl ⟨i,t,rfl,e⟩
 | .inr x,v,h=>by
  obtain⟨t,e⟩:=Value.isStrOf_shape (x:=x) (v:=v) h;exact .inr ⟨x,t,rfl,e⟩
theorem zG (i:Int)(t:Tok):keyIs (.inl i) (.int i t)=true:=by simp [keyIs,Value.isInt]
theorem zF (x:Str)(t:Tok):keyIs (.inr x) (.str x t)=true:=by simp [keyIs,Value.isStrOf]
theorem zea (a b:Int):decide ((Sum.inl a:Key)=Sum.inl b)=(a==b):=by
 by_cases e:a=b
 ·subst e;simp
 ·let h:¬ (Sum.inl a:Key)=Sum.inl b:=λ q=>e (Sum.inl.inj q);rw[uh1 h];exact (beq_eq_false_iff_ne.mpr e).symm
theorem zd7 (a b:Str):decide ((Sum.inr a:Key)=Sum.inr b)=decide (a=b):=by
 by_cases e:a=b
 ·subst e;simp
 ·let h:¬ (Sum.inr a:Key)=Sum.inr b:=λ q=>e (Sum.inr.inj q);rw[uh1 h,uh1 e]
theorem zd9 (a:Int)(b:Str):decide ((Sum.inl a:Key)=Sum.inr b)=false:=uh1 (λ q=>nomatch q)
theorem zd8 (a:Str)(b:Int):decide ((Sum.inr a:Key)=Sum.inl b)=false:=uh1 (λ q=>nomatch q)
def mixKind (prog:o9)(w:uaw):PySem.KeyKind prog w Key where
 is:=keyIs
 hash:=keyH w
 inj:=λ v a b O z=>by
  rcases cX O with ⟨i,t,rfl,rfl⟩ | ⟨x,t,rfl,rfl⟩
  ·rcases cX z with ⟨j,u,rfl,e⟩ | ⟨y,u,rfl,e⟩
   ·injection e with e1 _;rw[e1]
   ·exact nomatch e
  ·rcases cX z with ⟨j,u,rfl,e⟩ | ⟨y,u,rfl,e⟩
   ·exact nomatch e
   ·injection e with e1 _;rw[e1]
 byValue:=λ k v h=>by
  rcases cX h with ⟨i,t,rfl,rfl⟩ | ⟨x,t,rfl,rfl⟩ <;> rfl
 pyHash:=λ q h=>by
  rcases cX q with ⟨i,t,rfl,rfl⟩ | ⟨x,t,rfl,rfl⟩
  ·exact wpAny_pyHash_int h
  ·exact wpAny_pyHash_str h
 eqBool:=λ F q h=>by
  rcases cX F with ⟨i,t,rfl,rfl⟩ | ⟨x,t,rfl,rfl⟩
  ·rcases cX q with ⟨j,u,rfl,rfl⟩ | ⟨y,u,rfl,rfl⟩
   ·rw[zea] at h;exact wpAny_eqBool_int h
   ·rw[zd9] at h;exact SeqAt.EqAt.int_str i t y u _ _ _ _ h
  ·rcases cX q with ⟨j,u,rfl,rfl⟩ | ⟨y,u,rfl,rfl⟩
   ·rw[zd8] at h;exact SeqAt.EqAt.str_int x t j u _ _ _ _ h
   ·rw[zd7] at h;exact wpAny_eqBool_str h
 «strs»:=λ k x t v h=>by
  rcases cX h with ⟨i,u,rfl,e⟩ | ⟨y,u,rfl,e⟩
  ·exact nomatch e
  ·injection e with e1 _;subst e1;cases v <;> rfl
theorem xB (prog:o9)(w:uaw)(k:Key)(v:i5):(mixKind prog w).is k v=keyIs k v:=rfl
theorem wG (prog:o9)(w:uaw)(i:Int)(t:Tok):(mixKind prog w).is (.inl i) (.int i t)=true:=zG i t
theorem wF (prog:o9)(w:uaw)(x:Str)(t:Tok):(mixKind prog w).is (.inr x) (.str x t)=true:=zF x t
end L2
namespace L2
open PySem PySem.Spec PyProof.Rows
inductive V where
 | non | bl (b:Bool) | int (i:Int) | str (x:Str) | byt (b:Array UInt8) | flt (b:UInt64) | ref (a:o7) | ty (n:String)
 deriving DecidableEq
def RelV:V->i5->Prop
 | .non,u=>u=Value.none
 | .bl b,u=>u=Value.bool b
 | .int i,u=>∃ t,u=Value.int i t
 | .str x,u=>∃ t,u=Value.str x t
 | .byt b,u=>∃ t,u=Value.bytes b t
 | .flt b,u=>∃ t,u=Value.float b t
 | .ref a,u=>u=Value.ref a
 | .ty n,u=>u=Value.type n
abbrev Vals:List V->List i5->Prop:=Paired RelV
theorem Vals.length {xs:List V}{us:List i5}(r:Vals xs us):xs.length=us.length:=Paired.length r
theorem Vals.get:∀ {xs:List V}{us:List i5}{i:Nat}{x:V},Vals xs us->xs[i]?=some x->∃ u,us[i]?=some u/\RelV x u
 | _,_,_,_,.nil,e=>by simp at e
 | _,_,0,_,.cons r _,e=>by simp at e;subst e;exact⟨A,r⟩
 | _,_,i+1,x,.cons _ t,e=>by
  obtain⟨u,h1,h2⟩:=Vals.get (i:=i) (x:=x) t (by simpa using e);exact⟨u,by simpa using h1,h2⟩
theorem Vals.set {x:V}{u:i5}(r:RelV x u):∀ {xs:List V}{us:List i5}(i:Nat),Vals xs us->Vals (xs.set i x) (us.set i u)
 | _,_,_,.nil=>.nil
 | _,_,0,.cons _ t=>.cons r t
 | _,_,i+1,.cons q t=>.cons q (Vals.set r i t)
theorem Vals.append:∀ {xs ys:List V}{us ws:List i5},Vals xs us->Vals ys ws->Vals (xs++ys) (us++ws)
 | _,_,_,_,.nil,s=>s
 | _,_,_,_,.cons r t,s=>.cons r (Vals.append t s)
theorem Vals.take:∀ {xs:List V}{us:List i5}(n:Nat),Vals xs us->Vals (xs.take n) (us.take n)
 | _,_,0,_=>.nil
 | _,_,_+1,.nil=>.nil
 | _,_,n+1,.cons r t=>.cons r (Vals.take n t)
theorem Vals.drop:∀ {xs:List V}{us:List i5}(n:Nat),Vals xs us->Vals (xs.drop n) (us.drop n)
 | _,_,0,r=>r
 | _,_,_+1,.nil=>.nil
 | _,_,n+1,.cons _ t=>Vals.drop n t
def RelO:Option V->Option i5->Prop
 | some v,some u=>RelV v u
 | none,none=>True
 | _,_=>False
def KV {κ:Type}:List (κ × V)->List (κ × i5)->Prop:=Paired λ (p:κ × V) (q:κ × i5)=>p.1=q.1/\RelV p.2 q.2
def kV:Key->V
 | .inl i=>.int i
 | .inr x=>.str x
inductive HO where
  | lst (xs:List V)
  | tup (xs:List V)
  | dK (kvs:List (Key × V)) | dT (kvs:List (List Key × V))
  | set (S:Int->Bool) (n:Nat)
  | ins (C dx:o7) (fs:List (Str × V))
  | own (x:o7)
  | xd (fs:List (Str × V))
  | met (f x:o7)
  | rng (lo hi:Int)
  | frz (o:Obj) (u:HO)
  | tbl (ps:Array i5)
  | ext (φ:Heap->Prop)
abbrev Hp:=o7->Option HO
def upd (H:Hp)(a:o7)(o:HO):Hp:=λ b=>if b=a then some o else H b
theorem aM {H:Hp}{a:o7}{o:HO}:upd H a o a=some o:=by unfold upd;rw[uh2 rfl]
theorem aL {H:Hp}{a b:o7}{o:HO}(h:b≠a):upd H a o b=H b:=by unfold upd;rw[uh3 h]
theorem zeo {H:Hp}{a b:o7}{o u:HO}(h:H a=some o)(h':H b=some u)(d:o≠u):a≠b:=by
 intro e;subst e;rw[h] at h';exact d (uaz h')
theorem aW {H:Hp}{a b:o7}{o:HO}(h:H a=some o)(h':H b=none):a≠b:=by
 intro e;subst e;rw[h] at h';cases h'
section
variable (P:o9)(w:uaw)
def TupN (h:Heap)(a:o7)(items:Array i5):Prop:=∃ o,h.get? a=some o/\o.cls=.type "tuple"/\(∃ n,o.data=.seq items n)/\o.dict=none
theorem TupN.tup {h:Heap}{a:o7}{items:Array i5}(x:TupN h a items):IsTup h a items:=let ⟨o,e,c,d,_⟩:=x;⟨o,e,c,d⟩
theorem TupN.new (h:Heap)(items:Array i5):TupN (h.push { cls:=.type "tuple",data:=.seq items }) h.objs.size items:=⟨_,i9 _ rfl,rfl,⟨_,rfl⟩,rfl⟩
def ObjOk (H:Hp)(h:Heap)(a:o7):HO->Prop
 | .lst xs=>xs.length<=p8/\∃ (its:List i5)(n:Nat),Vals xs its/\h.get? a=some { cls:=.type "list",data:=.seq its.toArray n }
 | .tup xs=>xs.length<=p8/\∃ its:List i5,Vals xs its/\TupN h a its.toArray
 | .dK kvs=>kvs.length<=p8/\(a==sysModules)=false/\∃ vs,KV kvs vs/\h.DictOf (mixKind P w) a vs
 | .dT kvs => kvs.length <= p8 /\ (a==sysModules) = false /\ ∃ xs : List (List Key × o7 × i5),
     Paired (λ (p:List Key × V) (q:List Key × o7 × i5)=>p.1=q.1/\H q.2.1=some (.tup (p.1.map kV))/\RelV p.2 q.2.2) kvs xs /\
     ∃ o es ep,h.get? a=some o/\o.ExactDict/\o.data=.dict es ep/\es.toList=xs.map (entryOfKey (tupleKind (mixKind P w)))/\(xs.map (·.1)).Nodup
 | .set S n=>h.SetOf (intKind P w) a S n
 | .ins C dx fs => H dx = some (.own a) /\ fs.length <= 1000 /\ dx ≠ a /\ h.get? a = some (ugx C dx) /\
     ∃ mA,h.Ns1 dx mA/\(∀ f,RelO (fs.lookup f) (mA f))/\PySem.Within mA (fs.map (·.1))
 | .own _=>∃ o,h.get? a=some o
 | .xd fs=>∃ mA,h.Ns1 a mA/\∀ f,RelO (fs.lookup f) (mA f)
 | .rng lo hi=>∃ t u v,h.get? a=some { cls:=.type "range",data:=.fields #[.int lo t,.int hi u,.int 1 v] }
 | .frz o u=>h.get? a=some o/\ObjOk H h a u
 | .tbl ps=>h.get? a=some { cls:=.none,data:=.fields ps }
 | .met f x=>h.get? a=some (ugl (.ref f) (.ref x))
 | .ext φ=>φ h/\(∃ o,h.get? a=some o)/\∀ h1 h2:Heap,φ h1->(∀ o,h1.get? a=some o->h2.get? a=some o)->φ h2
def HOk (H:Hp)(h:Heap):Prop:=∀ a o,H a=some o->ObjOk P w H h a o
end
section
variable {P:o9}{w:uaw}{H H':Hp}{h h':Heap}{a:o7}{o:HO}
theorem ObjOk.lt (x:ObjOk P w H h a o):a<h.objs.size:=by
 cases o with
 | lst xs=>obtain⟨_,_,_,_,e⟩:=x;exact j5 e
 | tup xs=>obtain⟨_,_,_,p⟩:=x;exact p.tup.lt
 | dK kvs=>obtain⟨_,_,_,_,o,_,_,e,_⟩:=x;exact j5 e
 | dT kvs=>obtain⟨_,_,_,_,o,_,_,e,_⟩:=x;exact j5 e
 | set S n=>obtain⟨o,_,_,_,e,_⟩:=x;exact j5 e
 | ins C dx fs=>obtain⟨_,_,_,e,_⟩:=x;exact j5 e
 | own y=>obtain⟨_,e⟩:=x;exact j5 e
 | xd fs=>obtain⟨_,⟨_,_,_,e,_⟩,_⟩:=x;exact j5 e
 | rng lo hi=>obtain⟨_,_,_,e⟩:=x;exact j5 e
 | frz ob u=>obtain⟨e,_⟩:=x;exact j5 e
 | tbl ps=>exact j5 (show h.get? a=some _ from x)
 | met f y=>exact j5 (show h.get? a=some _ from x)
 | ext φ=>obtain⟨_,⟨_,e⟩,_⟩:=x;exact j5 e
theorem Paired.mapP {α β:Type}{F G:α->β->Prop}:∀ {l₁:List α}{l₂:List β},Paired F l₁ l₂->(∀ a b,F a b->G a b)->Paired G l₁ l₂
 | _,_,.nil,_=>.nil
 | _,_,.cons r t,f=>.cons (f _ _ r) (Paired.mapP t f)
theorem ObjOk.stay (x:ObjOk P w H h a o)(k:∀ b u,(b=a\/H b=some (.own a))->h.get? b=some u->h'.get? b=some u)
  (ho:∀ b,H b=some (.own a)->H' b=some (.own a)) (ht:∀ b xs,H b=some (.tup xs)->H' b=some (.tup xs)):ObjOk P w H' h' a o:=by
 induction o with
 | lst xs=>obtain⟨z,its,n,r,e⟩:=x;exact⟨z,its,n,r,k _ _ (.inl rfl) e⟩
 | tup xs=>obtain⟨z,its,r,F,e,c⟩:=x;exact⟨z,its,r,F,k _ _ (.inl rfl) e,c⟩
 | dK kvs=>obtain⟨z,y,vs,r,F,es,ep,e,c⟩:=x;exact⟨z,y,vs,r,F,es,ep,k _ _ (.inl rfl) e,c⟩
 | dT kvs =>
  obtain⟨z,y,xs,r,F,es,ep,e,c⟩:=x;exact⟨z,y,xs,Paired.mapP r λ p q z=>⟨z.1,ht _ _ z.2.1,z.2.2⟩,F,es,ep,k _ _ (.inl rfl) e,c⟩
 | set S n=>obtain⟨F,es,ep,t,e,c⟩:=x;exact⟨F,es,ep,t,k _ _ (.inl rfl) e,c⟩
 | ins C dx fs =>
  obtain⟨d,z,U,e,mA,⟨O,es,ep,e2,c⟩,r⟩:=x;exact⟨ho _ d,z,U,k _ _ (.inl rfl) e,mA,⟨O,es,ep,k _ _ (.inr d) e2,c⟩,r⟩
 | own y=>obtain⟨F,e⟩:=x;exact⟨F,k _ _ (.inl rfl) e⟩
 | xd fs=>obtain⟨mA,⟨O,es,ep,e,c⟩,r⟩:=x;exact⟨mA,⟨O,es,ep,k _ _ (.inl rfl) e,c⟩,r⟩
 | rng lo hi=>obtain⟨t,u,v,e⟩:=x;exact⟨t,u,v,k _ _ (.inl rfl) e⟩
 | frz F u ih=>obtain⟨e,q⟩:=x;exact⟨k _ _ (.inl rfl) e,ih q⟩
 | tbl ps =>
  let e:h.get? a=some { cls:=.none,data:=.fields ps }:=x;show h'.get? a=some { cls:=.none,data:=.fields ps };exact k a _ (.inl rfl) e
 | met f y =>
  let e:h.get? a=some (ugl (.ref f) (.ref y)):=x;show h'.get? a=some (ugl (.ref f) (.ref y));exact k a _ (.inl rfl) e
 | ext φ=>obtain⟨p,⟨o,e⟩,st⟩:=x;exact⟨st _ _ p λ o q=>k _ _ (.inl rfl) q,⟨o,k _ _ (.inl rfl) e⟩,st⟩
theorem HOk.lt (x:HOk P w H h)(e:H a=some o):a<h.objs.size:=(x a o e).lt
theorem HOk.fresh (x:HOk P w H h)(e:h.objs.size<=a):H a=none:=by
 cases q:H a with
 | none=>rfl
 | some u=>exact absurd (u7 (x.lt q) e) (ubz _)
theorem HOk.kept (x:HOk P w H h)(k:∀ b u,h.get? b=some u->h'.get? b=some u):HOk P w H h':=λ a o e =>
 (x a o e).stay (λ b u _ q=>k b u q) (λ _ q=>q) λ _ _ q=>q
theorem HOk.laid (x:HOk P w H h)(k:∀ b u,h.get? b=some u->h'.get? b=some u)(hp:h.objs.size<=a)(new:ObjOk P w (upd H a o) h' a o):HOk P w (upd H a o) h':=λ b u e=>by
 let F:=x.fresh hp;by_cases z:b=a
 ·subst z;rw[aM] at e;cases e;exact new
 ·rw[aL z] at e;exact (x b u e).stay (λ c v _ q=>k c v q) (λ c q=>by rw[aL (aW q F)];exact q) λ c xs q=>by rw[aL (aW q F)];exact q
end
def Rd (H:Hp)(a:o7)(u:HO):Prop:=H a=some u\/∃ o,H a=some (.frz o u)
theorem Rd.ok {P:o9}{w:uaw}{H:Hp}{h:Heap}{a:o7}{u:HO}(r:Rd H a u)(x:HOk P w H h):ObjOk P w H h a u:=by
 rcases r with r | ⟨o,r⟩
 ·exact x a u r
 ·obtain⟨_,q⟩:=x a _ r;exact q
def Mut:Option HO->Prop
 | some (.lst _)=>True
 | some (.dK _)=>True
 | some (.dT _)=>True
 | some (.set _ _)=>True
 | some (.ins _ _ _)=>True
 | some (.ext _)=>True
 | _=>False
section
variable {P:o9}{w:uaw}{H:Hp}{h h':Heap}{x e:o7}{o':HO}
theorem HOk.write (ok:HOk P w H h)(mu:Mut (H x))(he:e=x\/H e=some (.own x))(k:∀ b u,b≠e->h.get? b=some u->h'.get? b=some u)(heo:∃ u,h'.get? e=some u)
  (new:ObjOk P w (upd H x o') h' x o'):HOk P w (upd H x o') h':=λ b u q=>by
 let O:∀ c y,H c=some (.own y)->c≠x:=λ c y r z=>by subst z;rw[r] at mu;exact mu
 let U:∀ c xs,H c=some (.tup xs)->c≠x:=λ c xs r z=>by subst z;rw[r] at mu;exact mu
 by_cases hb:b=x
 ·subst hb;rw[aM] at q;cases q;exact new
 ·rw[aL hb] at q;by_cases F:b=e
  ·let q':H b=some (.own x):=by
    rcases he with z | z
    ·exact absurd (F.trans z) hb
    ·rw[F];exact z
   rw[q] at q';cases q';obtain⟨v,hv⟩:=heo;exact⟨v,by rw[F];exact hv⟩
  ·exact (ok b u q).stay (λ c v hc r=>k c v ?_ r) (λ c r=>by rw[aL (O c b r)];exact r) λ c xs r=>by rw[aL (U c xs r)];exact r
   rcases hc with rfl | hc
   ·exact F
   ·rintro rfl;rcases he with z | z
    ·exact O c b hc z
    ·rw[hc] at z;cases z;exact hb rfl
end
structure Un (fs ex:List o7)(H H':Hp)(h h':Heap):Prop where
 keep:∀ b o,h.get? b=some o->H b=none->b∉fs->b∉ex->h'.get? b=some o
 slot:∀ b o,h.get? b=some o->H b=none->b∈fs->b∉ex->∃ sl,h'.get? b=some { o with slots:=sl }
 free:∀ b o,h.get? b=some o->H b=none->b∉ex->H' b=none
 there:∀ b o,h.get? b=some o->b∉ex->∃ o',h'.get? b=some o'
 tups:∀ b xs,H b=some (.tup xs)->H' b=some (.tup xs)
 frzs:∀ b o u,H b=some (.frz o u)->H' b=some (.frz o u)
 tbls:∀ b ps,H b=some (.tbl ps)->∃ more,H' b=some (.tbl (ps++more))
section
variable {fs fs' ex ex':List o7}{H H1 H2:Hp}{h h1 h2 h':Heap}{a x e:o7}{o:HO}
theorem Un.any (u:Un fs ex H H1 h h1){b:o7}{ob:Obj}(q:h.get? b=some ob)(n:H b=none)(hx:b∉ex):∃ sl,h1.get? b=some { ob with slots:=sl }:=by
 by_cases z:b∈fs
 ·exact u.slot b ob q n z hx
 ·exact⟨ob.slots,u.keep b ob q n z hx⟩
theorem Un.trans (a:Un fs ex H H1 h h1)(b:Un fs ex H1 H2 h1 h2):Un fs ex H H2 h h2 where
 keep:=λ c F q n U z=>b.keep c F (a.keep c F q n U z) (a.free c F q n z) U z
 slot:=λ c F q n U z=>by
  obtain⟨sl,O⟩:=a.slot c F q n U z;obtain⟨aa,e2⟩:=b.slot c _ O (a.free c F q n z) U z;exact⟨aa,e2⟩
 free:=λ c F q n z=>by
  obtain⟨o',O⟩:=a.there c F q z;exact b.free c o' O (a.free c F q n z) z
 there:=λ c F q z=>by
  obtain⟨o',O⟩:=a.there c F q z;exact b.there c o' O z
 tups:=λ c xs q=>b.tups c xs (a.tups c xs q)
 frzs:=λ c F xs q=>b.frzs c F xs (a.frzs c F xs q)
 tbls:=λ c ps q=>by
  obtain⟨m1,O⟩:=a.tbls c ps q;obtain⟨m2,e2⟩:=b.tbls c _ O;exact⟨m1++m2,by rw[e2,Array.append_assoc]⟩
theorem Un.kept (k:∀ b u,h.get? b=some u->h'.get? b=some u):Un fs ex H H h h' :=
 ⟨λ b z q _ _ _=>k b z q,λ b z q _ _ _=>⟨z.slots,k b z q⟩,λ _ _ _ n _=>n,λ b z q _=>⟨z,k b z q⟩,λ _ _ q=>q,λ _ _ _ q=>q,λ _ ps q=>⟨#[],by rw[q];simp⟩⟩
theorem Un.refl:Un fs ex H H h h:=Un.kept λ _ _ q=>q
theorem Un.laid (k:∀ b u,h.get? b=some u->h'.get? b=some u)(hp:h.objs.size<=a)(hn:H a=none):Un fs ex H (upd H a o) h h' where
 keep:=λ b u q _ _ _=>k b u q
 slot:=λ b u q _ _ _=>⟨u.slots,k b u q⟩
 free:=λ b u q n _=>by rw[aL (k8 (u7 (j5 q) hp))];exact n
 there:=λ b u q _=>⟨u,k b u q⟩
 tups:=λ b xs q=>by rw[aL (aW q hn)];exact q
 frzs:=λ b u xs q=>by rw[aL (aW q hn)];exact q
 tbls:=λ b ps q=>⟨#[],by rw[aL (aW q hn),q];simp⟩
theorem Un.write (mu:Mut (H x))(he:e=x\/H e=some (.own x))(k:∀ b u,b≠e->h.get? b=some u->h'.get? b=some u)(heo:∃ u,h'.get? e=some u):Un fs ex H (upd H x o) h h':=by
 let hx:∀ b,H b=none->b≠x:=λ b n z=>by subst z;rw[n] at mu;exact mu
 let U:∀ b,H b=none->b≠e:=λ b n z=>by
  subst z;rcases he with r | r
  ·exact hx b n r
  ·rw[n] at r;cases r
 let O:∀ b u,H b=some u->¬ Mut (some u)->b≠x:=λ b u q nm z=>by subst z;rw[q] at mu;exact nm mu
 exact⟨λ b u q n _ _=>k b u (U b n) q,λ b u q n _ _=>⟨u.slots,k b u (U b n) q⟩,λ b u q n _=>by rw[aL (hx b n)];exact n,λ b u q _=>?_,
  λ b xs q=>by rw[aL (O b _ q λ z=>z)];exact q,λ b u xs q=>by rw[aL (O b _ q λ z=>z)];exact q,λ b ps q=>⟨#[],by rw[aL (O b _ q λ z=>z),q];simp⟩⟩
 by_cases F:b=e
 ·subst F;exact heo
 ·exact⟨u,k b u F q⟩
end
def trk (h:Heap)(H:Hp):List o7:=(d8 h.objs.size).filter λ a=>(H a).isSome
def hidT (h:Heap)(H:Hp):Heap:=PySem.W.hideAll h (trk h H)
theorem zN (h:Heap)(H:Hp):(hidT h H).objs.size=h.objs.size:=PySem.W.hideAll_size _ _
theorem za9 {h:Heap}{H:Hp}{b:o7}{o:Obj}(e:h.get? b=some o)(n:H b=none):(hidT h H).get? b=some o :=
 PySem.W.hideAll_get _ e λ z=>by
  let q:(H b).isSome=true:=(uct.mp z).2;rw[n] at q;simp at q
theorem zcq {h:Heap}{H:Hp}{b:o7}{o:Obj}(e:(hidT h H).get? b=some o):h.get? b=some o/\H b=none:=by
 let F:h.get? b=some o:=PySem.W.of_hideAll (trk h H) e;exact⟨F,?_⟩;cases q:H b with
 | none=>rfl
 | some x =>
  let O:b∈trk h H:=uct.mpr ⟨m8.mpr (j5 F),by simp [q]⟩;let z:(hidT h H).get? b=none:=PySem.W.hideAll_none (trk h H) O;rw[z] at e;cases e
def allNews (g h:Heap)(L:o7):List (o7 × Obj):=(d8 h.objs.size).filterMap λ a=>if a=L\/(g.get? a).isSome=true then none else (h.get? a).map λ o=>(a,o)
def rest (g h:Heap)(L d:o7):List (o7 × Obj):=(allNews g h L).filter λ p=>decide (p.1≠d)
end L2
namespace L2
open PySem PySem.Spec PyProof.Rows
structure Mod (K:b8)(mg:Str->Option i5)(base:Heap):Prop where
 kin:K.In base
 glob:base.Ns uad mg
 blt:∃ mb,base.Ns builtinsNs mb/\∀ x:Str,x≠"__name__"->mb x=bootBuiltins x
 nolimit:base.NoLimit
structure Cx where
 prog:o9
 w:uaw
 K:b8
 mg:Str->Option i5
 base:Heap
 A:uax
 N:List Str
 s₀:i6
 H₀:Hp
 env:Env
 outer:List Env
 stack:List Env
 ex:List o7
 fn:Str->Bool
 calm:Bool
 pn:List (o7 × Obj)
 xe:i5->i6->Prop
def frs (l:List Env):List o7:=l.filterMap (·.frame)
abbrev Cx.fs (X:Cx):List o7:=frs X.outer
def Vis (sc:Scope)(x:Str):Prop:=sc.names.lookup x=some .local\/sc.names.lookup x=some .cell\/sc.names.lookup x=some .free
def Loc (sc:Scope)(x:Str):Prop:=sc.names.lookup x=some .local\/sc.names.lookup x=some .cell
def Look (env:Env)(h:Heap)(m:Str->Option i5)(x:Str)(u:i5):Prop :=
 (env.kindOf x=some .local/\m x=some u)\/((env.kindOf x=some .cell\/env.kindOf x=some .free)/\∃ c,env.cells.lookup x=some c/\h.IsCell c (some u))
structure Cx.Ok (X:Cx):Prop where
 mod:Mod X.K X.mg X.base
 kind:X.env.scope.kind=.function
 glob:X.env.globals=uad
 blt:X.env.builtins=builtinsNs
 above:X.s₀.heap.objs.size<=X.env.locals
 inj:∀ x y c,X.env.cells.lookup x=some c->X.env.cells.lookup y=some c->x=y
 has:∀ x,(X.env.kindOf x=some .cell\/X.env.kindOf x=some .free)->∃ c,X.env.cells.lookup x=some c
 cab:∀ x c,X.fn x=true->X.env.cells.lookup x=some c->X.s₀.heap.objs.size<=c
 hd:X.calm=true->X.A.handled=none
 frames:X.A.frames=some X.stack
 stk:X.stack=X.outer\/(X.stack=X.env::X.outer/\X.env.frame=some X.env.locals)
 exf:∀ b∈X.ex,b≠X.env.locals/\∀ x c,X.env.cells.lookup x=some c->c≠b
 bs:∀ b o,X.base.get? b=some o->X.s₀.heap.get? b=some o/\X.H₀ b=none
 bsz:X.base.objs.size<=X.s₀.heap.objs.size
 noex:∀ b o,X.base.get? b=some o->b∉X.ex
 exfs:∀ b∈X.ex,b∉X.fs
 funs:X.s₀.heap.FunFrames X.base X.outer
 frf:∀ b∈X.fs,X.H₀ b=none
structure Inv (X:Cx)(pins:List (o7 × Obj))(σ:List (Option V))(H:Hp)(s:i6):Prop where
 ok:X.Ok
 os:s.os=X.s₀.os
 bare:AllBare s.gens
 base:Un X.fs X.ex X.H₀ H X.s₀.heap s.heap
 loc:∃ m,s.heap.Ns X.env.locals m/\∀ (i:Nat)(x:Str)(v:V),X.N[i]?=some x->σ[i]?=some (some v)->Vis X.env.scope x->∃ u,RelV v u/\Look X.env s.heap m x u
 cell:∀ x c,X.env.cells.lookup x=some c->∃ v,s.heap.IsCell c v
 free:H X.env.locals=none
 freeC:∀ x c,X.env.cells.lookup x=some c->H c=none
 pin:∀ p∈X.pn++pins,s.heap.get? p.1=some p.2/\H p.1=none/\p.1≠X.env.locals/\p.1∉X.fs/\∀ v,p.2.data≠.cell v
 hok:HOk X.prog X.w H s.heap
 len:σ.length=X.N.length
section
variable {X:Cx}{pins:List (o7 × Obj)}{σ:List (Option V)}{H H':Hp}{s:i6}{h':Heap}
theorem Cx.Ok.nofr (ok:X.Ok){b:o7}{o:Obj}(e:X.base.get? b=some o):b∉X.fs:=λ q=>by
 let:=(ok.funs.mem q).1;rw[e] at this;cases this
theorem Inv.bs (I:Inv X pins σ H s):∀ b o,X.base.get? b=some o->s.heap.get? b=some o/\H b=none:=λ b o e =>
 ⟨I.base.keep b o (I.ok.bs b o e).1 (I.ok.bs b o e).2 (I.ok.nofr e) (I.ok.noex b o e),I.base.free b o (I.ok.bs b o e).1 (I.ok.bs b o e).2 (I.ok.noex b o e)⟩
theorem Inv.bk (I:Inv X pins σ H s):∀ b o,X.base.get? b=some o->s.heap.get? b=some o:=λ b o e=>(I.bs b o e).1
theorem Inv.mod (I:Inv X pins σ H s):Mod X.K X.mg X.base:=I.ok.mod
theorem Inv.kIn (I:Inv X pins σ H s):X.K.In s.heap:=I.ok.mod.kin.keeps I.bk
theorem Inv.lt (I:Inv X pins σ H s):X.env.locals<‹128›:=let ⟨_,q,_⟩:=I.loc;q.lt
theorem Inv.sz (I:Inv X pins σ H s):X.s₀.heap.objs.size<=‹128›:=uaj I.ok.above (uga I.lt)
theorem Inv.nofs (I:Inv X pins σ H s){a:o7}(h:‹128›<=a):a∉X.fs:=λ q=>by
 obtain⟨_,o,z,_⟩:=I.ok.funs.mem q;exact absurd (u7 (j5 z) (uaj I.sz h)) (ubz _)
theorem Inv.cne (I:Inv X pins σ H s):∀ x c,X.env.cells.lookup x=some c->c≠X.env.locals:=λ x c e z=>by
 obtain⟨v,o,U,O⟩:=I.cell x c e;obtain⟨m,⟨o',es,ep,F,q,_⟩,_⟩:=I.loc;rw[z,F] at U;cases U;rw[q] at O;cases O
theorem Inv.funs (I:Inv X pins σ H s):s.heap.FunFrames X.base X.outer:=by
 let all:∀ (l:List Env),(∀ b∈frs l,b∈X.fs)->X.s₀.heap.FunFrames X.base l->s.heap.FunFrames X.base l:=by
  intro l;induction l with
  | nil=>intro _ _;trivial
  | cons env r ih =>
   intro hs hl;obtain⟨hk,⟨L,o,O,hn,ho,U⟩,hr⟩:=hl;let q:L∈X.fs:=hs L (by unfold frs;rw[ucv,O];exact l9);obtain⟨sl,e⟩:=I.base.slot L o ho (I.ok.frf L q) q λ z=>I.ok.exfs L z q;exact⟨hk,⟨L,_,O,hn,e,U⟩,ih (λ b F=>hs b (by unfold frs;rw[ucv,O];exact j8 _ F)) hr⟩
 exact all X.outer (λ _ F=>F) I.ok.funs
theorem Inv.stack (I:Inv X pins σ H s):s.heap.FunFrames X.base X.stack:=by
 rcases I.ok.stk with e | ⟨e,q⟩
 ·rw[e];exact I.funs
 ·rw[e];obtain⟨m,z,_⟩:=I.loc;exact .cons (by rw[I.ok.kind];decide) q z ?_ I.funs;exact Heap.get?_none_of_le (uaj I.ok.bsz I.ok.above)
theorem Inv.stkSub (I:Inv X pins σ H s):∀ b∈frs X.stack,b∈X.env.locals::X.fs:=λ b q=>by
 rcases I.ok.stk with e | ⟨e,z⟩
 ·rw[e] at q;exact j8 _ q
 ·rw[e] at q;unfold frs at q;rw[ucv,z] at q;exact q
theorem Inv.stkFree (I:Inv X pins σ H s):∀ b∈frs X.stack,H b=none:=λ b q=>by
 rcases j4.mp (I.stkSub b q) with e | q
 ·rw[e];exact I.free
 ·obtain⟨_,o,F,_⟩:=I.ok.funs.mem q;exact I.base.free b o F (I.ok.frf b q) λ z=>I.ok.exfs b z q
theorem Inv.step {g':Array GenState}{t':Nat}{d':Drawn}{ch:List o7}(I:Inv X pins σ H s)
  (hch:∀ b∈ch,‹110›/\b≠X.env.locals/\(∀ x c,X.env.cells.lookup x=some c->c≠b)/\∀ p∈X.pn++pins,p.1≠b)
  (keep:∀ b o,b≠X.env.locals->b∉X.fs->b∉ch->s.heap.get? b=some o->H b=none->h'.get? b=some o)
  (slot:∀ b o,b≠X.env.locals->b∈X.fs->b∉ch->s.heap.get? b=some o->H b=none->∃ sl,h'.get? b=some { o with slots:=sl }) (free:∀ b o,b∉ch->s.heap.get? b=some o->H b=none->H' b=none)
  (there:∀ b o,b∉ch->s.heap.get? b=some o->∃ o',h'.get? b=some o')
  (tups:∀ b xs,H b=some (.tup xs)->H' b=some (.tup xs)) (frzs:∀ b o u,H b=some (.frz o u)->H' b=some (.frz o u)) (tbls:∀ b ps,H b=some (.tbl ps)->∃ more,H' b=some (.tbl (ps++more)))
  (ns:∀ m,s.heap.Ns X.env.locals m->h'.Ns X.env.locals m) (hok:HOk X.prog X.w H' h') (hg:AllBare g') :
  Inv X pins σ H' { s with heap:=h',gens:=g',drawn:=d',toks:=t' }:=by
 let ab:∀ b o,X.s₀.heap.get? b=some o->b≠X.env.locals:=λ b o e=>k8 (u7 (j5 e) I.ok.above);let aa:∀ b o,X.s₀.heap.get? b=some o->b∉X.ex->b∉ch:=λ b o e F hb=>by
  rcases (hch b hb).1 with z | z
  ·exact F z
  ·exact absurd (u7 (j5 e) z) (ubz _)
 let O:∀ x c,X.env.cells.lookup x=some c->∀ v,s.heap.IsCell c v->h'.IsCell c v:=λ x c e v ⟨o,ho,hd⟩=>by
  let U:c∉ch:=λ z=>(hch c z).2.2.1 x c e rfl;by_cases hc:c∈X.fs
  ·obtain⟨sl,q⟩:=slot c o (I.cne x c e) hc U ho (I.freeC x c e);exact⟨_,q,hd⟩
  ·exact⟨o,keep c o (I.cne x c e) hc U ho (I.freeC x c e),hd⟩
 exact⟨I.ok,I.os,hg,⟨λ b o e n hb F=>?_,λ b o e n hb F=>?_,λ b o e n F=>?_,λ b o e F=>?_,λ b xs e=>tups b xs (I.base.tups b xs e),λ b o xs e=>frzs b o xs (I.base.frzs b o xs e),λ b ps e=>?_⟩,?_,λ x c e=>?_,?_,λ x c e=>?_,λ p hp=>?_,hok,I.len⟩
 ·exact keep b o (ab b o e) hb (aa b o e F) (I.base.keep b o e n hb F) (I.base.free b o e n F)
 ·obtain⟨sl,e1⟩:=I.base.slot b o e n hb F;obtain⟨ac,e2⟩:=slot b _ (ab b o e) hb (aa b o e F) e1 (I.base.free b o e n F);exact⟨ac,e2⟩
 ·obtain⟨o',e1⟩:=I.base.there b o e F;exact free b o' (aa b o e F) e1 (I.base.free b o e n F)
 ·obtain⟨o',e1⟩:=I.base.there b o e F;exact there b o' (aa b o e F) e1
 ·obtain⟨m1,e1⟩:=I.base.tbls b ps e;obtain⟨m2,e2⟩:=tbls b _ e1;exact⟨m1++m2,by rw[e2,Array.append_assoc]⟩
 ·obtain⟨m,hn,hl⟩:=I.loc;exact⟨m,ns m hn,λ i x v e1 e2 e3=>?_⟩;obtain⟨u,r,l⟩:=hl i x v e1 e2 e3;exact⟨u,r,?_⟩;rcases l with l | ⟨k,c,e,z⟩
  ·exact .inl l
  ·exact .inr ⟨k,c,e,O x c e _ z⟩
 ·obtain⟨v,z⟩:=I.cell x c e;exact⟨v,O x c e v z⟩
 ·obtain⟨m,⟨o,_,_,ho,_⟩,_⟩:=I.loc;exact free _ o (λ z=>(hch _ z).2.1 rfl) ho I.free
 ·obtain⟨v,o,ho,hd⟩:=I.cell x c e;exact free c o (λ z=>(hch c z).2.2.1 x c e rfl) ho (I.freeC x c e)
 ·obtain⟨e,n,ne,nf,d⟩:=I.pin p hp;let U:p.1∉ch:=λ z=>(hch p.1 z).2.2.2 p hp rfl;exact⟨keep p.1 p.2 ne nf U e n,free p.1 p.2 U e n,ne,nf,d⟩
theorem Inv.un {t':Nat}(I:Inv X pins σ H s)(u:Un X.fs [] H H' s.heap h')(hok:HOk X.prog X.w H' h'):Inv X pins σ H' { s with heap:=h',toks:=t' }:=by
 obtain⟨m,⟨o,es,ep,ho,r⟩,_⟩:=id I.loc;obtain⟨sl,hL⟩:=u.any ho I.free (by simp);exact I.step (g':=s.gens) (d':=s.drawn) (ch:=[]) (λ _ z=>nomatch z) (λ b o _ F _ e n=>u.keep b o e n F (by simp)) (λ b o _ F _ e n=>u.slot b o e n F (by simp)) (λ b o _ e n=>u.free b o e n (by simp)) (λ b o _ e=>u.there b o e (by simp)) u.tups u.frzs u.tbls (λ m' hm=>by
  obtain⟨o',O,U,q,r'⟩:=hm;rw[ho] at q;cases q;exact⟨_,O,U,hL,r'⟩) hok I.bare
theorem Inv.call {g':Array GenState}{t':Nat}{d':Drawn}{ch:List o7}(I:Inv X pins σ H s)(u:Un (frs X.stack) ch H H' s.heap h')(hok:HOk X.prog X.w H' h')(hg:AllBare g')
  (hch:∀ b∈ch,‹110›/\b≠X.env.locals/\(∀ x c,X.env.cells.lookup x=some c->c≠b)/\∀ p∈X.pn++pins,p.1≠b) :
  Inv X pins σ H' { s with heap:=h',gens:=g',drawn:=d',toks:=t' }:=by
 obtain⟨m,⟨o,es,ep,ho,r⟩,_⟩:=id I.loc;obtain⟨sl,O⟩:=u.any ho I.free λ z=>(hch _ z).2.1 rfl;exact I.step (ch:=ch) hch (λ b o O hb q e n=>u.keep b o e n (λ z=>(j4.mp (I.stkSub b z)).elim O hb) q) (λ b o _ _ q e n=>u.any e n q) (λ b o q e n=>u.free b o e n q) (λ b o q e=>u.there b o e q) u.tups u.frzs u.tbls (λ m' hm=>by
  obtain⟨o',U,aa,F,r'⟩:=hm;rw[ho] at F;cases F;exact⟨_,U,aa,O,r'⟩) hok hg
theorem Inv.turned {t':Nat}{it:o7}(I:Inv X pins σ H s)(k:∀ b o,b≠it->s.heap.get? b=some o->h'.get? b=some o)(hn:H it=none)(hL:it≠X.env.locals)
  (h1:it∈X.ex\/X.s₀.heap.objs.size<=it) (h2:∀ x c,X.env.cells.lookup x=some c->c≠it) (h3:∀ p∈X.pn++pins,p.1≠it):Inv X pins σ H { s with heap:=h',toks:=t' }:=by
 let O:∀ b u,H b=some u->b≠it:=λ b u e z=>by rw[z,hn] at e;cases e
 exact I.step (g':=s.gens) (d':=s.drawn) (ch:=[it]) (λ b hb=>?_) (λ b o _ _ F e _=>k b o (λ z=>F (by simp [z])) e) (λ b o _ _ F e _=>⟨o.slots,k b o (λ z=>F (by simp [z])) e⟩) (λ _ _ _ _ n=>n)
  (λ b o F e=>⟨o,k b o (λ z=>F (by simp [z])) e⟩) (λ _ _ e=>e) (λ _ _ _ e=>e) (λ b ps e=>⟨#[],by rw[e];simp⟩) (λ m U=>?_) (λ b u e=>?_) I.bare
 ·let e:b=it:=by simpa using hb
  subst e;exact⟨h1,hL,h2,h3⟩
 ·obtain⟨o,es,ep,ho,r⟩:=U;exact⟨o,es,ep,k _ o (Ne.symm hL) ho,r⟩
 ·exact (I.hok b u e).stay (λ c v F q=>k c v ?_ q) (λ _ q=>q) λ _ _ q=>q;rcases F with z | z
  ·rw[z];exact O b u e
  ·exact O c _ z
theorem Inv.tok (I:Inv X pins σ H s)(t:Nat):Inv X pins σ H { s with toks:=t }:=I.un (h':=s.heap) (t':=t) Un.refl I.hok
theorem Inv.kept {t':Nat}(I:Inv X pins σ H s)(k:∀ b u,s.heap.get? b=some u->h'.get? b=some u):Inv X pins σ H { s with heap:=h',toks:=t' }:=I.un (Un.kept k) (I.hok.kept k)
theorem Inv.laid {a:o7}{o:HO}{t':Nat}(I:Inv X pins σ H s)(k:∀ b u,s.heap.get? b=some u->h'.get? b=some u)(hp:‹128›<=a)(new:ObjOk X.prog X.w (upd H a o) h' a o) :
  Inv X pins σ (upd H a o) { s with heap:=h',toks:=t' }:=I.un (Un.laid k hp (I.hok.fresh hp)) (I.hok.laid k hp new)
theorem Inv.write {x e:o7}{o:HO}{t':Nat}(I:Inv X pins σ H s)(mu:Mut (H x))(he:e=x\/H e=some (.own x))(k:∀ b u,b≠e->s.heap.get? b=some u->h'.get? b=some u)(heo:∃ u,h'.get? e=some u)
  (new:ObjOk X.prog X.w (upd H x o) h' x o):Inv X pins σ (upd H x o) { s with heap:=h',toks:=t' }:=I.un (Un.write mu he k heo) (I.hok.write mu he k heo new)
theorem Inv.pins_of {pins':List (o7 × Obj)}(I:Inv X pins σ H s)(h:∀ p∈pins',s.heap.get? p.1=some p.2/\H p.1=none/\p.1≠X.env.locals/\p.1∉X.fs/\∀ v,p.2.data≠.cell v):Inv X pins' σ H s :=
 ⟨I.ok,I.os,I.bare,I.base,I.loc,I.cell,I.free,I.freeC,λ p q=>(uat.mp q).elim (λ z=>I.pin p (ubj _ z)) (h p),I.hok,I.len⟩
theorem oP {N:List Str}(hN:N.Nodup){i j:Nat}{x:Str}(a:N[i]?=some x)(b:N[j]?=some x):i=j:=by
 obtain⟨h1,q⟩:=j9.mp a;obtain⟨h2,e2⟩:=j9.mp b;exact (List.getElem_inj hN).mp (q.trans e2.symm)
theorem mO {M:Model}{A:uax}{E:i5->i6->Prop}{i:Nat}{x:Str}{v:V}{u:i5}{Q:Unit->i6->Prop}(I:Inv X pins σ H s)(hN:X.N.Nodup)(hi:X.N[i]?=some x)(hx:Loc X.env.scope x)(r:RelV v u)
  (h:∀ s',Inv X pins (σ.set i (some v)) H s'->(∃ a,Heap.SameBut a s.heap s'.heap/\(a=X.env.locals\/X.env.cells.lookup x=some a))->Q () s') (hf:X.fn x=true\/X.env.scope.names.lookup x=some .local:=by first | exact .inl rfl | exact .inr rfl | assumption):j7 M A (storeName X.env x u) Q E s:=by
 obtain⟨m,hn,hl⟩:=id I.loc;let af:(X.env.scope.kind==.class||(X.env.scope.kind==.module&&X.env.locals != X.env.globals))=false:=by rw[I.ok.kind];rfl
 let ab:i<σ.length:=by rw[I.len];exact (j9.mp hi).1
 let cne:=I.cne;let O:∀ {a:o7}{h':Heap},(∃ o,s.heap.get? a=some o/\H a=none)->Heap.SameBut a s.heap h'->HOk X.prog X.w H h':=λ {a h'} ha hs b ob e=>by
  obtain⟨_,_,aa⟩:=ha;exact (I.hok b ob e).stay (λ c w' U q=>(hs.2 c ?_).trans q) (λ _ q=>q) λ _ _ q=>q;rintro rfl;rcases U with rfl | U
  ·rw[aa] at e;cases e
  ·rw[aa] at U;cases U
 rcases hx with hk | hk
 ·exact wpAny_storeName_local hk hn (λ h' aj hs=>?_) af;obtain⟨oL,_,_,ak,_⟩:=id hn;exact h _ ⟨I.ok,I.os,I.bare,⟨λ b o e n hb hx=>?_,λ b o e n hb hx=>?_,I.base.free,λ b o e hx=>?_,I.base.tups,I.base.frzs,I.base.tbls⟩,⟨_,aj,λ j y v' F e2 e3=>?_⟩,λ y c e=>?_,I.free,I.freeC,λ p hp=>?_,O ⟨oL,ak,I.free⟩ hs,by simpa using I.len⟩ ⟨_,hs,.inl rfl⟩
  ·exact (hs.2 b (k8 (u7 (j5 e) I.ok.above))).trans (I.base.keep b o e n hb hx)
  ·obtain⟨sl,F⟩:=I.base.slot b o e n hb hx;exact⟨sl,(hs.2 b (k8 (u7 (j5 e) I.ok.above))).trans F⟩
  ·obtain⟨o',F⟩:=I.base.there b o e hx;exact⟨o',(hs.2 b (k8 (u7 (j5 e) I.ok.above))).trans F⟩
  ·by_cases hj:j=i
   ·subst hj;rw[hi] at F;cases F;rw[uf0 ab] at e2;cases e2;exact⟨u,r,.inl ⟨hk,by simp⟩⟩
   ·rw[ugd (Ne.symm hj)] at e2;obtain⟨u',r',q⟩:=hl j y v' F e2 e3;exact⟨u',r',?_⟩;rcases q with ⟨k,e⟩ | ⟨k,c,e,z⟩
    ·exact .inl ⟨k,?_⟩;let:y≠x:=λ e=>hj (oP hN F (e ▸ hi));simp [this,e]
    ·exact .inr ⟨k,c,e,z.sameBut hs (cne y c e)⟩
  ·obtain⟨w',z⟩:=I.cell y c e;exact⟨w',z.sameBut hs (cne y c e)⟩
  ·obtain⟨e,n,ne,nf,d⟩:=I.pin p hp;exact⟨(hs.2 p.1 ne).trans e,n,ne,nf,d⟩
 ·let ac:X.fn x=true:=by
   rcases hf with z | z
   ·exact z
   ·rw[z] at hk;cases hk
  obtain⟨c,U⟩:=I.ok.has x (.inl hk);obtain⟨w',z⟩:=I.cell x c U;exact wpAny_storeName_cell I.ok.kind hk U z (λ h' ah hs=>?_);obtain⟨oc,ad,ae⟩:=id z;exact h { s with heap:=h' } ⟨I.ok,I.os,I.bare,⟨λ b o e n hb hx=>?_,λ b o e n hb hx=>?_,I.base.free,λ b o e hx=>?_,I.base.tups,I.base.frzs,I.base.tbls⟩,⟨m,hn.sameBut hs (Ne.symm (cne x c U)),λ j y v' F e2 e3=>?_⟩,λ y c' e=>?_,I.free,I.freeC,λ p hp=>?_,O ⟨oc,ad,I.freeC x c U⟩ hs,by simpa using I.len⟩ ⟨c,hs,.inr U⟩
  ·exact (hs.2 b (k8 (u7 (j5 e) (I.ok.cab x c ac U)))).trans (I.base.keep b o e n hb hx)
  ·obtain⟨sl,F⟩:=I.base.slot b o e n hb hx;exact⟨sl,(hs.2 b (k8 (u7 (j5 e) (I.ok.cab x c ac U)))).trans F⟩
  ·obtain⟨o',F⟩:=I.base.there b o e hx;exact⟨o',(hs.2 b (k8 (u7 (j5 e) (I.ok.cab x c ac U)))).trans F⟩
  ·by_cases hj:j=i
   ·subst hj;rw[hi] at F;cases F;rw[uf0 ab] at e2;cases e2;exact⟨u,r,.inr ⟨.inl hk,c,U,ah⟩⟩
   ·rw[ugd (Ne.symm hj)] at e2;obtain⟨u',r',q⟩:=hl j y v' F e2 e3;exact⟨u',r',?_⟩;rcases q with q | ⟨k,c',e,z'⟩
    ·exact .inl q
    ·exact .inr ⟨k,c',e,z'.sameBut hs ?_⟩;rintro rfl;exact hj (oP hN F (I.ok.inj _ _ _ e U ▸ hi))
  ·by_cases ai:c'=c
   ·subst ai;exact⟨_,ah⟩
   ·obtain⟨w2,z2⟩:=I.cell y c' e;exact⟨w2,z2.sameBut hs ai⟩
  ·obtain⟨e,n,ne,nf,d⟩:=I.pin p hp;refine⟨(hs.2 p.1 ?_).trans e,n,ne,nf,d⟩;intro q;rw[q,ad] at e;have q':oc=p.2:=uaz e;exact d w' (by rw[← q'];exact ae)
theorem oE {M:Model}{A:uax}{E:i5->i6->Prop}{i:Nat}{x:Str}{v:V}{u:i5}{Q:Unit->i6->Prop}(I:Inv X pins σ H s)(hN:X.N.Nodup)(hi:X.N[i]?=some x)(hx:Loc X.env.scope x)(r:RelV v u)
  (h:∀ s',Inv X pins (σ.set i (some v)) H s'->Q () s') (hf:X.fn x=true\/X.env.scope.names.lookup x=some .local:=by first | exact .inl rfl | exact .inr rfl | assumption):j7 M A (storeName X.env x u) Q E s :=
 mO I hN hi hx r (λ s' q _=>h s' q) hf
theorem Inv.call' {s':i6}{ch:List o7}(I:Inv X pins σ H s)(ho:s'.os=s.os)(u:Un (frs X.stack) ch H H' s.heap s'.heap)(hok:HOk X.prog X.w H' s'.heap)(hg:AllBare s'.gens)
  (hch:∀ b∈ch,‹110›/\b≠X.env.locals/\(∀ x c,X.env.cells.lookup x=some c->c≠b)/\∀ p∈X.pn++pins,p.1≠b):Inv X pins σ H' s':=by
 obtain⟨h',g',d',t',o'⟩:=s';let e:o'=s.os:=ho;subst e;exact I.call (g':=g') (t':=t') (d':=d') u hok hg hch
end
abbrev XK:=i5->Option o7->Hp->Prop
abbrev St:=List (Option V)
abbrev VK:=V->Hp->Prop
abbrev TE:=St->Hp->VK->Prop
abbrev TT:=St->Hp->(Bool->Hp->Prop)->Prop
abbrev TA:=St->Hp->(List V->Hp->Prop)->Prop
structure Ends where
 nx:St->Hp->Prop
 rt:VK
 bk:St->Hp->Prop:=λ _ _=>False
 ct:St->Hp->Prop:=λ _ _=>False
abbrev TS:=Ends->St->Hp->Prop
def EP (X:Cx)(pins:List (o7 × Obj))(σ:St)(Q:VK)(u:i5)(s':i6):Prop:=∃ v H',Inv X pins σ H' s'/\RelV v u/\Q v H'
def TP (X:Cx)(pins:List (o7 × Obj))(σ:St)(Q:Bool->Hp->Prop)(b:Bool)(s':i6):Prop:=∃ H',Inv X pins σ H' s'/\Q b H'
def AP (X:Cx)(pins:List (o7 × Obj))(σ:St)(Q:List V->Hp->Prop)(us:List i5)(s':i6):Prop:=∃ vs H',Inv X pins σ H' s'/\Vals vs us/\Q vs H'
def SP (X:Cx)(pins:List (o7 × Obj))(D:Ends)(f:Flow)(s':i6):Prop :=
 match f with
 | .next=>∃ σ' H',Inv X pins σ' H' s'/\D.nx σ' H'
 | .brk=>∃ σ' H',Inv X pins σ' H' s'/\D.bk σ' H'
 | .cont=>∃ σ' H',Inv X pins σ' H' s'/\D.ct σ' H'
 | .ret u=>∃ v σ' H',Inv X pins σ' H' s'/\RelV v u/\D.rt v H'
def PE (X:Cx)(e:uc7)(t:TE):Prop :=
 ∀ (pins:List (o7 × Obj))(s:i6)(σ:St)(H:Hp)(Q:VK),Inv X pins σ H s->t σ H Q->j7 ‹38› X.A (eval e X.env) ‹121› X.xe s
def PT (X:Cx)(e:uc7)(t:TT):Prop :=
 ∀ (pins:List (o7 × Obj))(s:i6)(σ:St)(H:Hp)(Q:Bool->Hp->Prop),Inv X pins σ H s->t σ H Q->j7 ‹38› X.A (isTrue e X.env (eval e X.env)) (TP X pins σ Q) X.xe s
def PW (X:Cx)(e:uc7)(t:TT):Prop :=
 ∀ (whole:Sem i5)(pins:List (o7 × Obj))(s:i6)(σ:St)(H:Hp)(Q:Bool->Hp->Prop),Inv X pins σ H s->t σ H Q->j7 ‹38› X.A (isTrue e X.env whole) (TP X pins σ Q) X.xe s
theorem PW.pt {X:Cx}{e:uc7}{t:TT}(h:PW X e t):PT X e t:=h _
def PA (X:Cx)(es:List uc7)(t:TA):Prop :=
 ∀ (pos:Pos)(pins:List (o7 × Obj))(s:i6)(σ:St)(H:Hp)(Q:List V->Hp->Prop),Inv X pins σ H s->t σ H Q->j7 ‹38› X.A (spliced (backTo pos (ubi es X.env))) (AP X pins σ Q) X.xe s
def PS (X:Cx)(st:ud3)(t:TS):Prop :=
 ∀ (pins:List (o7 × Obj))(s:i6)(σ:St)(H:Hp)(D:Ends),Inv X pins σ H s->t D σ H->j7 ‹38› X.A (exec st X.env) (SP X pins D) X.xe s
def PSs (X:Cx)(st:List ud3)(t:TS):Prop :=
 ∀ (pins:List (o7 × Obj))(s:i6)(σ:St)(H:Hp)(D:Ends),Inv X pins σ H s->t D σ H->j7 ‹38› X.A (execs st X.env) (SP X pins D) X.xe s
theorem thn {α:Type}{t:Sem α}{Q Q':α->i6->Prop}{M:Model}{A:uax}{E:i5->i6->Prop}{s:i6}(h:j7 M A t Q E s)(hQ:∀ a s,Q a s->Q' a s):j7 M A t Q' E s:=ucr h hQ λ _ _ x=>x
end L2
namespace L2
open PySem PySem.Spec PyProof.Rows
section
variable {X:Cx}
inductive EVar (σ:L2.St)(i:Nat)(Q:V->Prop):Prop
 | mk:∀ v,(σ[i]?=some (some v))->Q v->EVar σ i Q
inductive EBl (x:V)(Q:Bool->Prop):Prop
 | mk:∀ c,(x=.bl c)->Q c->EBl x Q
inductive EInt (x:V)(Q:Int->Prop):Prop
 | mk:∀ i,(x=.int i)->Q i->EInt x Q
inductive ERef (x:V)(Q:o7->Prop):Prop
 | mk:∀ a,(x=.ref a)->Q a->ERef x Q
inductive EOne (vs:List V)(Q:Int->Prop):Prop
 | mk:∀ j,(vs=[.int j])->Q j->EOne vs Q
inductive ETwo (vs:List V)(Q:V->V->Prop):Prop
 | mk:∀ v w,(vs=[v,w])->Q v w->ETwo vs Q
def tVar (i:Nat):TE:=λ σ H Q=>EVar σ i λ v=>Q v H
def tC (v:V):TE:=λ _ H Q=>Q v H
theorem zdv {i:Nat}{x:Str}{pos:Pos}(hN:X.N[i]?=some x)(hv:Vis X.env.scope x)(hd:‹86›=false:=by decide)(hcd:(x==("__classdict__":Str))=false:=by decide):PE X (.Name x pos) (tVar i):=by
 intro pins s σ H Q I h;obtain⟨v,e,h⟩:=h;obtain⟨m,hn,hl⟩:=I.loc;obtain⟨u,r,l⟩:=hl i x v hN e hv;let F:EP X pins σ Q u s:=⟨v,H,I,r,h⟩;rcases l with ⟨z,U⟩ | ⟨z,c,O,q⟩
 ·exact wpAny_Name (wpAny_loadName_local I.ok.kind z hn U F) hd
 ·rcases z with z | z
  ·exact wpAny_Name (wpAny_loadName_cell I.ok.kind z O q F) hd
  ·exact wpAny_Name (wpAny_loadName_free I.ok.kind z O q F hcd) hd
theorem aC {i j pos}:PE X (.Constant (.int i) j pos) (tC (.int i)):=λ _ _ _ H _ I h=>wpAny_Constant_int ⟨.int i,H,I.tok _,⟨_,rfl⟩,h⟩
theorem bK {b j pos}:PE X (.Constant (.bool b) j pos) (tC (.bl b)):=λ _ _ _ H _ I h=>Constant_bool ⟨.bl b,H,I,rfl,h⟩
theorem bR {j pos}:PE X (.Constant .none j pos) (tC .non):=λ _ _ _ H _ I h=>Constant_none ⟨.non,H,I,rfl,h⟩
def Gl (X:Cx)(x:Str):Prop:=X.env.kindOf x=some .globalImplicit
theorem zcz {E:i5->i6->Prop}{pins:List (o7 × Obj)}{s:i6}{σ:St}{H:Hp}{x:Str}{u:i5}{pos:Pos}{Q:i5->i6->Prop}(I:Inv X pins σ H s)(hg:Gl X x)(hm:X.mg x=some u)(h:Q u s)
  (hd:‹86›=false:=by decide):j7 ‹38› X.A (eval (.Name x pos) X.env) Q E s :=
 Calls.Name_function_global I.ok.kind hg (Calls.loadGlobal_global (by rw[I.ok.glob];exact I.mod.glob.keeps I.bk) hm h) hd
theorem cW {E:i5->i6->Prop}{pins:List (o7 × Obj)}{s:i6}{σ:St}{H:Hp}{x:Str}{u:i5}{pos:Pos}{Q:i5->i6->Prop}(I:Inv X pins σ H s)(hg:Gl X x)(hm:X.mg x=none)(hv:bootBuiltins x=some u)(h:Q u s)
  (hn:x≠"__name__":=by decide) (hd:‹86›=false:=by decide):j7 ‹38› X.A (eval (.Name x pos) X.env) Q E s:=by
 obtain⟨q,h1,h2⟩:=I.mod.blt;exact Calls.Name_function_global I.ok.kind hg (Calls.loadGlobal_builtin (by rw[I.ok.glob];exact I.mod.glob.keeps I.bk) hm (by rw[I.ok.blt];exact h1.keeps I.bk) ((h2 x hn).trans hv) h) hd
theorem dZ {x:Str}{v:V}{u:i5}{pos:Pos}(hg:Gl X x)(hm:X.mg x=none)(hv:bootBuiltins x=some u)(r:RelV v u)(hn:x≠"__name__":=by decide)(hd:‹86›=false:=by decide):PE X (.Name x pos) (tC v) :=
 λ _ _ _ H _ I h=>cW I hg hm hv ⟨v,H,I,r,h⟩ hn hd
variable {a b:uc7}{ta tb:TE}{pos:Pos}
def PC (X:Cx)(op:CmpOp)(a b:uc7)(t:TE):Prop :=
 ∀ (pins:List (o7 × Obj))(s:i6)(σ:St)(H:Hp)(Q:VK),Inv X pins σ H s->t σ H Q ->
  j7 ‹38› X.A (eval a X.env) (λ v z=>j7 ‹38› X.A (eval b X.env) (λ u q=>j7 ‹38› X.A (compareOp op v u) ‹121› X.xe q) X.xe z) X.xe s
theorem nobehind (b:uc7){op:CmpOp}(h:op≠.In)(h2:op≠.NotIn):behindInMarks op b=false:=by
 let q:(op==CmpOp.In)=false:=by cases op <;> first | rfl | exact absurd rfl h
 let e2:(op==CmpOp.NotIn)=false:=by cases op <;> first | rfl | exact absurd rfl h2
 cases b <;> simp [behindInMarks,q,e2]
def tB (t:TE):TT:=λ σ H Q=>t σ H λ x H1=>EBl x λ c=>Q c H1
theorem qN {op:CmpOp}{t:TE}(h:PC X op a b t)(h1:behindInMarks op b=false:=by first | exact nobehind _ (by decide) (by decide) | rfl):PT X (.Compare a [op] [b] pos) (tB t):=by
 intro pins s σ H Q I O;exact wpAny_isTrue_Compare1 (thn (h pins s σ H _ I O) λ v U h1=>thn h1 λ u s2 h2=>thn h2 λ c s3 ⟨x,H1,F,r1,z⟩=>?_) h1;obtain⟨d,rfl,q⟩:=z;cases r1;exact ucy ⟨H1,F,q⟩
theorem cA {e:uc7}{t:TE}(h:PE X e t)(he:∀ whole,isTrue e X.env whole=(do let v ← whole;standAt e.pos;holding [v] (truthy v)):=by intro _;rfl):PT X e (tB t):=by
 intro pins s σ H Q I O;exact isTrue_plain (thn (h pins s σ H _ I O) λ v U ⟨x,H1,F,r1,z⟩=>?_) (he _);obtain⟨d,rfl,q⟩:=z;cases r1;exact ucy ⟨H1,F,q⟩
variable {tA tB':TT}{rest:List uc7}
def tAnd (t u:TT):TT:=λ σ H Q=>t σ H λ c H1=>if c=true then u σ H1 Q else Q false H1
def tOr (t u:TT):TT:=λ σ H Q=>t σ H λ c H1=>if c=true then Q true H1 else u σ H1 Q
def tNot (t:TT):TT:=λ σ H Q=>t σ H λ c H1=>Q (!c) H1
theorem iA (ha:PT X a tA):PW X (.BoolOp .And [a] pos) tA:=by
 intro q pins s σ H Q I h;exact isTrue_and (thn (ha pins s σ H Q I h) λ c z e=>?_);cases c with
 | true=>exact isTrue_and_nil e
 | false=>exact e
theorem dC (ha:PT X a tA):PW X (.BoolOp .Or [a] pos) tA:=by
 intro q pins s σ H Q I h;exact isTrue_or (thn (ha pins s σ H Q I h) λ c z e=>?_);cases c with
 | false=>exact isTrue_or_nil e
 | true=>exact e
theorem fU (ha:PT X a tA)(hb:PW X (.BoolOp .And (b::rest) pos) tB'):PW X (.BoolOp .And (a::b::rest) pos) (tAnd tA tB'):=by
 intro F pins s σ H Q I h;exact isTrue_and (thn ‹89› λ c O ⟨H1,z,q⟩=>?_);cases c with
 | true=>exact hb F pins O σ H1 Q z q
 | false=>exact⟨H1,z,q⟩
theorem cQ (ha:PT X a tA)(hb:PW X (.BoolOp .Or (b::rest) pos) tB'):PW X (.BoolOp .Or (a::b::rest) pos) (tOr tA tB'):=by
 intro F pins s σ H Q I h;exact isTrue_or (thn ‹89› λ c O ⟨H1,z,q⟩=>?_);cases c with
 | true=>exact⟨H1,z,q⟩
 | false=>exact hb F pins O σ H1 Q z q
theorem cO (ha:PT X a tA):PT X (.UnaryOp .Not a pos) (tNot tA):=by
 intro pins s σ H Q I h;exact isTrue_not (ha pins s σ H (λ c H1=>Q (!c) H1) I h)
def tAndV (ta tb:TE):TE:=λ σ H Q=>ta σ H λ x H1=>EBl x λ c=>if c=true then tb σ H1 Q else Q (.bl false) H1
def tOrV (ta tb:TE):TE:=λ σ H Q=>ta σ H λ x H1=>EBl x λ c=>if c=true then Q (.bl true) H1 else tb σ H1 Q
def tNotV (ta:TE):TE:=λ σ H Q=>ta σ H λ x H1=>EBl x λ c=>Q (.bl (!c)) H1
theorem cD {op} {t:TE} (h:PE X a t):PE X (.BoolOp op [a] pos) t:=λ pins s σ H Q I q=>BoolOp_one (h pins s σ H Q I q)
theorem cJ (ha:PE X a ta)(hb:PE X (.BoolOp .And (b::rest) pos) tb):PE X (.BoolOp .And (a::b::rest) pos) (tAndV ta tb):=by
 intro pins s σ H Q I h;exact BoolOp_and (thn ‹89› λ v F ⟨x,H1,z,r1,q⟩=>?_);obtain⟨c,rfl,q⟩:=q;cases r1;exact ucy ?_;cases c with
 | true=>exact hb pins F σ H1 Q z q
 | false=>exact⟨.bl false,H1,z,rfl,q⟩
theorem kP (ha:PE X a ta)(hb:PE X (.BoolOp .Or (b::rest) pos) tb):PE X (.BoolOp .Or (a::b::rest) pos) (tOrV ta tb):=by
 intro pins s σ H Q I h;exact BoolOp_or (thn ‹89› λ v F ⟨x,H1,z,r1,q⟩=>?_);obtain⟨c,rfl,q⟩:=q;cases r1;exact ucy ?_;cases c with
 | false=>exact hb pins F σ H1 Q z q
 | true=>exact⟨.bl true,H1,z,rfl,q⟩
theorem zdw (ha:PE X a ta):PE X (.UnaryOp .Not a pos) (tNotV ta):=by
 intro pins s σ H Q I h;exact UnaryOp_ (thn ‹89› λ v F ⟨x,H1,z,r1,q⟩=>?_);obtain⟨c,rfl,q⟩:=q;cases r1;exact not_of (ucy ⟨.bl (!c),H1,z,rfl,q⟩)
def tIf (t:TT)(ta tb:TE):TE:=λ σ H Q=>t σ H λ c H1=>if c=true then ta σ H1 Q else tb σ H1 Q
theorem oN {c:uc7}(hc:PT X c tA)(ha:PE X a ta)(hb:PE X b tb):PE X (.IfExp c a b pos) (tIf tA ta tb):=by
 intro pins s σ H Q I h;exact wpAny_IfExp (thn (hc pins s σ H _ I h) λ d F ⟨H1,z,q⟩=>?_);cases d with
 | true=>exact ha pins F σ H1 Q z q
 | false=>exact hb pins F σ H1 Q z q
end
end L2
namespace L2
open PySem PySem.Spec PyProof.Rows
def SqL (K:b8)(H:Hp)(a:o7)(xs:List V):Prop :=
 Rd H a (.lst xs) \/
  ∃ (o:Obj)(its:Array i5)(n:Nat),K.lookup a=some o/\o.cls=.type "list"/\o.dict=none/\o.data=.seq its n/\its.size<=p8/\Vals xs its.toList
def SqT (K:b8)(H:Hp)(a:o7)(xs:List V):Prop :=
 Rd H a (.tup xs) \/
  ∃ (o:Obj)(its:Array i5)(n:Nat),K.lookup a=some o/\o.cls=.type "tuple"/\o.data=.seq its n/\its.size<=p8/\Vals xs its.toList
def absV:i5->Option V
 | .none=>some .non
 | .bool b=>some (.bl b)
 | .int i _=>some (.int i)
 | .str x _=>some (.str x)
 | .bytes b _=>some (.byt b)
 | .float b _=>some (.flt b)
 | .ref a=>some (.ref a)
 | .type n=>some (.ty n)
 | _=>none
theorem RelV.abs {x:V}{u:i5}(r:RelV x u):absV u=some x:=by
 cases x with
 | non=>cases r;rfl
 | bl _=>cases r;rfl
 | int _=>obtain⟨t,rfl⟩:=r;rfl
 | str _=>obtain⟨t,rfl⟩:=r;rfl
 | byt _=>obtain⟨t,rfl⟩:=r;rfl
 | flt _=>obtain⟨t,rfl⟩:=r;rfl
 | ref _=>cases r;rfl
 | ty _=>cases r;rfl
theorem RelV.inj {x y:V}{u:i5}(r:RelV x u)(q:RelV y u):x=y:=uaz (r.abs.symm.trans q.abs)
theorem Vals.inj:∀ {xs ys:List V}{us:List i5},Vals xs us->Vals ys us->xs=ys
 | _,_,_,.nil,.nil=>rfl
 | _,_,_,.cons r t,.cons r' t'=>by rw[r.inj r',Vals.inj t t']
section
variable {X:Cx}{pins:List (o7 × Obj)}{σ:St}{H:Hp}{s:i6}{a:o7}{xs ys:List V}
theorem SqL.of {K:b8}(h:H a=some (.lst xs)):SqL K H a xs:=.inl (.inl h)
theorem SqT.of {K:b8}(h:H a=some (.tup xs)):SqT K H a xs:=.inl (.inl h)
theorem Inv.list (I:Inv X pins σ H s)(h:SqL X.K H a xs):∃ its:List i5,Vals xs its/\PlainL s.heap a its.toArray/\xs.length<=p8:=by
 rcases h with h | ⟨o,its,n,O,F,q,hs,U,r⟩
 ·obtain⟨z,its,n,r,e⟩:=h.ok I.hok;exact⟨its,r,⟨_,n,e,M,rfl⟩,z⟩
 ·exact⟨its.toList,r,⟨o,n,I.kIn a o O,F,q,by simpa using hs⟩,?_⟩;let e:=r.length;simp only [r8] at e;left
theorem Inv.tuple (I:Inv X pins σ H s)(h:SqT X.K H a xs):∃ its:List i5,Vals xs its/\IsTup s.heap a its.toArray/\xs.length<=p8:=by
 rcases h with h | ⟨o,its,n,F,q,hs,O,r⟩
 ·obtain⟨z,its,r,p⟩:=h.ok I.hok;exact⟨its,r,p.tup,z⟩
 ·exact⟨its.toList,r,⟨o,I.kIn a o F,q,n,by simpa using hs⟩,?_⟩;let e:=r.length;simp only [r8] at e;left
theorem Inv.list_inj (I:Inv X pins σ H s)(h:SqL X.K H a xs)(h':SqL X.K H a ys):xs=ys:=by
 obtain⟨its,r,⟨o,n,e,_,_,d⟩,_⟩:=I.list h;obtain⟨q,O,⟨o',U,F,_,_,z⟩,_⟩:=I.list h';rw[e] at F;cases F;rw[d] at z;injection z with d1 _;let:its=q:=by simpa using congrArg Array.toList d1
 subst this;exact r.inj O
theorem Inv.tuple_inj (I:Inv X pins σ H s)(h:SqT X.K H a xs)(h':SqT X.K H a ys):xs=ys:=by
 obtain⟨its,r,⟨o,e,_,n,d⟩,_⟩:=I.tuple h;obtain⟨q,O,⟨o',F,_,U,z⟩,_⟩:=I.tuple h';rw[e] at F;cases F;rw[d] at z;injection z with d1 _;let:its=q:=by simpa using congrArg Array.toList d1
 subst this;exact r.inj O
end
abbrev Cx.wish (X:Cx)(E:i5->i6->Prop):Cx:={ X with xe:=E }
abbrev Cx.nox (X:Cx):Cx:=X.wish λ _ _=>False
theorem Cx.Ok.wish {X:Cx}(ok:X.Ok)(E:i5->i6->Prop):(X.wish E).Ok :=
 ⟨ok.mod,ok.kind,ok.glob,ok.blt,ok.above,ok.inj,ok.has,ok.cab,ok.hd,ok.frames,ok.stk,ok.exf,ok.bs,ok.bsz,ok.noex,ok.exfs,ok.funs,ok.frf⟩
theorem Cx.Ok.unwish {X:Cx}{E:i5->i6->Prop}(ok:(X.wish E).Ok):X.Ok :=
 ⟨ok.mod,ok.kind,ok.glob,ok.blt,ok.above,ok.inj,ok.has,ok.cab,ok.hd,ok.frames,ok.stk,ok.exf,ok.bs,ok.bsz,ok.noex,ok.exfs,ok.funs,ok.frf⟩
section
variable {X:Cx}{pins:List (o7 × Obj)}{σ:St}{H:Hp}{s:i6}{E:i5->i6->Prop}
theorem Inv.wish (I:Inv X pins σ H s)(E:i5->i6->Prop):Inv (X.wish E) pins σ H s:=⟨I.ok.wish E,I.os,I.bare,I.base,I.loc,I.cell,I.free,I.freeC,I.pin,I.hok,I.len⟩
theorem Inv.unwish (I:Inv (X.wish E) pins σ H s):Inv X pins σ H s:=⟨I.ok.unwish,I.os,I.bare,I.base,I.loc,I.cell,I.free,I.freeC,I.pin,I.hok,I.len⟩
theorem SP.unwish {D:Ends}{f:Flow}{s':i6}(h:SP (X.wish E) pins D f s'):SP X pins D f s':=by
 cases f with
 | next=>obtain⟨z,H',I,q⟩:=h;exact⟨z,H',I.unwish,q⟩
 | brk=>obtain⟨z,H',I,q⟩:=h;exact⟨z,H',I.unwish,q⟩
 | cont=>obtain⟨z,H',I,q⟩:=h;exact⟨z,H',I.unwish,q⟩
 | ret u=>obtain⟨v,z,H',I,r,q⟩:=h;exact⟨v,z,H',I.unwish,r,q⟩
theorem PSs.nox {st:List ud3}{t:TS}(h:PSs X.nox st t):PSs X st t:=λ pins s σ H D I F =>
 ucr (h pins s σ H D (I.wish _) F) (λ _ _ q=>q.unwish) λ _ _ z=>False.elim z
end
section
variable {X:Cx}{st:ud3}{rest:List ud3}{t u:TS}{e:uc7}{te:TE}{pos:Pos}
def tNext:TS:=λ D σ H=>D.nx σ H
def tSeq (t u:TS):TS:=λ D σ H=>t { D with nx:=u D } σ H
theorem aT:PSs X [] tNext:=λ _ _ σ H _ I h=>ugi ⟨σ,H,I,h⟩
theorem aD (h1:PS X st t)(h2:PSs X rest u):PSs X (st::rest) (tSeq t u):=by
 intro pins s σ H D I h;exact wpAny_execs_cons (thn (h1 pins s σ H { D with nx:=u D } I h) λ f O q=>?_);cases f with
 | next =>
  obtain⟨z,H',F,q⟩:=q;exact h2 pins O z H' D F q
 | ret v=>exact q
 | brk=>exact q
 | cont=>exact q
theorem aE (h1:PS X st t):PSs X [st] t:=by
 intro pins s σ H D I h;exact wpAny_execs_cons (thn (h1 pins s σ H D I h) λ f z q=>?_);cases f with
 | next=>exact ugi q
 | ret v=>exact q
 | brk=>exact q
 | cont=>exact q
def tCont:TS:=λ D σ H=>D.ct σ H
theorem vX:PS X (.Continue pos) tCont:=λ _ _ σ H _ I h=>wpAny_Continue ⟨σ,H,I,h⟩
theorem Inv.quiet {pins:List (o7 × Obj)}{σ:St}{H:Hp}{s:i6}(I:Inv X pins σ H s):interactive X.env=false:=by simp [interactive,I.ok.kind]
def tDrop (te:TE):TS:=λ D σ H=>te σ H λ _ H1=>D.nx σ H1
theorem dX (he:PE X e te)(hs:swapsWith e none pos.line X.env=pure false:=by rfl):PS X (.Expr e pos) (tDrop te):=by
 intro pins s σ H D I h;exact wpAny_Expr_any (thn (he pins s σ H _ I h) λ v F ⟨x,H1,z,r1,q⟩=>⟨σ,H1,z,q⟩) I.quiet hs
def tRet (te:TE):TS:=λ D σ H=>te σ H D.rt
theorem aJ (he:PE X e te):PS X (.Return (some e) pos) (tRet te):=by
 intro pins s σ H D I h;exact wpAny_Return_some (thn (he pins s σ H _ I h) λ v F ⟨x,H1,z,r1,q⟩=>⟨x,σ,H1,z,r1,q⟩)
def tIfS (c:TT)(t u:TS):TS:=λ D σ H=>c σ H λ b H1=>if b=true then t D σ H1 else u D σ H1
theorem aS {c:uc7}{a b:List ud3}{tc:TT}(hc:PT X c tc)(ha:PSs X a t)(hb:PSs X b u):PS X (.If c a b pos) (tIfS tc t u):=by
 intro pins s σ H D I h;exact wpAny_If (thn (hc pins s σ H _ I h) λ d F ⟨H1,z,q⟩=>?_);cases d with
 | true=>exact ha pins F σ H1 D z q
 | false=>exact hb pins F σ H1 D z q
end
abbrev TG:=V->St->Hp->(St->Hp->Prop)->Prop
abbrev TGs:=List V->St->Hp->(St->Hp->Prop)->Prop
def PG (X:Cx)(target:uc7)(t:TG):Prop :=
 ∀ (pins:List (o7 × Obj))(s:i6)(σ:St)(H:Hp)(v:V)(u:i5)(Q:St->Hp->Prop),Inv X pins σ H s->RelV v u->t v σ H Q ->
  j7 ‹38› X.A (assign target X.env u) (λ _ s'=>∃ σ' H',Inv X pins σ' H' s'/\Q σ' H') X.xe s
def PGs (X:Cx)(ts:List uc7)(t:TGs):Prop :=
 ∀ (pins:List (o7 × Obj))(s:i6)(σ:St)(H:Hp)(vs:List V)(us:List i5)(Q:St->Hp->Prop),Inv X pins σ H s->Vals vs us->t vs σ H Q ->
  j7 ‹38› X.A (assignInOrder ((assignEach ts X.env).map (·.2)) us) (λ _ s'=>∃ σ' H',Inv X pins σ' H' s'/\Q σ' H') X.xe s
abbrev TSet:=V->V->V->Hp->(Hp->Prop)->Prop
def PSet (X:Cx)(t:TSet):Prop :=
 ∀ (pins:List (o7 × Obj))(s:i6)(σ:St)(H:Hp)(o i v:V)(ov iv u:i5)(Q:Hp->Prop),Inv X pins σ H s->RelV o ov->RelV i iv->RelV v u->t o i v H Q ->
  j7 ‹38› X.A (setItem ov iv u) (λ _ s'=>∃ H',Inv X pins σ H' s'/\Q H') X.xe s
section
variable {X:Cx}{pos:Pos}
def gName (i:Nat):TG:=λ v σ H Q=>Q (σ.set i (some v)) H
theorem aK {i:Nat}{x:Str}(hN:X.N.Nodup)(hi:X.N[i]?=some x)(hx:Loc X.env.scope x)(hf:X.fn x=true\/X.env.scope.names.lookup x=some .local:=by first | exact .inl rfl | exact .inr rfl | assumption):PG X (.Name x pos) (gName i):=by
 intro pins s σ H v u Q I r h;exact wpAny_assign_Name (oE I hN hi hx r (λ s' q=>⟨_,H,q,h⟩) hf)
def gNil:TGs:=λ vs σ H Q=>vs=[]/\Q σ H
inductive gCons_i (t:TG)(u:TGs)(vs:List V)(σ:L2.St)(H:Hp)(Q:L2.St->Hp->Prop):Prop
 | mk:∀ v r,(vs=v::r)->(t v σ H λ σ' H'=>u r σ' H' Q)->gCons_i t u vs σ H Q
def gCons (t:TG)(u:TGs):TGs:=λ vs σ H Q=>gCons_i t u vs σ H Q
theorem bL:PGs X [] gNil:=by
 intro pins s σ H vs us Q I r h;obtain⟨e,h⟩:=h;subst e;cases r;exact assignInOrder_nil ⟨σ,H,I,h⟩
theorem aQ {e:uc7}{es:List uc7}{t:TG}{u:TGs}(h1:PG X e t)(h2:PGs X es u)
  (hs:(assignEach (e::es) X.env).map (·.2)=assign e X.env::(assignEach es X.env).map (·.2):=by rfl):PGs X (e::es) (gCons t u):=by
 intro pins s σ H vs us Q I r h;obtain⟨v,vr,F,h⟩:=h;subst F;cases r with
 | cons r rr =>
  rw[hs];exact assignInOrder_cons (thn (h1 pins s σ H _ _ _ I r h) λ _ U ⟨q,H1,O,z⟩=>?_);exact h2 pins U q H1 _ _ Q O rr z
inductive gTup_i (K:b8)(n:Nat)(t:TGs)(v:V)(σ:L2.St)(H:Hp)(Q:L2.St->Hp->Prop):Prop
 | mk:∀ a xs,(v=.ref a)->(SqT K H a xs)->(xs.length=n)->(t xs σ H Q)->gTup_i K n t v σ H Q
def gTup (K:b8)(n:Nat)(t:TGs):TG:=λ v σ H Q=>gTup_i K n t v σ H Q
theorem cI {es:List uc7}{k:Nat}{t:TGs}{n:Nat}(hc:X.calm=true)(h:PGs X es t)
  (hn:(assignEach es X.env).length=n:=by rfl) (hst:(assignEach es X.env).findIdx? (·.1)=none:=by rfl):PG X (.Tuple es k pos) (gTup X.K n t):=by
 intro pins s σ H v u Q I r q;obtain⟨a,xs,O,hq,hl,q⟩:=q;subst O;cases r;obtain⟨its,z,ht,hz⟩:=I.tuple hq;refine assign_Tuple_tuple (I.ok.hd hc) ht (by simp [hn,← hl,z.length]) hst λ h' F=>?_;have U:Inv X pins σ H { s with heap:=h' }:=I.kept (t':=s.toks) λ b o e=>F b o (k8 (j5 e)) e;exact h pins _ σ H xs _ Q U (by simpa using z) q
def gSub (to ti:TE)(t:TSet):TG:=λ v σ H Q=>to σ H λ o H1=>ti σ H1 λ i H2=>t o i v H2 λ H3=>Q σ H3
theorem fV {o i:uc7}{to ti:TE}{t:TSet}(ho:PE X o to)(hi:PE X i ti)(hs:PSet X t)
  (ha:∀ v,assign (.Subscript o i pos) X.env v=(do
   let ov ← holding [v] (eval o X.env);let iv ← holding [v,ov] (eval i X.env)
   standAt pos
   holding [v,ov,iv] (setItem ov iv v)
   release [v,ov,iv] []):=by intro _;rfl):PG X (.Subscript o i pos) (gSub to ti t):=by
 intro pins s σ H v u Q I r h;rw[ha];exact a7 (uak (thn (ho pins s σ H _ I h) λ ov s1 ⟨x,H1,F,r1,q⟩=>?_));exact a7 (uak (thn (hi pins s1 σ H1 _ F q) λ iv s2 ⟨y,H2,I2,r2,z⟩=>?_));exact a7 (ug4 (a7 (uak (thn (hs pins s2 σ H2 x y v ov iv u _ I2 r1 r2 r z) λ _ s3 ⟨H3,U,O⟩=>?_))));exact wpAny_release ⟨σ,H3,U,O⟩
def tAsg (te:TE)(g:TG):TS:=λ D σ H=>te σ H λ x H1=>g x σ H1 D.nx
theorem cB {tg e:uc7}{te:TE}{g:TG}(he:PE X e te)(hg:PG X tg g)(hs:swapsWithSole [tg] e pos.line X.env=pure false:=by rfl)(hw:swappedStores [tg] e X.env=pure none:=by rfl)
  (h1:(assignEach [tg] X.env).map (·.2)=[assign tg X.env]:=by rfl):PS X (.Assign [tg] e pos) (tAsg te g):=by
 intro pins s σ H D I h;exact wpAny_Assign_stores (thn (he pins s σ H _ I h) λ v O ⟨x,H1,F,r1,z⟩=>?_) hs hw;rw[h1];exact thn (hg pins O σ H1 x v _ F r1 z) λ _ s2 q=>q
theorem aN {i:Nat}{x:Str}{e:uc7}{te:TE}{pos':Pos}(hN:X.N.Nodup)(hi:X.N[i]?=some x)(hx:Loc X.env.scope x)(he:PE X e te)(hs:swapsWith e (some (.Name x pos')) pos.line X.env=pure false:=by rfl)(hf:X.fn x=true\/X.env.scope.names.lookup x=some .local:=by first | exact .inl rfl | exact .inr rfl | assumption) :
  PS X (.Assign [.Name x pos'] e pos) (tAsg te (gName i)):=by
 intro pins s σ H D I h;exact wpAny_Assign_Name (thn (he pins s σ H _ I h) λ v O ⟨y,H1,z,r1,q⟩=>?_) hs;exact oE z hN hi hx r1 (λ s2 F=>⟨_,H1,F,q⟩) hf
end
section
variable {X:Cx}{pos:Pos}
def tWhile (c:TT)(tb:TS):TS:=λ D σ H=>∃ W:Nat->St->Hp->Prop,(∃ m,W m σ H)/\∀ m σ H,W m σ H ->
 c σ H λ b H1=>if b=true then ∃ N:St->Hp->Prop,(∀ σ' H',N σ' H'->∃ m',m'<m/\W m' σ' H')/\tb { D with nx:=N,ct:=N,bk:=D.nx } σ H1 else D.nx σ H1
theorem oM {c:uc7}{body:List ud3}{tc:TT}{tb:TS}(hp:PassesOwn ‹38› X.A X.env X.xe)(hc:PT X c tc)(hb:PSs X body tb):PS X (.While c body [] pos) (tWhile tc tb):=by
 intro pins s σ H D I h;obtain⟨W,⟨m0,w0⟩,F⟩:=h;exact wpAny_While (codeAny_whileLoop (λ n s'=>∃ σ' H',Inv X pins σ' H' s'/\W n σ' H') ?_ m0 ⟨σ,H,I,w0⟩);rintro n s1 ⟨z,H1,I1,w1⟩;exact udt hp (thn (hc pins s1 z H1 _ I1 (F n z H1 w1)) λ b s2 ⟨H2,I2,O⟩=>?_);cases b with
 | true =>
  obtain⟨N,hN,O⟩:=O;rw[uh2 rfl];exact udt hp (thn (hb pins s2 z H2 _ I2 O) λ f s3 U=>?_);cases f with
  | next =>
   obtain⟨q,H3,I3,n3⟩:=U;obtain⟨m',hm,w3⟩:=hN q H3 n3;exact⟨m',hm,q,H3,I3,w3⟩
  | cont =>
   obtain⟨q,H3,I3,n3⟩:=U;obtain⟨m',hm,w3⟩:=hN q H3 n3;exact⟨m',hm,q,H3,I3,w3⟩
  | brk=>exact U
  | ret v=>exact U
 | false =>
  rw[uh3 p6];exact ugi ⟨z,H2,I2,O⟩
end
structure It where
 go:Nat->Hp->Prop
 yld:Nat->Hp->V->Hp->Prop
 stop:Nat->Hp->Prop
def FpOk (X:Cx)(pins:List (o7 × Obj))(H:Hp)(b:o7):Prop :=
 H b=none/\b≠X.env.locals/\b∉X.fs/\‹110›/\(∀ x c,X.env.cells.lookup x=some c->c≠b)/\∀ p∈X.pn++pins,p.1≠b
theorem Inv.fpOk {X:Cx}{pins:List (o7 × Obj)}{σ:St}{H H':Hp}{s:i6}{b:o7}(I:Inv X pins σ H s)(hb:‹128›<=b)(hn:H' b=none):FpOk X pins H' b:=by
 exact⟨hn,ub9 (u7 I.lt hb),I.nofs hb,.inr (uaj I.sz hb),λ x c e z=>?_,λ p F z=>?_⟩
 ·obtain⟨v,q⟩:=I.cell x c e;exact absurd (u7 q.lt (by rw[z];exact hb)) (ubz _)
 ·exact absurd (u7 (j5 (I.pin p F).1) (by rw[z];exact hb)) (ubz _)
structure Turn (P:o9)(w:uaw)(K:b8)(tg:uc7)(J:It)(fp:List o7)(it:o7)(tn:Nat->Heap->Prop):Prop where
 mem:it∈fp
 obj:∀ i h,tn i h->∀ b∈fp,∃ o,h.get? b=some o/\∀ v,o.data≠.cell v
 keep:∀ i h h',tn i h->(∀ b∈fp,∀ o,h.get? b=some o->h'.get? b=some o)->tn i h'
 item:∀ (X:Cx),X.prog=P->X.w=w->X.K=K->X.calm=true->∀ (i:Nat)(pins:List (o7 × Obj))(s:i6)(σ:St)(H:Hp)(E:i5->i6->Prop),Inv X pins σ H s->(∀ b∈fp,FpOk X pins H b)->tn i s.heap->J.go i H ->
  j7 (v4 P w) X.A (pyNext (.ref it)) (λ r s1=>∃ u,r=some u /\
   j7 (v4 P w) X.A (letOwnedTupleGo tg (.ref it) u) (λ _ s2=>∃ x H',Inv X pins σ H' s2/\RelV x u/\J.yld i H x H'/\tn (i+1) s2.heap/\∀ b∈fp,H' b=none) E s1) E s
 done:∀ (X:Cx),X.prog=P->X.w=w->X.K=K->X.calm=true->∀ (i:Nat)(pins:List (o7 × Obj))(s:i6)(σ:St)(H:Hp)(E:i5->i6->Prop),Inv X pins σ H s->(∀ b∈fp,FpOk X pins H b)->tn i s.heap->J.stop i H ->
  j7 (v4 P w) X.A (pyNext (.ref it)) (λ r s1=>r=none/\Inv X pins σ H s1) E s
 self:∀ (A:uax)(i:Nat)(s:i6)(Q:i5->i6->Prop)(E:i5->i6->Prop),tn i s.heap->Q (.ref it) s->j7 (v4 P w) A (pyIter (.ref it)) Q E s
abbrev TI:=St->Hp->(It->Hp->Prop)->Prop
def PIE (X:Cx)(pins:List (o7 × Obj))(σ:St)(tg:uc7)(R:It->Hp->Prop)(itv:i5)(s2:i6):Prop :=
 ∃ (it:o7)(fp:List o7)(tn:Nat->Heap->Prop)(J:It)(H':Hp),itv=.ref it/\Inv X pins σ H' s2/\Turn X.prog X.w X.K tg J fp it tn/\tn 0 s2.heap/\(∀ b∈fp,FpOk X pins H' b)/\R J H'
def PI (X:Cx)(tg iter:uc7)(wi:TI):Prop :=
 ∀ (pins:List (o7 × Obj))(s:i6)(σ:St)(H:Hp)(R:It->Hp->Prop),Inv X pins σ H s->wi σ H R ->
  j7 ‹38› X.A (eval iter X.env) (λ v q=>j7 ‹38› X.A (pyIter v) (PIE X pins σ tg R) X.xe q) X.xe s
theorem kR {M:Model}{A:uax}{E:i5->i6->Prop}{s:i6}{tg:uc7}{it:o7}{u:i5}{o:Obj}{n:String}{vs:Array i5}{Q:Unit->i6->Prop}(ho:s.heap.get? it=some o)(hc:o.cls=.type n)(hd:o.data=.fields vs)
  (hn:["enumerate","zip","dict_itemiterator","dict_reverseitemiterator","odict_iterator","itertools.zip_longest","itertools.pairwise"].contains n=false) (hQ:Q () s):j7 M A (letOwnedTupleGo tg (.ref it) u) Q E s:=by
 unfold letOwnedTupleGo;cases tg <;> first
  | exact c7 hQ
  | (cases u <;> first
      | exact c7 hQ
      | (exact a7 (wpAny_load ho ?_)
         rw[hc,hd];show j7 M A (if (["enumerate","zip","dict_itemiterator","dict_reverseitemiterator","odict_iterator","itertools.zip_longest","itertools.pairwise"].contains n&&vs[0]?==some (rawInt _))=true then _ else _) Q E s;rw[uh3 (by intro h;rw[hn,udw] at h;cases h)];exact c7 hQ))
def Itl (K:b8)(a:o7):It :=
 ⟨λ i H=>∃ xs x,SqL K H a xs/\xs[i]?=some x,λ i H x H'=>H'=H/\∀ xs,SqL K H a xs->xs[i]?=some x,λ i H=>∃ xs,SqL K H a xs/\xs.length<=i⟩
def Itt (K:b8)(a:o7):It :=
 ⟨λ i H=>∃ xs x,SqT K H a xs/\xs[i]?=some x,λ i H x H'=>H'=H/\∀ xs,SqT K H a xs->xs[i]?=some x,λ i H=>∃ xs,SqT K H a xs/\xs.length<=i⟩
def Itr (lo:Int)(n:Nat):It:=⟨λ i _=>i<n,λ i H x H'=>H'=H/\x=.int (lo+i),λ i _=>n<=i⟩
theorem yC {P:o9}{w:uaw}{K:b8}{tg:uc7}(a it:o7):Turn P w K tg (Itl K a) [it] it (λ i h=>h.IsListIter it a i) where
 mem:=by simp
 obj:=λ i h st b q=>by
  let e:b=it:=by simpa using q
  subst e;obtain⟨o,e,c,d⟩:=st;exact⟨o,e,λ v z=>by rw[d] at z;cases z⟩
 keep:=λ i h h' st k=>st.at λ o e=>k it (by simp) o e
 item:=by
  intro X hP hw hK hc i pins s σ H E I U st hg;subst hP hw hK;obtain⟨xs,x,O,hx⟩:=hg;obtain⟨its,rv,p,hz⟩:=I.list O;obtain⟨u,hu,ru⟩:=rv.get hx;obtain⟨f0,f1,f2,f3,f4,f5⟩:=U it (by simp);exact wpAny_pyNext_list_item st p.isList (x:=u) (by simpa using hu) λ h' F sb=>?_;let I1:Inv X pins σ H { s with heap:=h' }:=I.turned (t':=s.toks) (λ b o q e=>(sb.2 b q).trans e) f0 f1 f3 f4 f5;obtain⟨o,e,c,d⟩:=id F;exact⟨u,rfl,kR (s:={ s with heap:=h' }) e c d (by decide) ⟨x,H,I1,ru,⟨rfl,λ ys hy=>by rw[I.list_inj hy O];exact hx⟩,F,λ b q=>(U b q).1⟩⟩
 done:=by
  intro X hP hw hK hc i pins s σ H E I U st hg;subst hP hw hK;obtain⟨xs,O,hx⟩:=hg;obtain⟨its,rv,p,hz⟩:=I.list O;obtain⟨f0,f1,f2,f3,f4,f5⟩:=U it (by simp);let hl:=rv.length;exact wpAny_pyNext_list_end (I.ok.hd hc) st p.isList (by simp;left) λ h' eb=>⟨rfl,I.turned (t':=s.toks) (λ b o q e=>eb b o q e) f0 f1 f3 f4 f5⟩
 self:=λ _ _ _ _ _ st h=>wpAny_pyIter_listiter st h
theorem wT {P:o9}{w:uaw}{K:b8}{tg:uc7}(a it:o7):Turn P w K tg (Itt K a) [it] it (λ i h=>h.IsTupleIter it a i) where
 mem:=by simp
 obj:=λ i h st b q=>by
  let e:b=it:=by simpa using q
  subst e;obtain⟨o,e,c,d⟩:=st;exact⟨o,e,λ v z=>by rw[d] at z;cases z⟩
 keep:=λ i h h' st k=>st.at λ o e=>k it (by simp) o e
 item:=by
  intro X hP hw hK hc i pins s σ H E I U st hg;subst hP hw hK;obtain⟨xs,x,O,hx⟩:=hg;obtain⟨its,rv,p,hz⟩:=I.tuple O;obtain⟨u,hu,ru⟩:=rv.get hx;obtain⟨f0,f1,f2,f3,f4,f5⟩:=U it (by simp);exact wpAny_pyNext_tuple_item st (show s.heap.IsTuple a its.toArray from p) (x:=u) (by simpa using hu) λ h' F sb=>?_;let I1:Inv X pins σ H { s with heap:=h' }:=I.turned (t':=s.toks) (λ b o q e=>(sb.2 b q).trans e) f0 f1 f3 f4 f5;obtain⟨o,e,c,d⟩:=id F;exact⟨u,rfl,kR (s:={ s with heap:=h' }) e c d (by decide) ⟨x,H,I1,ru,⟨rfl,λ ys hy=>by rw[I.tuple_inj hy O];exact hx⟩,F,λ b q=>(U b q).1⟩⟩
 done:=by
  intro X hP hw hK hc i pins s σ H E I U st hg;subst hP hw hK;obtain⟨xs,O,hx⟩:=hg;obtain⟨its,rv,p,hz⟩:=I.tuple O;obtain⟨f0,f1,f2,f3,f4,f5⟩:=U it (by simp);let hl:=rv.length;exact wpAny_pyNext_tuple_end (I.ok.hd hc) st (show s.heap.IsTuple a its.toArray from p) (by simp;left) λ h' eb=>⟨rfl,I.turned (t':=s.toks) (λ b o q e=>eb b o q e) f0 f1 f3 f4 f5⟩
 self:=λ _ _ _ _ _ st h=>wpAny_pyIter_tupleiter st h
theorem wU {P:o9}{w:uaw}{K:b8}{tg:uc7}(it:o7)(lo:Int)(n:Nat):Turn P w K tg (Itr lo n) [it] it (λ i h=>IsRangeIter h it (lo+(i:Nat)*1) ((n:Int)-(i:Nat)) 1) where
 mem:=by simp
 obj:=λ i h st b q=>by
  let e:b=it:=by simpa using q
  subst e;exact⟨_,st,λ v z=>by
   let z':Data.fields _=Data.cell v:=z;cases z'⟩
 keep:=λ i h h' st k=>k it (by simp) _ st
 item:=by
  intro X hP hw hK hc i pins s σ H E I O st hg;subst hP hw hK;obtain⟨f0,f1,f2,f3,f4,U⟩:=O it (by simp);let W:=Walks.range (prog:=X.prog) (w:=X.w) (I.ok.hd hc) it lo 1 n;exact W.item i s _ _ hg st λ v h' tk hv F kk=>?_;obtain⟨t,rfl⟩:=hv;let I1:Inv X pins σ H { s with heap:=h',toks:=tk }:=I.turned (λ b o q e=>kk b o (by simpa using q) e) f0 f1 f3 f4 U;exact⟨A,kR (s:={ s with heap:=h',toks:=tk }) (n:="range_iterator") F rfl rfl (by decide) ⟨.int (lo+i),H,I1,⟨t,?_⟩,⟨rfl,rfl⟩,F,λ b q=>(O b q).1⟩⟩;rw[Int.mul_one]
 done:=by
  intro X hP hw hK hc i pins s σ H E I O st hg;subst hP hw hK;obtain⟨f0,f1,f2,f3,f4,U⟩:=O it (by simp);exact wpAny_pyNext_range_end (I.ok.hd hc) st (by let:n<=i:=hg;left) λ h' eb=>⟨rfl,I.turned (t':=s.toks) (λ b o q e=>eb b o q e) f0 f1 f3 f4 U⟩
 self:=λ _ _ _ _ _ st h=>wpAny_pyIter_rangeiter st h
end L2
namespace L2
open PySem PySem.Spec PyProof.Rows
section
variable {X:Cx}{tg:uc7}
def iList (K:b8)(tl:TE):TI:=λ σ H R=>tl σ H λ x H1=>ERef x λ a=>(∃ xs,SqL K H1 a xs)/\R (Itl K a) H1
def iTup (K:b8)(tl:TE):TI:=λ σ H R=>tl σ H λ x H1=>ERef x λ a=>(∃ xs,SqT K H1 a xs)/\R (Itt K a) H1
theorem dY {l:uc7}{tl:TE}(hl:PE X l tl):PI X tg l (iList X.K tl):=by
 intro pins s σ H R I h;exact thn (hl pins s σ H _ I h) λ v F ⟨x,H1,z,r1,O⟩=>?_;obtain⟨a,e,⟨xs,U⟩,q⟩:=O;subst e;cases r1;obtain⟨its,rv,p,hz⟩:=z.list U;exact udy p.isList ?_;exact⟨F.heap.objs.size,[F.heap.objs.size],P,H1,rfl,z.kept (t':=F.toks) λ b o e=>a9 _ e,yC a _,⟨_,i9 _ rfl,rfl,rfl⟩,λ b hb=>?_,q⟩;let e:b=F.heap.objs.size:=by simpa using hb
 subst e;exact z.fpOk (i8 _) (z.hok.fresh (i8 _))
theorem cC {l:uc7}{tl:TE}(hl:PE X l tl):PI X tg l (iTup X.K tl):=by
 intro pins s σ H R I h;exact thn (hl pins s σ H _ I h) λ v z ⟨x,H1,F,r1,O⟩=>?_;obtain⟨a,e,⟨xs,U⟩,q⟩:=O;subst e;cases r1;obtain⟨its,rv,p,hz⟩:=F.tuple U;exact ufs (show z.heap.IsTuple a its.toArray from p) ?_;exact⟨z.heap.objs.size,[z.heap.objs.size],P,H1,rfl,F.kept (t':=z.toks) λ b o e=>a9 _ e,wT a _,⟨_,i9 _ rfl,rfl,rfl⟩,λ b hb=>?_,q⟩;let e:b=z.heap.objs.size:=by simpa using hb
 subst e;exact F.fpOk (i8 _) (F.hok.fresh (i8 _))
theorem oK {pins:List (o7 × Obj)}{σ:St}{H:Hp}{s:i6}{R:It->Hp->Prop}{E:i5->i6->Prop}{lo hi:Int}{t u v:Tok}{tk:Nat}(I:Inv X pins σ H s)(h1:-(2^62)<=lo)(h2:lo<2^62)(h3:-(2^62)<=hi)(h4:hi<2^62)
  (q:R (Itr lo (hi-lo).toNat) H):j7 ‹38› X.A (pyIter ‹32›) (PIE X pins σ tg R) E { s with heap:=s.heap.push { cls:=.type "range",data:=.fields #[.int lo t,.int hi u,.int 1 v] },toks:=tk }:=by
 exact wpAny_pyIter_range (IsRange.new ..) (small_one h1 h2 h3 h4) ?_;let z:Inv X pins σ H { s with heap:=s.heap.push { cls:=.type "range",data:=.fields #[.int lo t,.int hi u,.int 1 v] },toks:=tk }:=I.kept λ b o e=>a9 _ e;exact⟨‹69›.objs.size,[‹69›.objs.size],P,H,rfl,
  z.kept (t':=tk) λ b o e=>a9 _ e,wU _ lo (hi-lo).toNat,?_,λ b F=>?_,q⟩
 ·let O:lo+((0:Nat):Int)*1=lo:=by simp
  let e2:(((hi-lo).toNat:Nat):Int)-((0:Nat):Int)=Builtin.Range.rangeSize lo hi 1:=by rw[rangeSize_one];split <;> left
  show IsRangeIter _ _ (lo+((0:Nat):Int)*1) ((((hi-lo).toNat:Nat):Int)-((0:Nat):Int)) 1;rw[O,e2];exact i9 _ rfl
 ·let e:b=‹69›.objs.size:=by simpa using F
  subst e;exact z.fpOk (i8 _) (z.hok.fresh (i8 _))
def iRng1 (ta:TA):TI:=λ σ H R=>ta σ H λ vs H1=>EOne vs λ j=>-(2^62)<=j/\j<2^62/\R (Itr 0 j.toNat) H1
def iRng2 (ta:TA):TI:=λ σ H R=>ta σ H λ vs H1=>∃ i j:Int,vs=[.int i,.int j]/\(-(2^62)<=i/\i<2^62/\-(2^62)<=j/\j<2^62)/\R (Itr i (j-i).toNat) H1
theorem dR {a:uc7}{ta:TA}{p pos:Pos}(hg:Gl X "range")(hm:X.mg "range"=none)(ha:PA X [a] ta)(hs:ubi [a] X.env=[(false,eval a X.env)]:=by rfl):PI X tg (.Call (.Name "range" p) [a] [] pos) (iRng1 ta):=by
 intro pins s σ H R I h;exact Call_ (cW I hg hm boot_range (ubb (thn ‹77› λ us U ⟨vs,H1,O,r1,z⟩=>?_) hs rfl));obtain⟨j,e,z,F,q⟩:=z;subst e;cases r1 with
 | cons r rr =>
  cases rr;obtain⟨t,rfl⟩:=r;exact call_range_1 (oK O (by left) (by left) z F (by simpa using q))
theorem yP {a b:uc7}{ta:TA}{p pos:Pos}(hg:Gl X "range")(hm:X.mg "range"=none)(ha:PA X [a,b] ta)(hs:ubi [a,b] X.env=[(false,eval a X.env),(false,eval b X.env)]:=by rfl)(hs2:ubi [b] X.env=[(false,eval b X.env)]:=by rfl) :
  PI X tg (.Call (.Name "range" p) [a,b] [] pos) (iRng2 ta):=by
 intro pins s σ H R I h;exact Call_ (cW I hg hm boot_range (ubb (thn ‹77› λ us s1 ⟨vs,H1,O,r1,z⟩=>?_) (by rw[hs,hs2]) (by rw[hs2];rfl)));obtain⟨i,j,e,⟨z,F,U,q4⟩,q⟩:=z;subst e;cases r1 with
 | cons r rr =>
  cases rr with
  | cons r' rr =>
   cases rr;obtain⟨t,rfl⟩:=r;obtain⟨t',rfl⟩:=r';exact call_range_2 (oK O z F U q4 q)
def tFor (wi:TI)(g:TG)(tb:TS):TS:=λ D σ H=>wi σ H λ J H1=>∃ W:Nat->Nat->St->Hp->Prop,(∃ m,W 0 m σ H1)/\∀ i m σ H,W i m σ H ->
 (J.stop i H/\D.nx σ H)\/(J.go i H/\∃ N:St->Hp->Prop,(∀ σ' H',N σ' H'->∃ m',m'<m/\W (i+1) m' σ' H')/\∀ x H',J.yld i H x H'->g x σ H' λ q H2=>tb { D with nx:=N,ct:=N,bk:=D.nx } q H2)
def pinsAt (fp:List o7)(h:Heap):List (o7 × Obj):=fp.filterMap λ b=>(h.get? b).map λ o=>(b,o)
theorem gP {fp:List o7}{h:Heap}{b:o7}{o:Obj}(hb:b∈fp)(e:h.get? b=some o):(b,o)∈pinsAt fp h:=ueb.mpr ⟨b,hb,by rw[e];rfl⟩
theorem yX {fp:List o7}{h:Heap}{p:o7 × Obj}(hp:p∈pinsAt fp h):p.1∈fp/\h.get? p.1=some p.2:=by
 obtain⟨b,z,e⟩:=ueb.mp hp;cases q:h.get? b with
 | none=>rw[q] at e;cases e
 | some o =>
  rw[q] at e;let F:(b,o)=p:=uaz e;subst F;exact⟨z,q⟩
theorem Inv.pinned {pins:List (o7 × Obj)}{σ:St}{H:Hp}{s:i6}{fp:List o7}(I:Inv X pins σ H s)(hf:∀ b∈fp,FpOk X pins H b)(ho:∀ b∈fp,∃ o,s.heap.get? b=some o/\∀ v,o.data≠.cell v):Inv X (pins++pinsAt fp s.heap) σ H s :=
 I.pins_of λ p hp=>(uat.mp hp).elim (λ z=>I.pin p (z0 _ z)) λ z=>by
  obtain⟨q,e⟩:=yX z;obtain⟨U,O,f2,_⟩:=hf p.1 q;obtain⟨o,F,d⟩:=ho p.1 q;rw[e] at F;cases F;exact⟨e,U,O,f2,d⟩
theorem Inv.unpinned {pins pl:List (o7 × Obj)}{σ:St}{H:Hp}{s:i6}(I:Inv X (pins++pl) σ H s):Inv X pins σ H s:=I.pins_of λ p q=>I.pin p (z0 _ (ubj _ q))
theorem bW {iter:uc7}{body:List ud3}{wi:TI}{g:TG}{tb:TS}{pos:Pos}(hp:PassesOwn ‹38› X.A X.env X.xe)(hc:X.calm=true)(hi:PI X tg iter wi)(hg:PG X tg g)(hb:PSs X body tb)
  (hs:∀ x,foldedSetIterable iter X.env x=pure x:=by intro _;rfl):PS X (.For tg iter body [] pos) (tFor wi g tb):=by
 intro pins s σ H D I h;exact wpAny_For (thn (hi pins s σ H _ I h) λ v s1 h1=>thn h1 λ al s2 h2=>?_) hs;obtain⟨it,fp,tn,J,H2,e,I2,T,ak,f2,W,⟨m0,w0⟩,ae⟩:=h2;subst e
 let aa:∀ {H':Hp},(∀ b∈fp,H' b=none)->∀ b∈fp,FpOk X pins H' b:=λ hn b hb=>⟨hn b hb,(f2 b hb).2⟩;exact codeAny_forLoop_any (λ n s'=>∃ i σ' H',Inv X pins σ' H' s'/\tn i s'.heap/\(∀ b∈fp,H' b=none)/\W i n σ' H') ?_ m0 ⟨0,σ,H2,I2,ak,λ b hb=>(f2 b hb).1,w0⟩;rintro n s3 ⟨i,O,H3,I3,ad,af,w3⟩;rcases ae i n O H3 w3 with ⟨ac,qn⟩ | ⟨go,N,hN,step⟩
 ·exact udt hp (thn (T.done X rfl rfl rfl hc i pins s3 O H3 X.xe I3 (aa af) ad ac) λ r s4 ⟨hr,I4⟩=>?_);subst hr;exact ugi ⟨O,H3,I4,qn⟩
 ·exact udt hp (thn (T.item X rfl rfl rfl hc i pins s3 O H3 X.xe I3 (aa af) ad go) λ r s4 ⟨u,hr,h4⟩=>?_);subst hr;exact udt hp (thn h4 λ _ s5 ⟨x,H5,I5,r5,y5,ab,ah⟩=>?_);let ai:=I5.pinned (aa ah) (T.obj _ _ ab);exact udt hp (thn (hg _ s5 O H5 x u _ ai r5 (step x H5 y5)) λ _ s6 ⟨aj,H6,I6,q6⟩=>?_);exact udt hp (thn (hb _ s6 aj H6 _ I6 q6) λ f s7 q7=>?_);let F:∀ {q:St}{U:Hp},Inv X (pins++pinsAt fp s5.heap) q U s7->N q U->∃ m,m<n/\∃ i σ' H',Inv X pins σ' H' s7/\tn i s7.heap/\(∀ b∈fp,H' b=none)/\W i m σ' H':=λ {q U} z n7=>by
   obtain⟨m',hm,w7⟩:=hN q U n7;exact⟨m',hm,i+1,q,U,z.unpinned,T.keep _ _ _ ab λ b hb o e=>(z.pin (b,o) (z0 _ (z0 _ (gP hb e)))).1,λ b hb=>?_,w7⟩;obtain⟨o,e,d⟩:=T.obj _ _ ab b hb;exact (z.pin (b,o) (z0 _ (z0 _ (gP hb e)))).2.1
  cases f with
  | next=>obtain⟨q,U,z,n7⟩:=q7;exact F z n7
  | cont=>obtain⟨q,U,z,n7⟩:=q7;exact F z n7
  | brk=>obtain⟨q,U,z,q7⟩:=q7;exact⟨q,U,z.unpinned,q7⟩
  | ret v=>obtain⟨x7,q,U,z,r7,q7⟩:=q7;exact⟨x7,q,U,z.unpinned,r7,q7⟩
end
theorem fQ {K:b8}{a:o7}{xs:List V}{g:TG}{tb:TS}{D:Ends}{σ:St}{H:Hp}(Pv:Nat->St->Hp->Prop)(h0:Pv 0 σ H)(hl:∀ i σ H,i<=xs.length->Pv i σ H->SqT K H a xs)
  (hs:∀ i x σ H,xs[i]?=some x->Pv i σ H->g x σ H λ σ2 H2=>tb { D with nx:=Pv (i+1),ct:=Pv (i+1),bk:=D.nx } σ2 H2) (hd:∀ σ H,Pv xs.length σ H->D.nx σ H) :
  ∃ W:Nat->Nat->St->Hp->Prop,(∃ m,W 0 m σ H)/\∀ i m σ H,W i m σ H ->
   ((Itt K a).stop i H/\D.nx σ H)\/((Itt K a).go i H/\∃ N:St->Hp->Prop,(∀ σ' H',N σ' H'->∃ m',m'<m/\W (i+1) m' σ' H')/\∀ x H',(Itt K a).yld i H x H'->g x σ H' λ σ2 H2=>tb { D with nx:=N,ct:=N,bk:=D.nx } σ2 H2):=by
 exact⟨λ i m σ H=>m=xs.length-i/\i<=xs.length/\Pv i σ H,⟨xs.length,by simp,uae _,h0⟩,?_⟩;rintro i m σ H ⟨rfl,hi,p⟩;let q:=hl i σ H hi p;by_cases z:i<xs.length
 ·exact .inr ⟨⟨xs,xs[i],q,by simp [z]⟩,Pv (i+1),λ σ' H' p'=>⟨xs.length-(i+1),by left,rfl,z,p'⟩,λ x H' y=>?_⟩;obtain⟨e,y⟩:=y;subst e;exact hs i x σ _ (y xs q) p
 ·let e:i=xs.length:=by left
  subst e;exact .inl ⟨⟨xs,q,i8 _⟩,hd σ H p⟩
theorem dE {lo:Int}{n:Nat}{g:TG}{tb:TS}{D:Ends}{σ:St}{H:Hp}(Pv:Nat->St->Hp->Prop)(h0:Pv 0 σ H)
  (hs:∀ i σ H,i<n->Pv i σ H->g (.int (lo+i)) σ H λ σ2 H2=>tb { D with nx:=Pv (i+1),ct:=Pv (i+1),bk:=D.nx } σ2 H2) (hd:∀ σ H,Pv n σ H->D.nx σ H) :
  ∃ W:Nat->Nat->St->Hp->Prop,(∃ m,W 0 m σ H)/\∀ i m σ H,W i m σ H ->
   ((Itr lo n).stop i H/\D.nx σ H)\/((Itr lo n).go i H/\∃ N:St->Hp->Prop,(∀ σ' H',N σ' H'->∃ m',m'<m/\W (i+1) m' σ' H')/\∀ x H',(Itr lo n).yld i H x H'->g x σ H' λ σ2 H2=>tb { D with nx:=N,ct:=N,bk:=D.nx } σ2 H2):=by
 exact⟨λ i m σ H=>m=n-i/\i<=n/\Pv i σ H,⟨n,by simp,uae _,h0⟩,?_⟩;rintro i m σ H ⟨rfl,hi,p⟩;by_cases q:i<n
 ·exact .inr ⟨q,Pv (i+1),λ σ' H' p'=>⟨n-(i+1),by left,rfl,q,p'⟩,λ x H' y=>?_⟩;obtain⟨e,y⟩:=y;subst e y;exact hs i σ _ q p
 ·let e:i=n:=by left
  subst e;exact .inl ⟨i8 _,hd σ H p⟩
end L2
namespace L2
open PySem PySem.Spec PyProof.Rows
abbrev R2:=V->V->Hp->VK->Prop
def OpR (X:Cx)(f:i5->i5->Sem i5)(r:R2):Prop :=
 ∀ (pins:List (o7 × Obj))(s:i6)(σ:St)(H:Hp)(x y:V)(v u:i5)(Q:VK),Inv X pins σ H s->RelV x v->RelV y u->r x y H Q ->
  j7 ‹38› X.A (f v u) ‹121› X.xe s
def UnR (X:Cx)(f:i5->Sem i5)(r:V->Hp->VK->Prop):Prop :=
 ∀ (pins:List (o7 × Obj))(s:i6)(σ:St)(H:Hp)(x:V)(v:i5)(Q:VK),Inv X pins σ H s->RelV x v->r x H Q ->
  j7 ‹38› X.A (f v) ‹121› X.xe s
def CallR (X:Cx)(f:i5)(r:List V->Hp->VK->Prop):Prop :=
 ∀ (pins:List (o7 × Obj))(s:i6)(σ:St)(H:Hp)(xs:List V)(us:List i5)(Q:VK),Inv X pins σ H s->Vals xs us->r xs H Q ->
  j7 ‹38› X.A (call f us) ‹121› X.xe s
def tOp (r:R2)(ta tb:TE):TE:=λ σ H Q=>ta σ H λ x H1=>tb σ H1 λ y H2=>r x y H2 Q
def tUn (r:V->Hp->VK->Prop)(ta:TE):TE:=λ σ H Q=>ta σ H λ x H1=>r x H1 Q
inductive rI_i (C:Int->Int->Prop)(g:Int->Int->V)(x:V)(y:V)(H:Hp)(Q:VK):Prop
 | mk:∀ i j,(x=.int i)->(y=.int j)->(C i j)->(Q (g i j) H)->rI_i C g x y H Q
def rI (C:Int->Int->Prop)(g:Int->Int->V):R2:=λ x y H Q=>rI_i C g x y H Q
inductive rI0_i (g:Int->Int->V)(x:V)(y:V)(H:Hp)(Q:VK):Prop
 | mk:∀ i j,(x=.int i)->(y=.int j)->(Q (g i j) H)->rI0_i g x y H Q
def rI0 (g:Int->Int->V):R2:=λ x y H Q=>rI0_i g x y H Q
inductive rU_i (g:Int->V)(x:V)(H:Hp)(Q:VK):Prop
 | mk:∀ i,(x=.int i)->(Q (g i) H)->rU_i g x H Q
def rU (g:Int->V):V->Hp->VK->Prop:=λ x H Q=>rU_i g x H Q
section
variable {X:Cx}{a b c:uc7}{ta tb tc:TE}{pos:Pos}
theorem binT (ha:PE X a ta)(hb:PE X b tb){pins:List (o7 × Obj)}{s:i6}{σ:St}{H:Hp}{R:V->V->Hp->Prop}(I:Inv X pins σ H s)
  (h:ta σ H λ x H1=>tb σ H1 λ y H2=>R x y H2) {Q:i5->i6->Prop} {f:i5->i5->Sem i5}
  (hf:∀ v u s2 x y H2,Inv X pins σ H2 s2->RelV x v->RelV y u->R x y H2->j7 ‹38› X.A (f v u) Q X.xe s2) :
  j7 ‹38› X.A (eval a X.env) (λ v s₁=>j7 ‹38› X.A (eval b X.env) (λ u s₂=>j7 ‹38› X.A (f v u) Q X.xe s₂) X.xe s₁) X.xe s:=by
 exact thn ‹89› λ v U ⟨x,H1,F,r1,q⟩=>?_;exact thn (hb pins U σ H1 _ F q) λ u s2 ⟨y,H2,O,r2,z⟩=>?_;exact hf v u s2 x y H2 O r1 r2 z
theorem aF {op:Operator}{r:R2}(ho:OpR X (binaryOp op) r)(ha:PE X a ta)(hb:PE X b tb):PE X (.BinOp a op b pos) (tOp r ta tb):=by
 intro pins s σ H Q I h;exact wpAny_BinOp (binT ha hb I h λ v u s2 x y H2 O z F q=>ho pins s2 σ H2 x y v u Q O z F q)
theorem cR {op:UnaryOp}{r:V->Hp->VK->Prop}(ho:UnR X (unaryOp op) r)(ha:PE X a ta):PE X (.UnaryOp op a pos) (tUn r ta):=by
 intro pins s σ H Q I h;exact UnaryOp_ (thn ‹89› λ v F ⟨x,H1,z,r1,q⟩=>ho pins F σ H1 x v Q z r1 q)
theorem opI {f:i5->i5->Sem i5}{C:Int->Int->Prop}{g:Int->Int->Int}
  (rule:∀ (i j:Int)(t u:Tok)(s:i6)(Q:i5->i6->Prop)(E:i5->i6->Prop),C i j->Q (.int (g i j) s.toks) { s with toks:=s.toks+1 }->j7 ‹38› X.A (f (.int i t) (.int j u)) Q E s) :
  OpR X f (rI C λ i j=>.int (g i j)):=by
 intro pins s σ H x y v u Q I F z h;obtain⟨i,j,rfl,rfl,O,q⟩:=h;obtain⟨t,rfl⟩:=F;obtain⟨t',rfl⟩:=z;exact rule i j t t' s _ _ O ⟨.int (g i j),H,I.tok _,⟨A⟩,q⟩
theorem opI0 {f:i5->i5->Sem i5}{g:Int->Int->Int}
  (rule:∀ (i j:Int)(t u:Tok)(s:i6)(Q:i5->i6->Prop)(E:i5->i6->Prop),Q (.int (g i j) s.toks) { s with toks:=s.toks+1 }->j7 ‹38› X.A (f (.int i t) (.int j u)) Q E s) :
  OpR X f (rI0 λ i j=>.int (g i j)):=by
 intro pins s σ H x y v u Q I F z h;obtain⟨i,j,rfl,rfl,q⟩:=h;obtain⟨t,rfl⟩:=F;obtain⟨t',rfl⟩:=z;exact rule i j t t' s _ _ ⟨.int (g i j),H,I.tok _,⟨A⟩,q⟩
theorem opB0 {f:i5->i5->Sem i5}{g:Int->Int->Bool}
  (rule:∀ (i j:Int)(t u:Tok)(s:i6)(Q:i5->i6->Prop)(E:i5->i6->Prop),Q (.bool (g i j)) s->j7 ‹38› X.A (f (.int i t) (.int j u)) Q E s) :
  OpR X f (rI0 λ i j=>.bl (g i j)):=by
 intro pins s σ H x y v u Q I F z h;obtain⟨i,j,rfl,rfl,q⟩:=h;obtain⟨t,rfl⟩:=F;obtain⟨t',rfl⟩:=z;exact rule i j t t' s _ _ ⟨.bl (g i j),H,I,rfl,q⟩
def CDiv (i j:Int):Prop:=0<j/\j<1073741824
def CPow (i j:Int):Prop:=0<=j/\j<=1000000/\i.natAbs<2^64
def CMul (i j:Int):Prop:=(-(2^64)<i/\i<2^64)\/(-(2^64)<j/\j<2^64)
theorem CMul.ok {i j:Int}(h:CMul i j):IntMulOk i j:=by
 rcases h with ⟨h1,h2⟩ | ⟨h1,h2⟩
 ·exact .of_left (intBits_le_64 h1 h2)
 ·exact .of_right (intBits_le_64 h1 h2)
theorem bI:OpR X (binaryOp .Add) (rI0 λ i j=>.int (i+j)):=opI0 λ _ _ _ _ _ _ _ q=>add_int q
theorem cF:OpR X (binaryOp .Sub) (rI0 λ i j=>.int (i-j)):=opI0 λ _ _ _ _ _ _ _ q=>sub_int q
theorem fX:OpR X (binaryOp .Mult) (rI CMul λ i j=>.int (i*j)):=opI λ _ _ _ _ _ _ _ z q=>mul_int q z.ok
theorem pW:OpR X (binaryOp .FloorDiv) (rI CDiv λ i j=>.int (i / j)):=opI λ i j _ _ _ _ _ z q=>by
 let h1:(0:Int)<j:=z.1;let h2:j<1073741824:=z.2;exact floordiv_int (by left) (by rw[Int.fdiv_eq_ediv_of_nonneg i (by left)];exact q) (.inl (PyProof.noPylong_small (by left)))
theorem cP:OpR X (binaryOp .Mod) ‹101›:=opI λ i j _ _ _ _ _ z q=>by
 let h1:(0:Int)<j:=z;exact mod_int' (by left) (by rw[Int.fmod_eq_emod_of_nonneg i (by left)];exact q)
theorem bS:OpR X (binaryOp .Pow) (rI CPow λ i j=>.int (i^j.toNat)):=opI λ _ _ _ _ _ _ _ z q=>pow_int_small z.1 z.2.1 z.2.2 q
theorem unI {f:i5->Sem i5}{g:Int->Int}
  (rule:∀ (i:Int)(t:Tok)(s:i6)(Q:i5->i6->Prop)(E:i5->i6->Prop),Q (.int (g i) s.toks) { s with toks:=s.toks+1 }->j7 ‹38› X.A (f (.int i t)) Q E s) :
  UnR X f (rU λ i=>.int (g i)):=by
 intro pins s σ H x v Q I z h;obtain⟨i,rfl,q⟩:=h;obtain⟨t,rfl⟩:=z;exact rule i t s _ _ ⟨.int (g i),H,I.tok _,⟨A⟩,q⟩
theorem cN:UnR X (unaryOp .USub) (rU λ i=>.int (-i)):=unI λ _ _ _ _ _ q=>neg_int q
end
def scal:V->V->Bool
 | .non,.non=>true | .non,.int _=>true | .int _,.non=>true | .non,.bl _=>true | .bl _,.non=>true | .non,.str _=>true | .str _,.non=>true
 | .int _,.int _=>true | .bl _,.bl _=>true | .str _,.str _=>true | .byt _,.byt _=>true
 | .int _,.str _=>true | .str _,.int _=>true | .bl _,.str _=>true | .str _,.bl _=>true
 | _,_=>false
def rEq:R2:=λ x y H Q=>scal x y=true/\Q (.bl (decide (x=y))) H
def rNe:R2:=λ x y H Q=>scal x y=true/\Q (.bl (!decide (x=y))) H
theorem qE {i j:Int}:decide (V.int i=V.int j)=(i==j):=by
 rw[udm];simp
theorem rA {i j:Bool}:decide (V.bl i=V.bl j)=(i==j):=by
 rw[udm];simp
theorem qD {i j:Str}:decide (V.str i=V.str j)=(i==j):=by
 rw[udm];simp
theorem qF {i j:Array UInt8}:decide (V.byt i=V.byt j)=(i.toList==j.toList):=by
 rw[udm];cases i;cases j;simp
section
variable {X:Cx}{a b c:uc7}{ta tb tc:TE}{pos:Pos}
theorem aX {pins:List (o7 × Obj)}{σ:St}{H:Hp}{s:i6}{Q:VK}{k k':Bool}(I:Inv X pins σ H s)(q:Q (.bl k) H)(e:k=k'):EP X pins σ Q (.bool k') s:=by
 subst e;exact⟨.bl k,H,I,rfl,q⟩
theorem aV:OpR X (compareOp .Eq) rEq:=by
 intro pins s σ H x y v u Q I F z h;obtain⟨hs,q⟩:=h;cases x with
 | non =>
  cases F;cases y with
  | non=>cases z;exact PySem.EqNone.eq_none_none ‹52›
  | bl j=>cases z;exact PySem.EqNone.eq_none_bool ‹52›
  | int j=>obtain⟨t',rfl⟩:=z;exact PySem.EqNone.eq_none_int ‹52›
  | str j=>obtain⟨t',rfl⟩:=z;exact PySem.EqNone.eq_none_str ‹52›
  | _=>exact absurd ‹57› p6
 | bl i =>
  cases F;cases y with
  | non=>cases z;exact PySem.EqNone.eq_bool_none ‹52›
  | bl j=>cases z;exact eq_bool (aX I q rA)
  | str j=>obtain⟨t',rfl⟩:=z;exact PySem.EqMixed.eq_bool_str ‹52›
  | _=>exact absurd ‹57› p6
 | int i =>
  obtain⟨t,rfl⟩:=F;cases y with
  | non=>cases z;exact PySem.EqNone.eq_int_none ‹52›
  | int j=>obtain⟨t',rfl⟩:=z;exact eq_int (aX I q qE)
  | str j=>obtain⟨t',rfl⟩:=z;exact PySem.EqMixed.eq_int_str ‹52›
  | _=>exact absurd ‹57› p6
 | str i =>
  obtain⟨t,rfl⟩:=F;cases y with
  | non=>cases z;exact PySem.EqNone.eq_str_none ‹52›
  | bl j=>cases z;exact PySem.EqMixed.eq_str_bool ‹52›
  | int j=>obtain⟨t',rfl⟩:=z;exact PySem.EqMixed.eq_str_int ‹52›
  | str j=>obtain⟨t',rfl⟩:=z;exact eq_str (aX I q qD)
  | _=>exact absurd ‹57› p6
 | byt i =>
  obtain⟨t,rfl⟩:=F;cases y with
  | byt j=>obtain⟨t',rfl⟩:=z;exact PySem.W.eq_bytes (aX I q qF)
  | _=>exact absurd ‹57› p6
 | _=>cases y <;> exact absurd ‹57› p6
theorem eF:OpR X (compareOp .NotEq) rNe:=by
 intro pins s σ H x y v u Q I F z h;obtain⟨hs,q⟩:=h;cases x with
 | non =>
  cases F;cases y with
  | non=>cases z;exact PySem.EqNone.ne_none_none ‹52›
  | bl j=>cases z;exact PySem.EqNone.ne_none_bool ‹52›
  | int j=>obtain⟨t',rfl⟩:=z;exact PySem.EqNone.ne_none_int ‹52›
  | str j=>obtain⟨t',rfl⟩:=z;exact PySem.EqNone.ne_none_str ‹52›
  | _=>exact absurd ‹57› p6
 | bl i =>
  cases F;cases y with
  | non=>cases z;exact PySem.EqNone.ne_bool_none ‹52›
  | bl j=>cases z;exact ne_bool (aX I q (congrArg not rA))
  | str j=>obtain⟨t',rfl⟩:=z;exact PySem.EqMixed.ne_bool_str ‹52›
  | _=>exact absurd ‹57› p6
 | int i =>
  obtain⟨t,rfl⟩:=F;cases y with
  | non=>cases z;exact PySem.EqNone.ne_int_none ‹52›
  | int j=>obtain⟨t',rfl⟩:=z;exact ne_int (aX I q (congrArg not qE))
  | str j=>obtain⟨t',rfl⟩:=z;exact PySem.EqMixed.ne_int_str ‹52›
  | _=>exact absurd ‹57› p6
 | str i =>
  obtain⟨t,rfl⟩:=F;cases y with
  | non=>cases z;exact PySem.EqNone.ne_str_none ‹52›
  | bl j=>cases z;exact PySem.EqMixed.ne_str_bool ‹52›
  | int j=>obtain⟨t',rfl⟩:=z;exact PySem.EqMixed.ne_str_int ‹52›
  | str j=>obtain⟨t',rfl⟩:=z;exact ne_str (aX I q (congrArg not qD))
  | _=>exact absurd ‹57› p6
 | byt i =>
  obtain⟨t,rfl⟩:=F;cases y with
  | byt j=>obtain⟨t',rfl⟩:=z;exact PySem.W.ne_bytes (aX I q (congrArg not qF))
  | _=>exact absurd ‹57› p6
 | _=>cases y <;> exact absurd ‹57› p6
theorem cS:OpR X (compareOp .Lt) (rI0 λ i j=>.bl (decide (i<j))):=opB0 λ _ _ _ _ _ _ _ q=>lt_int q
theorem kQ:OpR X (compareOp .LtE) (rI0 λ i j=>.bl (decide (i<=j))):=opB0 λ _ _ _ _ _ _ _ q=>le_int q
theorem eT:OpR X (compareOp .Gt) (rI0 λ i j=>.bl (decide (j<i))):=opB0 λ _ _ _ _ _ _ _ q=>gt_int q
theorem rK:OpR X (compareOp .GtE) (rI0 λ i j=>.bl (decide (j<=i))):=opB0 λ _ _ _ _ _ _ _ q=>ge_int q
theorem dN:OpR X (compareOp .Is) (λ x y H Q=>y=.non/\Q (.bl (decide (x=.non))) H):=by
 intro pins s σ H x y v u Q I z F h;obtain⟨rfl,q⟩:=h;cases F;exact is_none_gen (aX I q ?_);cases x <;> first
  | (cases z;rfl)
  | (obtain⟨t,rfl⟩:=z;rfl)
theorem jY:OpR X (compareOp .IsNot) (λ x y H Q=>y=.non/\Q (.bl (!decide (x=.non))) H):=by
 intro pins s σ H x y v u Q I z F h;obtain⟨rfl,q⟩:=h;cases F;exact isnot_none_gen (aX I q ?_);cases x <;> first
  | (cases z;rfl)
  | (obtain⟨t,rfl⟩:=z;rfl)
theorem nomark (b:uc7){op:CmpOp}(h:op≠.In:=by decide)(h2:op≠.NotIn:=by decide):behindInMarks op b=false:=by
 let q:(op==CmpOp.In)=false:=by cases op <;> first | rfl | exact absurd rfl h
 let e2:(op==CmpOp.NotIn)=false:=by cases op <;> first | rfl | exact absurd rfl h2
 cases b <;> simp [behindInMarks,q,e2]
theorem aZ {op:CmpOp}{r:R2}(ho:OpR X (compareOp op) r)(ha:PE X a ta)(hb:PE X b tb)(hm:behindInMarks op b=false):PE X (.Compare a [op] [b] pos) (tOp r ta tb):=by
 intro pins s σ H Q I h;exact wpAny_Compare1 (binT ha hb I h λ v u s2 x y H2 O z F q=>ho pins s2 σ H2 x y v u Q O z F q) hm
def tTest (t:TE):TT:=λ σ H Q=>t σ H λ x H'=>EBl x λ k=>Q k H'
theorem aO {op:CmpOp}{r:R2}(ho:OpR X (compareOp op) r)(ha:PE X a ta)(hb:PE X b tb)(hm:behindInMarks op b=false):PT X (.Compare a [op] [b] pos) (tTest (tOp r ta tb)):=by
 intro pins s σ H Q I h;exact wpAny_isTrue_Compare1 (thn ‹89› λ v s1 ⟨x,H1,O,r1,q⟩=>thn (hb pins s1 σ H1 _ O q) λ u s2 ⟨y,H2,I2,r2,F⟩ =>
  thn (ho pins s2 σ H2 x y v u _ I2 r1 r2 F) λ c s3 ⟨z,H3,I3,r3,k,e,U⟩=>?_) hm
 subst e;cases r3;exact ucy ⟨H3,I3,U⟩
def tChain (r r':R2)(ta tb tc:TE):TE:=λ σ H Q=>ta σ H λ x H1=>tb σ H1 λ y H2=>r x y H2 λ z H3=>EBl z λ k=>(if k=true then tc σ H3 λ q F=>r' y q F Q else Q (.bl false) H3)
theorem oO {op op':CmpOp}{r r':R2}(ho:OpR X (compareOp op) r)(ho':OpR X (compareOp op') r')(ha:PE X a ta)(hb:PE X b tb)(hc:PE X c tc)
  (hm:lastMarks [op,op'] [b,c]=false:=by with_unfolding_all rfl):PE X (.Compare a [op,op'] [b,c] pos) (tChain r r' ta tb tc):=by
 intro pins s σ H Q I h;exact Compare_chain (thn ‹89› λ v s1 ⟨x,H1,I1,r1,O⟩=>chain_link (thn (hb pins s1 σ H1 _ I1 O) λ u s2 ⟨y,H2,I2,r2,q2⟩ =>
  thn (ho pins s2 σ H2 x y v u _ I2 r1 r2 q2) λ d s3 ⟨z,H3,F,r3,k,e,q⟩=>?_)) hm
 subst e;cases r3;exact ucy ?_;cases k with
 | false=>exact ite_ff ⟨.bl false,H3,F,rfl,q⟩
 | true=>exact ite_tt (chain_last (thn (hc pins s3 σ H3 _ F q) λ w' s4 ⟨z',H4,I4,U,q4⟩=>ho' pins s4 σ H4 y z' u w' Q I4 r2 U q4))
theorem line63:(p8:Nat)<2^63:=by rw[ubn];decide
theorem vals1 {x:V}{us:List i5}(r:Vals [x] us):∃ u,us=[u]/\RelV x u:=by
 cases r with
 | cons r1 r2=>cases r2;exact⟨A,r1⟩
theorem vals2 {x y:V}{us:List i5}(r:Vals [x,y] us):∃ u w',us=[u,w']/\RelV x u/\RelV y w':=by
 cases r with
 | cons r1 r2 =>
  cases r2 with
  | cons r3 r4=>cases r4;exact⟨_,A,r1,r3⟩
inductive call_abs_i  (xs:List V) (H:Hp) (Q:VK):Prop
 | mk:∀ i,(xs=[.int i])->(Q (.int (if i<0 then -i else i)) H)->call_abs_i xs H Q
theorem pF:CallR X (.builtin "abs") (call_abs_i):=by
 intro pins s σ H xs us Q I r h;obtain⟨i,rfl,q⟩:=h;obtain⟨u,rfl,t,rfl⟩:=vals1 r;exact call_abs_int λ u tk=>⟨.int (if i<0 then -i else i),H,I.tok _,⟨_,rfl⟩,q⟩
theorem jG (hc:X.calm=true):CallR X (.builtin "max") (λ xs H Q=>∃ i j,xs=[.int i,.int j]/\Q (.int (if j>i then j else i)) H):=by
 intro pins s σ H xs us Q I r h;obtain⟨i,j,rfl,q⟩:=h;obtain⟨u,F,rfl,⟨t,rfl⟩,⟨t',rfl⟩⟩:=vals2 r;exact max_two_ints (I.ok.hd hc) λ h' tk k=>⟨_,H,I.kept k,?_,q⟩;by_cases z:j>i
 ·rw[uh2 z,uh2 z];exact⟨A⟩
 ·rw[uh3 z,uh3 z];exact⟨A⟩
inductive call_min2_i  (xs:List V) (H:Hp) (Q:VK):Prop
 | mk:∀ i j,(xs=[.int i,.int j])->(Q (.int (if j<i then j else i)) H)->call_min2_i xs H Q
theorem jF (hc:X.calm=true):CallR X (.builtin "min") (call_min2_i):=by
 intro pins s σ H xs us Q I r h;obtain⟨i,j,rfl,q⟩:=h;obtain⟨u,F,rfl,⟨t,rfl⟩,⟨t',rfl⟩⟩:=vals2 r;exact min_two_ints (I.ok.hd hc) λ h' tk k=>⟨_,H,I.kept k,?_,q⟩;by_cases z:j<i
 ·rw[uh2 z,uh2 z];exact⟨A⟩
 ·rw[uh3 z,uh3 z];exact⟨A⟩
theorem zZ:CallR X (.type "int") (λ xs H Q=>(∃ i,xs=[.int i]/\Q (.int i) H)\/∃ k,xs=[.bl k]/\Q (.int (if k then 1 else 0)) H):=by
 intro pins s σ H xs us Q I r h;rcases h with ⟨i,rfl,q⟩ | ⟨k,rfl,q⟩
 ·obtain⟨u,rfl,t,rfl⟩:=vals1 r;exact call_int_int ⟨.int i,H,I,⟨A⟩,q⟩
 ·obtain⟨u,rfl,r1⟩:=vals1 r;cases r1;exact call_int_bool ⟨.int (if k then 1 else 0),H,I.tok _,⟨A⟩,q⟩
end
end L2
namespace L2
open PySem PySem.Spec PyProof.Rows
structure ObjM (h:Heap)(x dx C:o7)(mA:Str->Option i5):Prop where
 obj:h.get? x=some (ugx C dx)
 ns:h.Ns1 dx mA
 ne:dx≠x
theorem zC {h:Heap}{dx:o7}{mA:Str->Option i5}(n:h.Ns1 dx mA):∃ od,h.get? dx=some od/\∀ name,ug6 name od=some (mA name):=by
 obtain⟨o,es,ep,ho,O,hk,_,U⟩:=n;refine⟨o,ho,λ name=>?_⟩;have e:=U name;unfold nsFind findBy at e;rw[← Array.find?_toList] at e;unfold ug6;rw[O];dsimp only;split
 ·rename_i y q;rw[q] at e;exact congrArg some e
 ·rename_i q;rw[q] at e;let a:es.toList.any (·.refKey)=false:=by
   rw[List.any_eq_false];intro y hy;obtain⟨z,t,F⟩:=hk y (Array.mem_toList_iff.mp hy);simp [DictEntry.refKey,F]
  let a':¬ es.toList.any (·.refKey)=true:=by rw[a];exact p6
  rw[uh3 a'];exact congrArg some e
theorem ObjM.look {h:Heap}{x dx C:o7}{mA:Str->Option i5}(I:ObjM h x dx C mA):∃ od,PySem.W.InstAt h x (ugx C dx) C (some od)/\∀ name,ug6 name od=some (mA name) :=
 let ⟨od,q,hl⟩:=zC I.ns
 ⟨od,⟨I.obj,rfl,rfl,q⟩,hl⟩
section
variable {prog:o9}{w:uaw}{A:uax}{E:i5->i6->Prop}{s:i6}{K:b8}{x dx C f:o7}{mA:Str->Option i5}{name:Str}{v:i5}
end
theorem RelO.some_of {v:V}{o:Option i5}(r:RelO (some v) o):∃ u,o=some u/\RelV v u:=by
 cases o with
 | none=>exact (show False from r).elim
 | some u=>exact⟨u,rfl,r⟩
section
variable {P:o9}{w:uaw}{H H':Hp}{h h':Heap}{a C dx:o7}{fs fs':List (Str × V)}
theorem zc2 (hok:HOk P w H h)(e:H a=some (.ins C dx fs)):∃ mA,ObjM h a dx C mA/\(∀ f,RelO (fs.lookup f) (mA f))/\PySem.Within mA (fs.map (·.1))/\fs.length<=1000/\H dx=some (.own a):=by
 obtain⟨d,z,O,F,mA,n,r,q⟩:=(show ObjOk P w H h a (.ins C dx fs) from hok a _ e);exact⟨mA,⟨F,n,O⟩,r,q,z,d⟩
end
structure Cls (K:b8)(C:o7):Prop where
 pg:PySem.W.plainGet K C Str.empty=true
 hd:PySem.W.hasDictIn K C=true
 po:PySem.W.plainOver K C=true
 sa:ug7 K (.ref C) "__setattr__"=some (some (.builtin "object.__setattr__"))
theorem Cls.get {K:b8}{C:o7}(c:Cls K C)(f:Str):PySem.W.plainGet K C f=true:=c.pg
structure Con (K:b8)(C:o7)(f:Str)(v:V)(u:i5):Prop where
 at_:ug7 K (.ref C) f=some (some u)
 rel:RelV v u
 get:PySem.W.specialIn K u "__get__"=some none
 cp:PySem.W.copiedNames.contains f=false
section
variable {X:Cx}{pins:List (o7 × Obj)}{σ:St}{H:Hp}{s:i6}{a C dx:o7}{fs:List (Str × V)}{f:Str}{v:V}{A:uax}{E:i5->i6->Prop}
end
section
variable {X:Cx}{o e value:uc7}{f:Str}{pos pos' tpos:Pos}{ta tv:TE}
end
section
variable {X:Cx}{pins:List (o7 × Obj)}{σ:St}{H:Hp}{s:i6}{A:uax}{E:i5->i6->Prop}{Q:i5->i6->Prop}{c:i5}{b:Bool}
inductive TyOf (K:b8)(H:Hp):V->i5->Prop where
 | non:TyOf K H .non (.type "NoneType")
 | bl (x:Bool):TyOf K H (.bl x) (.type "bool")
 | int (i:Int):TyOf K H (.int i) (.type "int")
 | str (x:Str):TyOf K H (.str x) (.type "str")
 | flt (x:UInt64):TyOf K H (.flt x) (.type "float")
 | lst {a:o7} {xs:List V} (e:H a=some (.lst xs)):TyOf K H (.ref a) (.type "list")
 | frz {a:o7} {o:Obj} {xs:List V} (e:H a=some (.frz o (.lst xs))):TyOf K H (.ref a) (.type "list")
 | tup {a:o7} {xs:List V} (e:H a=some (.tup xs)):TyOf K H (.ref a) (.type "tuple")
 | dK {a:o7} {kvs:List (Key × V)} (e:H a=some (.dK kvs)):TyOf K H (.ref a) (.type "dict")
 | dT {a:o7} {kvs:List (List Key × V)} (e:H a=some (.dT kvs)):TyOf K H (.ref a) (.type "dict")
 | ins {a C dx : o7} {fs : List (Str × V)} (e : H a = some (.ins C dx fs)) (cl : Cls K C) (ha : ug7 K (.ref C) "__class__" = some (some (.builtin "object.__class__")))
     (hn:PySem.W.specialIn K (.builtin "object.__class__") "__get__"=some (some (.builtin "getset_descriptor.__get__"))) (htk:PySem.W.takesIn K (.builtin "object.__class__")=some true)
     (hm:PySem.W.mroIn K C (.type "object")=some true):TyOf K H (.ref a) (.ref C)
theorem zJ {x:V}{u t:i5}(I:Inv X pins σ H s)(rx:RelV x u)(ty:TyOf X.K H x t)(e:PySem.W.kitOne X.K t c=some b)(h:∀ tk,Q (.bool b) { s with toks:=tk }) :
  j7 ‹38› A (call (.builtin "isinstance") [u,c]) Q E s:=by
 cases ty with
 | non=>cases (show u=Value.none from rx);exact ub5 PySem.W.kitx_none I.kIn True.intro e ‹94› h
 | bl y=>cases (show u=Value.bool y from rx);exact ub5 PySem.W.kitx_bool I.kIn True.intro e ‹94› h
 | int i=>obtain⟨t,q⟩:=(show ∃ t,u=Value.int i t from rx);cases q;exact ub5 PySem.W.kitx_int I.kIn True.intro e ‹94› h
 | str y=>obtain⟨t,q⟩:=(show ∃ t,u=Value.str y t from rx);cases q;exact ub5 PySem.W.kitx_str I.kIn True.intro e ‹94› h
 | flt y=>obtain⟨t,q⟩:=(show ∃ t,u=Value.float y t from rx);cases q;exact ub5 PySem.W.kitx_float I.kIn True.intro e ‹94› h
 | @lst a xs ea =>
  cases ‹107›;obtain⟨_,_,n,_,h1⟩:=(show ObjOk X.prog X.w H s.heap a (.lst xs) from I.hok a _ ea);exact ub5 PySem.W.kitx_list I.kIn ⟨_,h1,rfl⟩ e ‹94› h
 | @frz a ob xs ea =>
  cases ‹107›;obtain⟨_,_,_,n,_,h1⟩:=(show ObjOk X.prog X.w H s.heap a (.frz ob (.lst xs)) from I.hok a _ ea);exact ub5 PySem.W.kitx_list I.kIn ⟨_,h1,rfl⟩ e ‹94› h
 | @tup a xs ea =>
  cases ‹107›;obtain⟨_,_,_,p⟩:=(show ObjOk X.prog X.w H s.heap a (.tup xs) from I.hok a _ ea);obtain⟨o,h1,h2,_⟩:=p;exact ub5 PySem.W.kitx_tuple I.kIn ⟨o,h1,h2⟩ e ‹94› h
 | @dK a kvs ea =>
  cases ‹107›;obtain⟨_,_,vs,_,p⟩:=(show ObjOk X.prog X.w H s.heap a (.dK kvs) from I.hok a _ ea);obtain⟨o,es,ep,h1,h2,_⟩:=p;exact ub5 PySem.W.kitx_dict I.kIn ⟨o,h1,h2.1⟩ e ‹94› h
 | @dT a kvs ea =>
  cases ‹107›;obtain⟨_,_,xs,_,o,es,ep,h1,h2,_⟩:=(show ObjOk X.prog X.w H s.heap a (.dT kvs) from I.hok a _ ea);exact ub5 PySem.W.kitx_dict I.kIn ⟨o,h1,h2.1⟩ e ‹94› h
 | @ins a C dx fs ea cl ha hn htk hm =>
  cases ‹107›;obtain⟨mA,O,_⟩:=zc2 I.hok ea;obtain⟨F,J,_⟩:=O.look;exact ub5 (PySem.W.kitx_own (cl.get _) cl.hd ha hn htk hm) I.kIn J e ‹94› h
end
end L2
namespace L2
open PySem PySem.Spec PyProof.Rows
structure Room (k:Nat)(A:uax):Prop where
 hd:A.handled=none
 dp:A.depth+3*k+5<recursionLimit
 un:A.units+16*k+200<cLine
 gd:A.guards=some []
theorem Room.mono {j k:Nat}{A:uax}(r:Room k A)(h:j<=k):Room j A:=⟨r.hd,by let:=r.dp;left,by let:=r.un;left,r.gd⟩
theorem Room.deeper {k:Nat}{A:uax}(r:Room (k+1) A)(env:Env):Room k (A.deeper env) :=
 ⟨r.hd,by let:=r.dp;show A.depth+1+3*k+5<_;left,by let:=r.un;show A.units+3+16*k+200<_;left,r.gd⟩
theorem Room.depth {k:Nat}{A:uax}(r:Room k A):A.depth<recursionLimit:=by let:=r.dp;left
theorem Room.units {k:Nat}{A:uax}(r:Room k A):A.units+64<cLine:=by let:=r.un;left
theorem Room.units0 {k:Nat}{A:uax}(r:Room k A):A.units<cLine:=by let:=r.un;left
def tNil:TA:=λ _ H Q=>Q [] H
def tCons (ta:TE)(tr:TA):TA:=λ σ H Q=>ta σ H λ x H1=>tr σ H1 λ xs H2=>Q (x::xs) H2
section
variable {X:Cx}{e:uc7}{es:List uc7}{te:TE}{t:TA}{pos:Pos}
theorem aB:PA X [] tNil:=λ _ _ _ _ H Q I h=>Calls.spliced_nil ⟨[],H,I,.nil,h⟩
theorem aA (ha:PE X e te)(hr:PA X es t)(hs:ubi (e::es) X.env=(false,eval e X.env)::ubi es X.env:=by rfl):PA X (e::es) (tCons te t):=by
 intro pos pins s σ H Q I h;rw[hs];show j7 _ _ (spliced ((false,eval e X.env)::backTo pos (ubi es X.env))) _ _ s;exact Calls.spliced_cons (thn ‹89› λ u U ⟨x,H1,F,r1,q⟩=>?_);exact thn (hr pos pins U σ H1 _ F q) λ us s2 ⟨xs,H2,O,r2,z⟩=>⟨x::xs,H2,O,.cons r1 r2,z⟩
def tTup (t:TA):TE:=λ σ H Q=>t σ H λ xs H1=>xs.length<=p8/\∀ p,H1 p=none->Q (.ref p) (upd H1 p (.tup xs))
def tLst (t:TA):TE:=λ σ H Q=>t σ H λ xs H1=>xs.length<=p8/\∀ p,H1 p=none->Q (.ref p) (upd H1 p (.lst xs))
theorem qP {x1} (h:PA X es t):PE X (.Tuple es x1 pos) (tTup t):=by
 intro pins s σ H Q I U;refine wpAny_Tuple_spliced (thn (h pos pins s σ H _ I U) λ us F ⟨xs,H1,O,r,z,q⟩=>⟨by rw[← r.length];exact z,?_⟩);have hf:H1 F.heap.objs.size=none:=O.hok.fresh (i8 _);refine⟨.ref F.heap.objs.size,upd H1 F.heap.objs.size (.tup xs),O.laid (t':=F.toks) (λ b u e=>a9 _ e) (i8 _) ?_,rfl,q _ hf⟩;exact⟨z,us,r,⟨_,i9 _ rfl,rfl,⟨A⟩,rfl⟩⟩
theorem eC (h:PA X es t):PE X (.List es pos) (tLst t):=by
 intro pins s σ H Q I U;refine wpAny_List_spliced (thn (h pos pins s σ H _ I U) λ us F ⟨xs,H1,O,r,z,q⟩=>⟨by rw[← r.length];exact z,?_⟩);have hf:H1 F.heap.objs.size=none:=O.hok.fresh (i8 _);refine⟨.ref F.heap.objs.size,upd H1 F.heap.objs.size (.lst xs),O.laid (t':=F.toks) (λ b u e=>a9 _ e) (i8 _) ?_,rfl,q _ hf⟩;exact⟨z,us,0,r,i9 _ rfl⟩
end
abbrev Sp:=List V->Hp->VK->XK->Prop
abbrev CXT:=List Env->Hp->i6->XK->i5->i6->Prop
structure Env0 (P:o9)(w:uaw)(K:b8)(mg:Str->Option i5)(base:Heap)(A:uax)(outer:List Env)(s:i6)(H:Hp):Prop where
 frames:A.frames=some outer
 mod:Mod K mg base
 bs:∀ b o,base.get? b=some o->s.heap.get? b=some o/\H b=none
 bsz:base.objs.size<=‹128›
 funs:s.heap.FunFrames base outer
 frf:∀ b∈frs outer,H b=none
 hok:HOk P w H s.heap
 bare:AllBare s.gens
def CE (outer:List Env)(P:o9)(w:uaw)(H:Hp)(s:i6)(Q:VK)(u:i5)(s':i6):Prop :=
 ∃ v H',s'.os=s.os/\AllBare s'.gens/\Un (frs outer) [] H H' s.heap s'.heap/\HOk P w H' s'.heap/\RelV v u/\Q v H'
def CR (CX:CXT)(outer:List Env)(P:o9)(w:uaw)(H:Hp)(s:i6)(Q:VK)(E:XK)(r:Result)(s':i6):Prop :=
 match r with
 | .ok (.ret u)=>CE outer P w H s Q u s'
 | .ok _=>False
 | .error e=>CX outer H s E e s'
structure FnOk (P:o9)(w:uaw)(K:b8)(mg:Str->Option i5)(base:Heap)(CX:CXT)(k:Nat)(f:o7)(fd:FuncData)(ps:List Str)(sp:Sp):Prop where
 len:∀ vs H Q E,sp vs H Q E->vs.length=ps.length
 run:∀ (A:uax)(outer:List Env)(s:i6)(H:Hp)(args:Args)(us:List i5)(vs:List V)(Q:VK)(E:XK),Room k A->Env0 P w K mg base A outer s H->BindsTo s fd args (ps.zip us)->Vals vs us->sp vs H Q E ->
  codeAny (v4 P w) A (.call (.ref f) args) (CR CX outer P w H s Q E) s
theorem FnOk.mono {P:o9}{w:uaw}{K:b8}{mg:Str->Option i5}{base:Heap}{CX:CXT}{j k:Nat}{f:o7}{fd:FuncData}{ps:List Str}{sp:Sp}(F:FnOk P w K mg base CX j f fd ps sp)(h:j<=k) :
  FnOk P w K mg base CX k f fd ps sp:=⟨F.len,λ A outer s H q us vs Q E hr=>F.run A outer s H q us vs Q E (hr.mono h)⟩
theorem FnOk.imp {P:o9}{w:uaw}{K:b8}{mg:Str->Option i5}{base:Heap}{CX:CXT}{k:Nat}{f:o7}{fd:FuncData}{ps:List Str}{sp sp':Sp}(F:FnOk P w K mg base CX k f fd ps sp)
  (h:∀ vs H Q E,sp' vs H Q E->sp vs H Q E):FnOk P w K mg base CX k f fd ps sp' :=
 ⟨λ vs H Q E q=>F.len vs H Q E (h _ _ _ _ q),λ A outer s H z us vs Q E hr U O hv hs=>F.run A outer s H z us vs Q E hr U O hv (h _ _ _ _ hs)⟩
section
variable {X:Cx}{pins:List (o7 × Obj)}{σ:St}{H:Hp}{s s':i6}
theorem Inv.env0 (I:Inv X pins σ H s):Env0 X.prog X.w X.K X.mg X.base X.A X.stack s H :=
 ⟨I.ok.frames,I.ok.mod,I.bs,uaj I.ok.bsz I.sz,I.stack,I.stkFree,I.hok,I.bare⟩
theorem Inv.after {Q:VK}{u:i5}(I:Inv X pins σ H s)(h:CE X.stack X.prog X.w H s Q u s'):EP X pins σ Q u s':=by
 obtain⟨v,H',os,F,un,U,r,q⟩:=h;obtain⟨hh,g,d,t,O⟩:=s';obtain rfl:O=s.os:=os;exact⟨v,H',I.call (h':=hh) (g':=g) (d':=d) (t':=t) (ch:=[]) un U F (λ b z=>absurd z (by simp)),r,q⟩
end
def tCall (sp:Sp)(dvs:List V)(E:XK)(t:TA):TE:=λ σ H Q=>t σ H λ vs H1=>sp (vs++dvs) H1 Q E
def Binds (K:b8)(fd:FuncData)(ps:List Str)(ds:List i5):Prop :=
 ∀ (s:i6)(us:List i5),K.In s.heap->(us++ds).length=ps.length->BindsTo s fd ⟨us,[]⟩ (ps.zip (us++ds))
theorem Binds.all {K:b8}{fd:FuncData}{ps:List Str}(h:∀ us:List i5,us.length=ps.length->bindArgs fd ⟨us,[]⟩=pure (ps.zip us)):Binds K fd ps []:=λ s us _ hl=>by
 rw[uc5] at hl ⊢;exact .of_eq (h us hl)
def Passes (CX:CXT)(X:Cx)(E:XK):Prop:=∀ (pins:List (o7 × Obj))(σ:St)(H:Hp)(s:i6)(e:i5)(s':i6),Inv X pins σ H s->CX X.stack H s E e s'->X.xe e s'
section
variable {X:Cx}{CX:CXT}{k:Nat}{f C:o7}{fd:FuncData}{ps:List Str}{sp:Sp}{dvs:List V}{ds:List i5}{E:XK}{x m:Str}{p pos apos:Pos}{e o:uc7}{es:List uc7}{ta:TE}{t:TA}
theorem zdr {pins:List (o7 × Obj)}{σ:St}{H:Hp}{s:i6}{Q:VK}{us:List i5}{vs:List V}(F:FnOk X.prog X.w X.K X.mg X.base CX k f fd ps sp)(hr:Room k X.A)(hb:Binds X.K fd ps ds)(hd:Vals dvs ds)(hx:Passes CX X E)
  (I:Inv X pins σ H s) (r:Vals vs us) (h:sp (vs++dvs) H Q E):j7 ‹38› X.A (call (.ref f) us) ‹121› X.xe s:=by
 have r2:Vals (vs++dvs) (us++ds):=r.append hd;have hl:(us++ds).length=ps.length:=by rw[← r2.length];exact F.len _ _ _ _ h
 exact wpAny_call (ude (F.run X.A X.stack s H ⟨us,[]⟩ (us++ds) (vs++dvs) Q E hr I.env0 (hb s us I.kIn hl) r2 h) λ r s' q=>?_);cases r with
 | error e=>exact hx pins σ H s e s' I q
 | ok fl =>
  cases fl with
  | ret u=>exact I.after q
  | next=>exact False.elim q
  | brk=>exact False.elim q
  | cont=>exact False.elim q
theorem zcn (F:FnOk X.prog X.w X.K X.mg X.base CX k f fd ps sp)(hr:Room k X.A)(hg:Gl X x)(hm:X.mg x=some (.ref f))(hk:ueh X.K (.ref f)=true)(hb:Binds X.K fd ps ds)(hd:Vals dvs ds)(hx:Passes CX X E)
  (ha:PA X (e::es) t) (hdb:‹86›=false:=by decide) (he:ubi (e::es) X.env=(false,eval e X.env)::ubi es X.env:=by rfl) (hpl:(backTo pos (ubi es X.env)).any (·.1)=false:=by rfl) :
  PE X (.Call (.Name x p) (e::es) [] pos) (tCall sp dvs E t):=by
 intro pins s σ H Q I h;exact uem (zcz I hg hm ?_ hdb);exact PySem.W.callWith_K (h₀:=X.base) I.ok.mod.kin hk (thn ‹77› λ us O ⟨vs,H1,z,r,q⟩=>⟨z.kIn,?_⟩) he hpl;exact zdr F hr hb hd hx z r q
end
section
variable {X:Cx}{CX:CXT}{k:Nat}{f C:o7}{fd:FuncData}{ps ks:List Str}{sp:Sp}{E:XK}{x m:Str}{p pos apos kpos:Pos}{e o:uc7}{es:List uc7}{kws:List Keyword}{te ta:TE}{t tk:TA}{nm:Option Str}
variable {g:List i5->List i5->List i5}{gV:List V->List V->List V}
end
structure FnScope (N P:List Str)(sc:Scope):Prop where
 kind:sc.kind=.function
 co:sc.isCoroutine=false
 gen:sc.isGenerator=false
 nd:N.Nodup
 pre:N.take P.length=P
 par:∀ x∈P,sc.names.lookup x=some .local\/sc.names.lookup x=some .cell
 nofree:∀ y∈sc.names,y.2≠.free
theorem nL {kindOf:Str->Option NameKind}{x:Str}:∀ {binds:List (Str × i5)}{m:Str->Option i5},(∀ v,(x,v)∉binds)->bindL kindOf binds m x=m x
 | [],_,_=>rfl
 | (n,v)::r,m,h=>by
  unfold bindL;rw[nL λ w q=>h w (j8 _ q)];split
  ·let:x≠n:=by rintro rfl;exact h v l9
   simp [this]
  ·rfl
theorem nN {kindOf:Str->Option NameKind}{x:Str}:∀ {binds:List (Str × i5)}{m:Str->Option i5},(∀ v,(x,v)∉binds)->bindC kindOf binds m x=m x
 | [],_,_=>rfl
 | (n,v)::r,m,h=>by
  unfold bindC;rw[nN λ w q=>h w (j8 _ q)];split
  ·rfl
  ·let:x≠n:=by rintro rfl;exact h v l9
   simp [this]
theorem nM {kindOf:Str->Option NameKind}{x:Str}{v:i5}:∀ {P:List Str}{vs:List i5}{i:Nat}{m:Str->Option i5},P.Nodup->P[i]?=some x->vs[i]?=some v->kindOf x=some .local ->
  bindL kindOf (P.zip vs) m x=some v
 | [],_,_,_,_,h,_,_=>by simp at h
 | _::_,[],_,_,_,_,h,_=>by simp at h
 | p::P,w::vs,0,m,nd,h1,h2,hk=>by
  simp at h1 h2;subst h1;subst h2;show bindL kindOf ((p,w)::P.zip vs) m p=_;unfold bindL;rw[nL λ v q=>(uba.mp nd).1 (uha q).1,uh2 hk];simp
 | p::P,w::vs,i+1,m,nd,h1,h2,hk=>by
  show bindL kindOf ((p,w)::P.zip vs) m x=_;unfold bindL;exact nM (i:=i) (uba.mp nd).2 (by simpa using h1) (by simpa using h2) hk
theorem nO {kindOf:Str->Option NameKind}{x:Str}{v:i5}:∀ {P:List Str}{vs:List i5}{i:Nat}{m:Str->Option i5},P.Nodup->P[i]?=some x->vs[i]?=some v->kindOf x≠some .local ->
  bindC kindOf (P.zip vs) m x=some v
 | [],_,_,_,_,h,_,_=>by simp at h
 | _::_,[],_,_,_,_,h,_=>by simp at h
 | p::P,w::vs,0,m,nd,h1,h2,hk=>by
  simp at h1 h2;subst h1;subst h2;show bindC kindOf ((p,w)::P.zip vs) m p=_;unfold bindC;rw[nN λ v q=>(uba.mp nd).1 (uha q).1,uh3 hk];simp
 | p::P,w::vs,i+1,m,nd,h1,h2,hk=>by
  show bindC kindOf ((p,w)::P.zip vs) m x=_;unfold bindC;exact nO (i:=i) (uba.mp nd).2 (by simpa using h1) (by simpa using h2) hk
def start (N:List Str)(vs:List V):St:=vs.map some++v6 (N.length-vs.length) none
def cxOf (CX:CXT)(P:o9)(w:uaw)(K:b8)(mg:Str->Option i5)(base:Heap)(N:List Str)(qual:Str)(scope:Scope)(f:o7)(cd:i5)(A:uax)(outer:List Env)(s:i6)(H:Hp)(E:XK):Cx where
 prog:=P
 w:=w
 K:=K
 mg:=mg
 base:=base
 A:=A.deeper ‹82›
 N:=N
 s₀:=s
 H₀:=H
 env:=envOfC qual scope ‹128› f cd
 outer:=outer
 stack:=envOfC qual scope ‹128› f cd::outer
 ex:=[]
 calm:=true
 fn:=λ _=>true
 pn:=[]
 xe:=λ e s'=>j7 (v4 P w) (A.deeper ‹82›) (leaving ‹82› e) (λ _ q=>CX outer H s E e q) (λ z q=>CX outer H s E z q) s'
theorem pD {sc:Scope}{n:Nat}{x:Str}(h:sc.names.lookup x=some .cell):∃ c,(cellsFrom n sc.names []).lookup x=some c:=by
 let q:=uhj sc.names n [] (.inl h);exact ub0.mp q
theorem zK {CX:CXT}{P:o9}{w:uaw}{K:b8}{mg:Str->Option i5}{base:Heap}{N ps:List Str}{qual:Str}{scope:Scope}{f:o7}{cd:i5}{A:uax}{outer:List Env}{s s1:i6}{H:Hp}{E:XK}{us:List i5}{vs:List V}
  (S:FnScope N ps scope) (hd:A.handled=none) (e0:Env0 P w K mg base A outer s H) (hl:vs.length=ps.length) (r:Vals vs us)
  (x:InCallC s ‹128› (bindL ‹82›.kindOf (ps.zip us) λ _=>none) (cellsFrom ‹66› scope.names []) (bindC ‹82›.kindOf (ps.zip us) λ _=>none) s1) :
  Inv (cxOf CX P w K mg base N qual scope f cd A outer s H E) [] (start N vs) H s1:=by
 let aa:ps.length<=N.length:=by let:=congrArg List.length S.pre;rw[o8] at this;left
 obtain⟨h1,tk,rfl,hk⟩:=x.done;let F:∀ b:o7,b∉(cxOf CX P w K mg base N qual scope f cd A outer s H E).ex:=λ b z=>absurd (show b∈([]:List o7) from z) (by simp);exact⟨⟨e0.mod,S.kind,M,i8 _,λ y z c h1 h2=>?_,λ y O=>?_,λ y c _ h=>?_,λ _=>hd,Around.frames_deeper e0.frames,.inr ⟨rfl,rfl⟩,λ b z=>absurd z (F b),e0.bs,e0.bsz,λ b _ _=>F b,λ b z=>absurd z (F b),e0.funs,e0.frf⟩,
  rfl,e0.bare,Un.kept hk,⟨_,x.toInCall.ns,λ i y v h1 h2 h3=>?_⟩,λ y c h=>⟨_,x.cell y c h⟩,e0.hok.fresh (i8 _),λ y c h=>?_,λ p hp=>absurd (show p∈([]:List (o7 × Obj)) from hp) (by simp),e0.hok.kept hk,?_⟩
 ·exact name_of_addr x.apart (ucs h1) (ucs h2)
 ·let O:scope.names.lookup y=some .cell\/scope.names.lookup y=some .free:=O;rcases O with O | O
  ·exact pD O
  ·exact absurd rfl (S.nofree _ (ucs O))
 ·exact uga (x.above y c (ucs h))
 ·let hi:i<vs.length:=by
   unfold start at h2;by_cases hi:i<vs.length
   ·exact hi
   ·rw[uab (by simpa using hi)] at h2;rw[ued] at h2;split at h2 <;> cases h2
  let ha:vs[i]?=some v:=by
   unfold start at h2;rw[uao (by simpa using hi),j0] at h2;cases e:vs[i]? with
   | none=>rw[e] at h2;cases h2
   | some a=>rw[e] at h2;cases h2;rfl
  obtain⟨u,hu,rv⟩:=r.get ha;let hp:ps[i]?=some y:=by
   rw[← S.pre,List.getElem?_take_of_lt (by left)];exact h1
  have U:ps.Nodup:=by rw[← S.pre];exact S.nd.sublist (List.take_sublist _ _)
  exact⟨u,rv,?_⟩;rcases S.par y (ual hp) with k | k
  ·exact .inl ⟨k,nM U hp hu k⟩
  ·obtain⟨c,e⟩:=pD (n:=‹128›+1) k;exact .inr ⟨.inl k,c,e,?_⟩;let q:=x.cell y c e;rw[nO U hp hu (by show scope.names.lookup y≠_;rw[k];decide)] at q;exact q
 ·exact e0.hok.fresh (uga (x.above y c (ucs h)))
 ·unfold start;show _=N.length;rw[i7,c9,ubg];left
theorem zep {CX:CXT}{P:o9}{w:uaw}{K:b8}{mg:Str->Option i5}{base:Heap}{k:Nat}{f:o7}{name qual:Str}{params:Arguments}{body:List ud3}{scope:Scope}{dV kV doc pm cdv ct oc:i5}{an od:Option o7}
  {osl:Array (Option i5)} {N ps:List Str} {sp:Sp} (lk:K.lookup f=some ⟨oc,od,.func (uc1 name qual params body scope dV kV doc pm an cdv ct),osl⟩) (hcd:ue5 K cdv qual=true) (S:FnScope N ps scope)
  (len:∀ vs H Q E,sp vs H Q E->vs.length=ps.length)
  (hbody:∀ (A:uax)(outer:List Env)(s:i6)(H:Hp)(vs:List V)(Q:VK)(E:XK),Room k (A.deeper (envOfC qual scope ‹128› f cdv))->sp vs H Q E ->
   ∃ t,PSs ‹109› body t/\t { nx:=λ _ H'=>Q .non H',rt:=Q } (start N vs) H) :
  FnOk P w K mg base CX (k+1) f (uc1 name qual params body scope dV kV doc pm an cdv ct) ps sp:=by
 exact⟨len,λ A outer s H ac us vs Q E hr U hb r O=>?_⟩;let hl:=len _ _ _ _ O;let KX:K.In s.heap:=U.mod.kin.keeps λ b o e=>(U.bs b o e).1;let ab:s.heap.NoLimit:=U.mod.nolimit.keeps λ b o e=>(U.bs b o e).1;let F:∀ y∈ps.zip us,scope.names.lookup y.1=some .local\/(scope.names.lookup y.1=some .cell/\((cellsFrom ‹66› scope.names []).lookup y.1).isSome=true):=λ ⟨n,v⟩ hy=>by
  rcases S.par n (uha hy).1 with q | q
  ·exact .inl q
  ·exact .inr ⟨q,uhj _ _ _ (.inl q)⟩
 exact codeAny_call_function hr.depth (KX _ _ lk) rfl S.co S.gen rfl (PySem.W.codeRec_of KX hcd) (hb _ _ _ _ ?_);exact wpAny_newFunctionEnv_cells S.kind F λ env he s1 x=>?_;subst he;exact⟨ab.keeps x.toInCall.keep,codeAny_func ?_⟩;obtain⟨t,ht,hq⟩:=hbody A outer s H vs Q E (hr.deeper _) O;let I:Inv ‹109› [] (start N vs) H s1:=zK S hr.hd U hl r x;exact ucr (ht [] s1 (start N vs) H _ I hq) (λ fl s' hs=>?_) λ e s' hs=>hs;let aa:∀ {z:St}{H':Hp}{v:V}{u:i5},Inv ‹109› [] z H' s'->RelV v u->Q v H'->CE outer P w H s Q u s' :=
  λ {z H' v u} J rv q=>⟨v,H',J.os,J.bare,J.base,J.hok,rv,q⟩
 cases fl with
 | ret u =>
  obtain⟨v,z,H',J,rv,q⟩:=hs;exact aa J rv q
 | next =>
  obtain⟨z,H',J,q⟩:=hs;exact aa (v:=V.non) (u:=Value.none) J rfl q
 | brk =>
  obtain⟨_,_,_,q⟩:=hs;exact False.elim q
 | cont =>
  obtain⟨_,_,_,q⟩:=hs;exact False.elim q
end L2
namespace L2
open PySem PySem.Spec PyProof.Rows
section
variable {X:Cx}{x:Str}{p pos:Pos}{e:uc7}{es:List uc7}{t:TA}{id T:String}{r:List V->Hp->VK->Prop}
def tCB (r:List V->Hp->VK->Prop)(t:TA):TE:=λ σ H Q=>t σ H λ vs H1=>r vs H1 Q
theorem aP (hc:CallR X (.builtin id) r)(hg:Gl X x)(hm:X.mg x=none)(hv:bootBuiltins x=some (.builtin id))(ha:PA X (e::es) t)(hn:x≠"__name__":=by decide)(hdb:‹86›=false:=by decide)
  (he:ubi (e::es) X.env=(false,eval e X.env)::ubi es X.env:=by rfl) (hpl:(backTo pos (ubi es X.env)).any (·.1)=false:=by rfl):PE X (.Call (.Name x p) (e::es) [] pos) (tCB r t):=by
 intro pins s σ H Q I h;exact uem (cW I hg hm hv ?_ hn hdb);exact PyProof.Rows.callWith_builtin1 (thn ‹77› λ us F ⟨vs,H1,z,r1,q⟩=>hc pins F σ H1 vs us Q z r1 q) he hpl
theorem bA (hc:CallR X (.type T) r)(hg:Gl X x)(hm:X.mg x=none)(hv:bootBuiltins x=some (.type T))(ha:PA X (e::es) t)(hn:x≠"__name__":=by decide)(hdb:‹86›=false:=by decide)
  (he:ubi (e::es) X.env=(false,eval e X.env)::ubi es X.env:=by rfl) (hpl:(backTo pos (ubi es X.env)).any (·.1)=false:=by rfl):PE X (.Call (.Name x p) (e::es) [] pos) (tCB r t):=by
 intro pins s σ H Q I h;exact uem (cW I hg hm hv ?_ hn hdb);exact ubb (thn ‹77› λ us F ⟨vs,H1,z,r1,q⟩=>hc pins F σ H1 vs us Q z r1 q) he hpl
end
end L2
namespace HT
open PySem PyProof.Rows
def lexLt:List Int->List Int->Bool
 | [],[]=>false
 | [],_::_=>true
 | _::_,[]=>false
 | x::xs,y::ys=>if x=y then lexLt xs ys else decide (x<y)
theorem xF (x y:Int)(xs ys:List Int):lexLt (x::xs) (y::ys)=if x=y then lexLt xs ys else decide (x<y):=rfl
theorem uP:lexLt [] []=false:=rfl
theorem tU (y:Int)(ys:List Int):lexLt [] (y::ys)=true:=rfl
theorem tV (x:Int)(xs:List Int):lexLt (x::xs) []=false:=rfl
theorem zbg (A:uax)(s:i6)(a:Int)(t:Tok)(c:Int)(u:Tok):∃ e,SeqAt.EqAt A s (.int a t) (.int c u) e/\(e=true↔a=c) :=
 ⟨(a==c),SeqAt.EqAt.int_int a t c u,by simp⟩
theorem zaw (A:uax)(s:i6)(a:Int)(t:Tok)(c:Int)(u:Tok)(prog:o9)(w:uaw)(E:i5->i6->Prop)(Q:i5->i6->Prop)(h:Q (.bool (decide (a<c))) s) :
  j7 (v4 prog w) A (richCompare .Lt (.int a t) (.int c u)) Q E s :=
 (PyProof.Rows.lt_int h:j7 (v4 prog w) A (compareOp .Lt (.int a t) (.int c u)) Q E s)
section
open PySem.SeqAt
open PySem.AutoSeq1 (wpAny_loadPart')
open PySem.MeetsSeq PySem.MeetsSeq2 PySem.MeetsSeq3
theorem uF (l b:o7)(items items2:Array i5)(n n2:Nat)(dd dd2:Option o7)(sl sl2:Array (Option i5))(ns ms:List Int)(hi:IntsAre items.toList ns)(hj:IntsAre items2.toList ms) :
  Meets (Builtin.«tuple.__lt__» ⟨[.ref l,.ref b],[]⟩)
   (λ _ R s=>s.heap.get? l=some { cls:=.type "tuple",dict:=dd,data:=.seq items n,slots:=sl }/\s.heap.get? b=some { cls:=.type "tuple",dict:=dd2,data:=.seq items2 n2,slots:=sl2 } /\
    R (.ok (.ret (.bool (lexLt ns ms)))) s) :=
 .of_wp λ prog w A R s h=>by
  obtain⟨hp,g,d,tk,os⟩:=s;obtain⟨hl,hb,h⟩:=h;have f2:=AutoSeq1.sub_tuple_tuple;have z1:items.size=ns.length:=by rw[← hi.length];simp
  have z2:items2.size=ms.length:=by rw[← hj.length];simp
  wp_walk using uff hl,uff hb,wpAny_forIn_list _ (λ rest b s'=>b.1=none/\s'=⟨hp,g,d,tk,os⟩/\∃ (vs ws:List i5)(F O:List Int),rest=vs.zip ws /\
   IntsAre vs F/\IntsAre ws O/\F.length+items2.size=O.length+items.size/\R (.ok (.ret (.bool (lexLt F O)))) ⟨hp,g,d,tk,os⟩) _
  case turn =>
   rintro ⟨y,x⟩ rest b s' ⟨ac,rfl,vs,ws,F,O,hz,ab,U,z,hR⟩;cases ab with
   | nil=>rw[List.zip_nil_left] at hz;cases hz
   | cons a t hvi' =>
    cases U with
    | nil=>rw[List.zip_nil_right] at hz;cases hz
    | cons c u hwi' =>
     rw[ue8] at hz;injection hz with hyx hrest;injection hyx with hy hx;subst hy hx;rw[xF] at hR;simp only [uas] at z;obtain⟨e,he,aa⟩:=zbg A.in1 ⟨hp,g,d,tk,os⟩ a t c u;exact a7 (he prog w _ _ ?_);cases e with
     | true =>
      rw[uh2 (aa.mp rfl)] at hR
      wp_walk
      exact⟨M,P,P,hrest,hvi',hwi',by left,hR⟩
     | false =>
      rw[uh3 (λ q=>absurd (aa.mpr q) p6)] at hR;let ad:=zaw A.in1 ⟨hp,g,d,tk,os⟩ a t c u prog w
      wp_walk using ad
      exact⟨A,by simpa using hR⟩
  case fin =>
   rintro ⟨b1,b2⟩ s' ⟨ac,rfl,vs,ws,F,O,hz,ab,U,z,hR⟩;simp only at ac;subst ac;let hv:lexLt F O=decide (items.size<items2.size):=by
    cases ab with
    | nil =>
     cases U with
     | nil =>
      simp only [uf3] at z;rw[uP];exact (uh1 (by left)).symm
     | cons c u hw =>
      simp only [uf3,uas] at z;rw[tU];exact (uhz (by left)).symm
    | cons a t hv =>
     cases U with
     | nil =>
      simp only [uf3,uas] at z;rw[tV];exact (uh1 (by left)).symm
     | cons c u hw =>
      rw[ue8] at hz;cases hz
   rw[hv] at hR
   wp_walk
   exact⟨A,by simpa [Builtin.Tuple.tupleCompareSizes] using hR⟩
  case h =>
   exact⟨M,items.toList,items2.toList,ns,ms,rfl,hi,hj,by left,h⟩
end
section
variable {prog:o9}{w:uaw}{A:uax}{E:i5->i6->Prop}{s:i6}
theorem xD {l b:o7}{items items2:Array i5}{ns ms:List Int}{Q:i5->i6->Prop}(hl:IsTup s.heap l items)(hb:IsTup s.heap b items2)(hi:IntsAre items.toList ns)(hj:IntsAre items2.toList ms)
  (hu:A.units<cLine) (h:Q (.bool (lexLt ns ms)) s):j7 (v4 prog w) A (compareOp .Lt (.ref l) (.ref b)) Q E s:=by
 obtain⟨⟨ae,dd,ac,sl⟩,ho,hc,n,hd⟩:=id hl;obtain⟨⟨ad,ab,U,aa⟩,O,z,n2,q⟩:=id hb;simp only at hc hd z q;subst hc hd z q;exact richCompare_meets_room (op:=.Lt) ⟨_,ho,rfl⟩ ⟨_,O,rfl⟩ PySem.F.slot_tuple_lt PySem.F.entry_tuple_lt (PySem.F.args_tuple_lt_2 _ _) (uF l b items items2 n n2 dd ab sl aa ns ms hi hj)
  ⟨ho,O,show Value.bool (lexLt ns ms)≠Value.notImplemented/\Q (.bool (lexLt ns ms)) s from ⟨(λ x=>nomatch x),h⟩⟩ hu
theorem zda {t b:o7}{vs ws:List i5}{Q:i5->i6->Prop}(ht:IsTup s.heap t vs.toArray)(hb:IsTup s.heap b ws.toArray)(hv:vs≠[])
  (h1:ws=[]->Q (.ref t) s) (h2:ws≠[]->Q ‹32› { s with heap:=s.heap.push { cls:=.type "tuple",data:=.seq (vs++ws).toArray } })
  (hsz:vs.length+ws.length<=p8):j7 (v4 prog w) A (binaryOp .Add (.ref t) (.ref b)) Q E s:=by
 obtain⟨⟨cls,dd,data,sl⟩,ho,hc,n,hd⟩:=id ht;obtain⟨⟨ab,U,aa,O⟩,q,F,n2,z⟩:=id hb;simp only at hc hd F z;subst hc hd F z;let e:vs.toArray++ws.toArray=(vs++ws).toArray:=by simp
 by_cases hw:ws=[]
 ·exact concat_meets ⟨_,ho,rfl⟩ ⟨_,q,rfl⟩ uhp seq_tuple_add ufo ufi (ue7 _ _)
   (tuple_addW1 t b vs.toArray ws.toArray n n2 dd U sl O (by simpa using hv) (by simp [hw])) ⟨ho,q,h1 hw⟩
 ·exact concat_meets ⟨_,ho,rfl⟩ ⟨_,q,rfl⟩ uhp seq_tuple_add ufo ufi (ue7 _ _)
   (tuple_addW2 t b vs.toArray ws.toArray n n2 dd U sl O (by simpa using hv) (by simpa using hw) (by rw[k9,k9];exact hsz)) ⟨ho,q,?_⟩
  rw[e];exact h2 hw
def sIx (n d:Nat):Option Int->Nat
 | none=>d
 | some v=>if v<0 then (v+(n:Int)).toNat else min v.toNat n
theorem oI (n d:Nat):sIx n d none=d:=rfl
theorem pN (n d k:Nat):sIx n d (some (k:Int))=min k n:=by
 show (if (k:Int)<0 then ((k:Int)+(n:Int)).toNat else min (k:Int).toNat n)=min k n;rw[uh3 (by left),uav]
theorem zdq (n d:Nat)(hd:d<=n)(o:Option Int):sIx n d o<=n:=by
 cases o with
 | none=>exact hd
 | some v =>
  show (if v<0 then (v+(n:Int)).toNat else min v.toNat n)<=n;by_cases q:v<0
  ·rw[uh2 q];left
  ·rw[uh3 q];exact uer _ _
theorem qI (v:Int)(n d:Nat):(if v<0 then max (v+(n:Int)) 0 else min v (n:Int))=((sIx n d (some v):Nat):Int):=by
 show (if v<0 then max (v+(n:Int)) 0 else min v (n:Int))=(((if v<0 then (v+(n:Int)).toNat else min v.toNat n):Nat):Int);by_cases q:v<0
 ·simp only [uh2 q];left
 ·simp only [uh3 q];left
theorem xU (lo hi:Option Int)(n:Nat):Builtin.Slice.sliceAdjust lo hi 1 (n:Int)=(((sIx n 0 lo:Nat):Int),((sIx n n hi:Nat):Int)):=by
 let h1:¬ ((1:Int)<0):=by left
 unfold Builtin.Slice.sliceAdjust;simp only [h1,if_false];exact Prod.ext ?_ ?_
 ·cases lo with
  | none=>rfl
  | some v=>exact qI v n 0
 ·cases hi with
  | none=>rfl
  | some v=>exact qI v n n
theorem wX (i j:Nat):Builtin.Slice.slicePlaces (i:Int) (j:Int) 1=j-i:=by
 unfold Builtin.Slice.slicePlaces;let h1:(1:Int)>0:=by left
 simp only [h1,if_true,Int.ediv_one];split <;> left
theorem eV {v:i5}{o:Option Int}{Q:Option Int->i6->Prop}(p:IsPart v o)(h:Q o s):j7 (v4 prog w) A (Builtin.Slice.slicePartIndex v) Q E s:=by
 cases p with
 | none=>exact slicePart_none h
 | int i t=>exact slicePart_int h
theorem lE {sl:o7}{vl vu:i5}{lo hi:Option Int}{n:Nat}{Q:Int × Int × Nat->i6->Prop}(hs:s.heap.IsSliceOf sl vl vu .none)(pl:IsPart vl lo)(pu:IsPart vu hi)
  (h:Q (((sIx n 0 lo:Nat):Int),1,sIx n n hi-sIx n 0 lo) s):j7 (v4 prog w) A ‹117› Q E s:=by
 obtain⟨O,q,F,z⟩:=id hs;unfold Builtin.Slice.sliceApplied Builtin.Slice.sliceFields;exact a7 (a7 (v7 q z (x:=vl) rfl (a7 (v7 q z (x:=vu) rfl (a7 (v7 q z (x:=.none) rfl (c7 ?_)))))));exact a7 (slicePart_none ?_);show j7 _ _ (if ((1:Int)==0)=true then _ else _) _ _ s;rw[uh3 (by decide)];exact a7 (eV pl (a7 (eV pu (a7 (c7 ?_)))));show j7 _ _ (match Builtin.Slice.sliceAdjust lo hi 1 (n:Int) with | (lo,hi)=>pure (lo,(1:Int),Builtin.Slice.slicePlaces lo hi 1)) _ _ s;rw[xU lo hi n];show j7 _ _ (pure (((sIx n 0 lo:Nat):Int),(1:Int),Builtin.Slice.slicePlaces ((sIx n 0 lo:Nat):Int) ((sIx n n hi:Nat):Int) 1)) _ _ s;rw[wX];exact c7 h
theorem zax (xs:Array i5)(i k:Nat):((d8 k).filterMap λ (m:Nat)=>xs[((i:Int)+(m:Int)*1).toNat]?).toArray=((xs.toList.drop i).take k).toArray:=by
 let e:(λ (m:Nat)=>xs[((i:Int)+(m:Int)*1).toNat]?)=λ m=>xs[i+m]?:=by
  funext m;let:((i:Int)+(m:Int)*1).toNat=i+m:=by left
  rw[this]
 rw[e];let:=pick_run xs i k;rw[List.filterMap_map] at this;let e2:((λ x=>xs[x]?) ∘ λ x=>i+x)=λ m=>xs[i+m]?:=rfl;rw[e2] at this;rw[this]
theorem sG {t sl:o7}{items:Array i5}{vl vu:i5}{lo hi:Option Int}{Q:i5->i6->Prop}(ht:IsTup s.heap t items)(hs:s.heap.IsSliceOf sl vl vu .none)(pl:IsPart vl lo)(pu:IsPart vu hi)
  (hw:¬ (sIx items.size 0 lo=0/\sIx items.size items.size hi=items.size))
  (h:Q ‹32› { s with heap:=s.heap.push { cls:=.type "tuple",data:=.seq ‹54›.toArray } })
  (hsz:items.size<=p8):j7 (v4 prog w) A (getItem (.ref t) (.ref sl)) Q E s:=by
 let z:sizeOk (.seq ‹54›.toArray):=by
  show ‹54›.toArray.size<=p8;rw[k9,o8,m9,r8];left
 let hj:sIx items.size items.size hi<=items.size:=zdq _ _ (i8 _) hi;obtain⟨os,F,O,ab⟩:=id hs;let aa:s.TypeIs (.ref sl) "slice":=⟨os,F,O⟩;unfold getItem
 try with_reducible exact uak ?_
 first | exact a7 (c7 ?_) | skip
 exact a7 (uf1 ht.typeIs (by decide) ?_);exact a7 (v9 (name:=uai "__getitem__") ht.typeIs uam
  (uaf uam ht.typeIs entry_tuple_getitem ?_ (args_tuple_getitem _ _)))
 show j7 _ _ ‹102› _ _ s;exact a7 (tupleItemsOf_ ht ?_);exact a7 (ucx aa ?_);rw[uh2 (by decide)];exact a7 (lE hs pl pu ?_);let U:¬ (‹36›=true):=by
  intro q;rw[m7,m7] at q;let q1:((sIx items.size 0 lo:Nat):Int)=0:=eq_of_beq q.1.1;let q2:sIx items.size items.size hi-sIx items.size 0 lo=items.size:=eq_of_beq q.2;exact hw ⟨by left,by left⟩
 show j7 _ _ (if ‹36›=true then _ else _) _ _ s;rw[uh3 U,zax]
 first
  | exact a7 (m:=Builtin.Tuple.tupleExact _) (uac ‹70› z)
  | exact a7 (m:=Builtin.Tuple.tupleExact _) (uac (a7 (c7 ‹70›)) z)
  | exact a7 (a7 (m:=Builtin.Tuple.tupleExact _) (uac (c7 ‹70›) z))
  | exact a7 (a7 (m:=Builtin.Tuple.tupleExact _) (uac ‹70› z))
end
end HT
namespace L2
open PySem PySem.Spec PyProof.Rows
abbrev TO:=St->Hp->(Option Int->Hp->Prop)->Prop
def PO (X:Cx)(e:Option uc7)(t:TO):Prop :=
 ∀ (pins:List (o7 × Obj))(s:i6)(σ:St)(H:Hp)(Q:Option Int->Hp->Prop),Inv X pins σ H s->t σ H Q ->
  j7 ‹38› X.A (evalPart e X.env) (λ u s'=>∃ o H',Inv X pins σ H' s'/\IsPart u o/\Q o H') X.xe s
def tNoPart:TO:=λ _ H Q=>Q none H
def tPart (t:TE):TO:=λ σ H Q=>t σ H λ x H1=>EInt x λ i=>Q (some i) H1
theorem dD {ns:List Int}:∀ {us:List i5},Vals ‹67› us->IntsAre us ns:=by
 induction ns with
 | nil=>intro us r;rw[List.map_nil] at r;cases r;exact .nil
 | cons n ns ih =>
  intro us r;rw[ubc] at r;cases r with
  | cons r1 r2 =>
   obtain⟨t,e⟩:=r1;subst e;exact .cons n t (ih r2)
section
variable {X:Cx}{e:uc7}{te:TE}{lo hi:Option uc7}{tl th:TO}{pos p2:Pos}
theorem bB:PO X none tNoPart:=by
 intro pins s σ H Q I h;rw[evalPart_none];exact c7 ⟨none,H,I,.none,h⟩
theorem bF (h:PE X e te):PO X (some e) (tPart te):=by
 intro pins s σ H Q I O;rw[evalPart_some];exact thn (h pins s σ H _ I O) λ u U ⟨x,H1,F,r1,z⟩=>?_;obtain⟨i,rfl,q⟩:=z;obtain⟨t,rfl⟩:=r1;exact⟨some i,H1,F,.int i t,q⟩
def SlR (X:Cx)(r:V->Option Int->Option Int->Hp->VK->Prop):Prop :=
 ∀ (pins:List (o7 × Obj))(s:i6)(σ:St)(H:Hp)(x:V)(v vl vu:i5)(lo hi:Option Int)(sl:o7)(Q:VK),Inv X pins σ H s->RelV x v->s.heap.IsSliceOf sl vl vu .none->IsPart vl lo->IsPart vu hi->r x lo hi H Q ->
  ∃ T id,typeLookup (.type T) "__getitem__"=pure (some (.builtin id))/\s.TypeIs v T/\j7 ‹38› X.A (getItem v (.ref sl)) ‹121› X.xe s
def tSl (r:V->Option Int->Option Int->Hp->VK->Prop)(te:TE)(tl th:TO):TE:=λ σ H Q=>te σ H λ x H1=>tl σ H1 λ l H2=>th σ H2 λ u H3=>r x l u H3 Q
theorem bE {r:V->Option Int->Option Int->Hp->VK->Prop}(hr:SlR X r)(he:PE X e te)(hl:PO X lo tl)(hu:PO X hi th):PE X (.Subscript e (.Slice lo hi none p2) pos) (tSl r te tl th):=by
 intro pins s σ H Q I h;exact Subscript_ (thn (he pins s σ H _ I h) λ v s1 ⟨x,H1,I1,r1,O⟩=>?_);exact wpAny_Slice (thn (hl pins s1 σ H1 _ I1 O) λ z s2 ⟨l,H2,I2,pl,U⟩=>thn (hu pins s2 σ H2 _ I2 U) λ F s3 ⟨u,H3,I3,pu,q3⟩=>?_);rw[evalPart_none];exact c7 ?_;let I4:Inv X pins σ H3 { s3 with heap:=s3.heap.push { cls:=.type "slice",data:=.fields #[z,F,.none] } }:=I3.kept (t':=s3.toks) λ b ob q=>a9 _ q;obtain⟨T,id,hT,ht,hg⟩:=hr pins { s3 with heap:=s3.heap.push { cls:=.type "slice",data:=.fields #[z,F,.none] } } σ H3 x v z F l u s3.heap.objs.size Q I4 r1 (ug8 ..) pl pu q3;show j7 ‹38› X.A (subscriptTail e (.Slice lo hi none p2) v (.ref s3.heap.objs.size)) ‹121› X.xe { s3 with heap:=s3.heap.push { cls:=.type "slice",data:=.fields #[z,F,.none] } };exact tail_any (ops:=[.ref s3.heap.objs.size,v]) ht hT hg ‹95›
def cutV (xs:List V)(lo hi:Option Int):List V:=(xs.drop (HT.sIx xs.length 0 lo)).take ‹112›
theorem lT (xs:List V)(lo hi:Option Int):(cutV xs lo hi).length<=xs.length:=by
 unfold cutV;rw[o8,m9];left
inductive rSlT_i (K:b8)(x:V)(lo:Option Int)(hi:Option Int)(H:Hp)(Q:VK):Prop
 | mk:∀ a xs,(x=.ref a)->(SqT K H a xs)->(¬ (HT.sIx xs.length 0 lo=0/\HT.sIx xs.length xs.length hi=xs.length))->(∀ p,H p=none->Q (.ref p) (upd H p (.tup (cutV xs lo hi))))->rSlT_i K x lo hi H Q
def rSlT (K:b8):V->Option Int->Option Int->Hp->VK->Prop:=λ x lo hi H Q=>rSlT_i K x lo hi H Q
theorem zdo:SlR X (rSlT X.K):=by
 intro pins s σ H x v vl vu lo hi sl Q I rx hs pl pu h;obtain⟨a,xs,rfl,U,hw,q⟩:=h;cases rx;obtain⟨its,r,O,F⟩:=I.tuple U;let z:its.toArray.size=xs.length:=by rw[k9];exact r.length.symm
 exact⟨"tuple",_,uam.lookup,O.typeIs,?_⟩;exact HT.sG O hs pl pu (by rw[z];exact hw) ?_ (by rw[z];exact F);rw[z];exact⟨.ref ‹128›,_,I.laid (t':=s.toks) (o:=.tup (cutV xs lo hi)) (λ b ob q=>a9 _ q) (i8 _) ?_,rfl,q _ (I.hok.fresh (i8 _))⟩;exact⟨uaj (lT xs lo hi) F,_,(r.drop (HT.sIx xs.length 0 lo)).take ‹112›,TupN.new _ _⟩
inductive rLtT_i (K:b8)(x:V)(y:V)(H:Hp)(Q:VK):Prop
 | mk:∀ a b ns ms,(x=.ref a)->(y=.ref b)->(SqT K H a ‹67›)->(SqT K H b (ms.map V.int))->(Q (.bl (HT.lexLt ns ms)) H)->rLtT_i K x y H Q
def rLtT (K:b8):R2:=λ x y H Q=>rLtT_i K x y H Q
theorem zd0 (hu:X.A.units<cLine):OpR X (compareOp .Lt) (rLtT X.K):=by
 intro pins s σ H x y v u Q I rx U h;obtain⟨a,b,ns,F,rfl,rfl,ha,hb,q⟩:=h;cases rx;cases U;obtain⟨its,r1,O,_⟩:=I.tuple ha;obtain⟨z,r2,p2,_⟩:=I.tuple hb;let i1:IntsAre its.toArray.toList ns:=dD r1;let i2:IntsAre z.toArray.toList F:=dD r2;exact HT.xD O p2 i1 i2 hu ⟨.bl (HT.lexLt ns F),H,I,rfl,q⟩
inductive rCatT_i (K:b8)(x:V)(y:V)(H:Hp)(Q:VK):Prop
 | mk:∀ a b xs ys,(x=.ref a)->(y=.ref b)->(SqT K H a xs)->(SqT K H b ys)->(xs≠[])->(xs.length+ys.length<=p8)->((ys=[]->Q (.ref a) H))->((ys≠[]->∀ p,H p=none->Q (.ref p) (upd H p (.tup (xs++ys)))))->rCatT_i K x y H Q
def rCatT (K:b8):R2:=λ x y H Q=>rCatT_i K x y H Q
theorem Vals.nil_iff {xs:List V}{us:List i5}(r:Vals xs us):us=[]↔xs=[]:=by
 cases r with
 | nil=>simp
 | cons _ _=>simp
theorem zcp:OpR X (binaryOp .Add) (rCatT X.K):=by
 intro pins s σ H x y v u Q I rx ry h;obtain⟨a,b,xs,ys,rfl,rfl,ha,hb,hx,O,U,q2⟩:=h;cases rx;cases ry;obtain⟨its,r1,p1,_⟩:=I.tuple ha;obtain⟨F,r2,p2,_⟩:=I.tuple hb;refine HT.zda p1 p2 (λ z=>hx (r1.nil_iff.mp z)) (λ z=>⟨.ref a,H,I,rfl,U (r2.nil_iff.mp z)⟩) (λ z=>?_) (by rw[← r1.length,← r2.length];exact O);refine⟨.ref ‹128›,_,I.laid (t':=s.toks) (o:=.tup (xs++ys)) (λ b ob q=>a9 _ q) (i8 _) ?_,rfl,q2 (λ w=>z (r2.nil_iff.mpr w)) _ (I.hok.fresh (i8 _))⟩;exact⟨by rw[i7];exact O,_,r1.append r2,TupN.new _ _⟩
end
end L2
namespace L2
open PySem PySem.Spec PyProof.Rows
def ixN (n:Nat)(i:Int):Option Nat:=if 0<=i then (if i<n then some i.toNat else none) else if -(n:Int)<=i then some (i+n).toNat else none
def atI {α:Type}(xs:List α)(i:Int):Option α:=(ixN xs.length i).bind λ j=>xs[j]?
theorem kA {n:Nat}{i:Int}{j:Nat}(h:ixN n i=some j):seqIndex? i n=some j/\j<n/\-(n:Int)<=i/\i<n:=by
 unfold ixN at h;by_cases q:0<=i
 ·rw[uh2 q] at h;by_cases h1:i<n
  ·rw[uh2 h1] at h;let e:i.toNat=j:=uaz h;exact⟨by rw[seqIndex_of q h1,e],by left,by left,h1⟩
  ·rw[uh3 h1] at h;cases h
 ·rw[uh3 q] at h;by_cases h1:-(n:Int)<=i
  ·rw[uh2 h1] at h;let e:(i+n).toNat=j:=uaz h;exact⟨by rw[seqIndex_neg (by left) h1,e],by left,h1,by left⟩
  ·rw[uh3 h1] at h;cases h
theorem qK {α:Type}{xs:List α}{i:Int}{v:α}(h:atI xs i=some v):∃ j,seqIndex? i xs.length=some j/\xs[j]?=some v/\j<xs.length/\-(xs.length:Int)<=i/\i<xs.length:=by
 unfold atI at h;cases e:ixN xs.length i with
 | none=>rw[e] at h;cases h
 | some j =>
  rw[e] at h;obtain⟨h1,h2,h3,q⟩:=kA e;exact⟨j,h1,h,h2,h3,q⟩
theorem qJ {α:Type}{xs:List α}{j:Nat}{v:α}(h:xs[j]?=some v):atI xs (j:Int)=some v:=by
 let q:j<xs.length:=(j9.mp h).1;let e:ixN xs.length (j:Int)=some j:=by
  unfold ixN;rw[uh2 (by left),uh2 (by left)];simp
 unfold atI;rw[e];exact h
theorem pG {α:Type}(xs:List α)(v:α):atI (xs++[v]) (-1)=some v:=by
 let hl:(xs++[v]).length=xs.length+1:=by simp
 let e:ixN (xs++[v]).length (-1)=some xs.length:=by
  unfold ixN;rw[hl,uh3 (by decide),uh2 (by left)];congr 1;left
 unfold atI;rw[e];show (xs++[v])[xs.length]?=some v;simp
def PlainIx (b:uc7):Prop:=∀ o i,subscripted b false o i=operate [o,i] (getItem o i)
def IxR (X:Cx)(r:R2):Prop :=
 ∀ (value slice:uc7)(pins:List (o7 × Obj))(s:i6)(σ:St)(H:Hp)(x y:V)(v u:i5)(Q:VK),Inv X pins σ H s->RelV x v->RelV y u->r x y H Q ->
  subscripted slice false v u=operate [v,u] (getItem v u)->j7 ‹38› X.A (subscriptTail value slice v u) ‹121› X.xe s
def MtR (X:Cx)(id:String)(r:V->List V->Hp->VK->Prop):Prop :=
 ∀ (pins:List (o7 × Obj))(s:i6)(σ:St)(H:Hp)(x:V)(xs:List V)(v:i5)(us:List i5)(Q:VK),Inv X pins σ H s->RelV x v->Vals xs us->r x xs H Q ->
  j7 ‹38› X.A (call (.builtin id) (v::us)) ‹121› X.xe s
section
variable {X:Cx}{a b:uc7}{ta tb:TE}{pos:Pos}
theorem aG {r:R2}(hr:IxR X r)(ha:PE X a ta)(hb:PE X b tb)(hs:PlainIx b):PE X (.Subscript a b pos) (tOp r ta tb):=by
 intro pins s σ H Q I h;exact Subscript_ (binT ha hb I h λ v u s2 x y H2 O z F q=>hr a b pins s2 σ H2 x y v u Q O z F q (hs _ _))
inductive rIxL_i (K:b8)(x:V)(y:V)(H:Hp)(Q:VK):Prop
 | mk:∀ p xs i v,(x=.ref p)->(y=.int i)->(SqL K H p xs)->(atI xs i=some v)->(Q v H)->rIxL_i K x y H Q
def rIxL (K:b8):R2:=λ x y H Q=>rIxL_i K x y H Q
inductive rIxT_i (K:b8)(x:V)(y:V)(H:Hp)(Q:VK):Prop
 | mk:∀ p xs i v,(x=.ref p)->(y=.int i)->(SqT K H p xs)->(atI xs i=some v)->(Q v H)->rIxT_i K x y H Q
def rIxT (K:b8):R2:=λ x y H Q=>rIxT_i K x y H Q
theorem aY:IxR X (rIxL X.K):=by
 intro value U pins s σ H x y v u Q I rx ry h hs;obtain⟨p,xs,i,z,rfl,rfl,hq,he,q⟩:=h;cases rx;obtain⟨t,rfl⟩:=ry;obtain⟨its,r,pl,hz⟩:=I.list hq;obtain⟨j,h1,h2,h3,h4,h5⟩:=qK he;obtain⟨w,ew,O⟩:=r.get h2;let hl:=r.length;let hn:=line63;let F:EP X pins σ Q w s:=⟨z,H,I,O,q⟩;by_cases h0:0<=i
 ·let hj:i.toNat=j:=by
   rw[seqIndex_of h0 h5] at h1;exact uaz h1
  exact item_listR pl.isList h0 (by left) (by rw[hj];simpa using ew) F hs
 ·let hj:(i+(its.toArray.size:Int)).toNat=j:=by
   rw[seqIndex_neg (by left) h4] at h1;rw[k9,← hl];exact uaz h1
  exact subscriptTail_builtinR (x:=w) pl.isList.typeIs slot_list_getitem.lookup
   (wpAny_getItem_list_neg (Q:=λ r s'=>r=w/\EP X pins σ Q r s') pl.isList (by left) (by rw[k9] <;> left) (by left) (by rw[hj];simpa using ew) ⟨rfl,F⟩) hs
theorem aR:IxR X (rIxT X.K):=by
 intro value O pins s σ H x y v u Q I rx ry h hs;obtain⟨p,xs,i,z,rfl,rfl,hq,he,q⟩:=h;cases rx;obtain⟨t,rfl⟩:=ry;obtain⟨its,r,pl,hz⟩:=I.tuple hq;obtain⟨j,h1,h2,h3,h4,h5⟩:=qK he;obtain⟨w,ew,F⟩:=r.get h2;let hl:=r.length;let hn:=line63;let U:EP X pins σ Q w s:=⟨z,H,I,F,q⟩;exact subscriptTail_builtinR (x:=w) pl.typeIs slot_tuple_getitem.lookup
  (getItem_tuple (j:=j) (Q:=λ r s'=>r=w/\EP X pins σ Q r s') pl (by left) (by left) (by rw[k9,← hl];exact h1) (by simpa using ew) ⟨rfl,U⟩) hs
theorem xC (its:List i5)(n j:Nat)(u:i5):Obj.mapSeq (·.setIfInBounds j u) { cls:=.type "list",data:=.seq its.toArray n }={ cls:=.type "list",data:=.seq (its.set j u).toArray n }:=by
 simp [Obj.mapSeq]
theorem Inv.lst {pins:List (o7 × Obj)}{σ:St}{H:Hp}{s:i6}{p:o7}{xs:List V}(I:Inv X pins σ H s)(h:H p=some (.lst xs)) :
  ∃ (its:List i5)(n:Nat),Vals xs its/\s.heap.get? p=some { cls:=.type "list",data:=.seq its.toArray n }/\xs.length<=p8:=by
 obtain⟨z,its,n,r,e⟩:=I.hok p _ h;exact⟨its,n,r,e,z⟩
theorem Inv.lstUpd {pins:List (o7 × Obj)}{σ:St}{H:Hp}{s:i6}{p:o7}{xs ys:List V}{its its':List i5}{n n':Nat}{f:Obj->Obj}(I:Inv X pins σ H s)(h:H p=some (.lst xs))
  (ho:s.heap.get? p=some { cls:=.type "list",data:=.seq its.toArray n }) (hf:f { cls:=.type "list",data:=.seq its.toArray n }={ cls:=.type "list",data:=.seq its'.toArray n' }) (r:Vals ys its') (hz:ys.length<=p8) (t:Nat) :
  Inv X pins σ (upd H p (.lst ys)) { s with heap:=s.heap.update p f,toks:=t }:=by
 let e:(s.heap.update p f).get? p=some { cls:=.type "list",data:=.seq its'.toArray n' }:=by
  rw[ua7 f ho (by rw[hf] <;> rfl),hf]
 exact I.write (x:=p) (e:=p) (by rw[h];trivial) (.inl rfl) (λ b u z q=>(uap _ _ (Ne.symm z)).trans q) ⟨_,e⟩ ?_;exact⟨hz,its',n',r,e⟩
inductive rSetL_i  (o:V) (i:V) (v:V) (H:Hp) (Q:Hp->Prop):Prop
 | mk:∀ p xs k j,(o=.ref p)->(i=.int k)->(H p=some (.lst xs))->(ixN xs.length k=some j)->(Q (upd H p (.lst (xs.set j v))))->rSetL_i o i v H Q
def rSetL :V->V->V->Hp->(Hp->Prop)->Prop:=λ o i v H Q=>rSetL_i o i v H Q
theorem fG:PSet X rSetL:=by
 intro pins s σ H o i v ov iv u Q I ro ri rv h;obtain⟨p,xs,k,j,rfl,rfl,U,hj,q⟩:=h;cases ro;obtain⟨t,rfl⟩:=ri;obtain⟨its,n,r,F,hz⟩:=I.lst U;obtain⟨h1,h2,h3,O⟩:=kA hj;let hl:=r.length;let hn:=line63;let I':Inv X pins σ (upd H p (.lst (xs.set j v))) { s with heap:=s.heap.update p (Obj.mapSeq (·.setIfInBounds j u)) } :=
  I.lstUpd U F (xC its n j u) (r.set rv j) (by rw[ucu];exact hz) s.toks
 by_cases h0:0<=k
 ·let z:k.toNat=j:=by
   rw[seqIndex_of h0 O] at h1;exact uaz h1
  exact PySem.W.ki_setAt F h0 (by left) (by rw[k9,← hl];exact O) (by rw[z];exact⟨_,I',q⟩)
 ·let z:(k+(its.toArray.size:Int)).toNat=j:=by
   rw[seqIndex_neg (by left) h3] at h1;rw[k9,← hl];exact uaz h1
  exact PySem.W.ki_setBack F (by left) (by rw[k9,← hl];exact h3) (by left) (by rw[z];exact⟨_,I',q⟩)
theorem uY (lo hi:Option Int)(n:Nat):(sliceBounds lo hi none n).1=((HT.sIx n 0 lo:Nat):Int)/\(sliceBounds lo hi none n).2.1=((HT.sIx n n hi:Nat):Int)/\(sliceBounds lo hi none n).2.2=1:=by
 exact⟨?_,?_,rfl⟩
 ·cases lo with
  | none=>simp [sliceBounds,HT.sIx]
  | some i =>
   simp only [sliceBounds,HT.sIx,Option.getD_none,show (1:Int)>0 by decide,if_true];by_cases h:i<0
   ·simp only [h,if_true] <;> left
   ·simp only [h,if_false] <;> left
 ·cases hi with
  | none=>simp [sliceBounds,HT.sIx]
  | some i =>
   simp only [sliceBounds,HT.sIx,Option.getD_none,show (1:Int)>0 by decide,if_true];by_cases h:i<0
   ·simp only [h,if_true] <;> left
   ·simp only [h,if_false] <;> left
theorem uG (its:List i5)(lo hi:Option Int):slicePick its.toArray lo hi none=((its.drop (HT.sIx its.length 0 lo)).take (HT.sIx its.length its.length hi-HT.sIx its.length 0 lo)).toArray:=by
 obtain⟨h1,h2,h3⟩:=uY lo hi its.toArray.size;unfold slicePick;rw[h1,h2,h3];simp only [sliceRange_one,pick_run,k9] <;> rfl
inductive rSlL_i (K:b8)(x:V)(lo:Option Int)(hi:Option Int)(H:Hp)(Q:VK):Prop
 | mk:∀ a xs,(x=.ref a)->(SqL K H a xs)->(∀ p,H p=none->Q (.ref p) (upd H p (.lst (cutV xs lo hi))))->rSlL_i K x lo hi H Q
def rSlL (K:b8):V->Option Int->Option Int->Hp->VK->Prop:=λ x lo hi H Q=>rSlL_i K x lo hi H Q
theorem zcd:SlR X (rSlL X.K):=by
 intro pins s σ H x v vl vu lo hi sl Q I rx hs pl U h;obtain⟨a,xs,rfl,O,q⟩:=h;cases rx;obtain⟨its,r,F,hz⟩:=I.list O;have z:=r.length;refine⟨"list",_,slot_list_getitem.lookup,F.isList.typeIs,?_⟩;refine wpAny_getItem_list_slice F.isList hs pl U .none (by simp) ?_ (by rw[k9] <;> left);rw[uG,← z];refine⟨.ref ‹128›,_,I.laid (t':=s.toks) (o:=.lst (cutV xs lo hi)) (λ b ob q=>a9 _ q) (i8 _) ?_,rfl,q _ (I.hok.fresh (i8 _))⟩;exact⟨uaj (lT xs lo hi) hz,_,0,(r.drop (HT.sIx xs.length 0 lo)).take ‹112›,i9 _ rfl⟩
def flatV:V->Bool
 | .non=>true
 | .bl _=>true
 | .int _=>true
 | .str _=>true
 | _=>false
def eqV:V->V->Bool
 | .non,.non=>true
 | .bl a,.bl b=>a==b
 | .bl a,.int b=>(if a then 1 else 0)==b
 | .int a,.bl b=>a==(if b then 1 else 0)
 | .int a,.int b=>a==b
 | .str a,.str b=>a==b
 | _,_=>false
theorem zed {A:uax}{s:i6}{y x:V}{u v:i5}(ry:RelV y u)(rx:RelV x v)(fy:flatV y=true)(fx:flatV x=true):SeqAt.EqAt A s u v (eqV y x):=by
 cases y with
 | non =>
  cases ry;cases x with
  | non=>cases rx;exact SeqAt.EqAt.same _
  | bl b=>cases rx;exact SeqAt.EqAt.none_bool b
  | int b=>obtain⟨t,rfl⟩:=rx;exact SeqAt.EqAt.none_int b t
  | str b=>obtain⟨t,rfl⟩:=rx;exact SeqAt.EqAt.none_str b t
  | _=>exact absurd (show false=true from fx) p6
 | bl a =>
  cases ry;cases x with
  | non=>cases rx;exact SeqAt.EqAt.bool_none a
  | bl b=>cases rx;exact SeqAt.EqAt.bool_bool a b
  | int b=>obtain⟨t,rfl⟩:=rx;exact SeqAt.EqAt.bool_int a b t
  | str b=>obtain⟨t,rfl⟩:=rx;exact SeqAt.EqAt.bool_str a b t
  | _=>exact absurd (show false=true from fx) p6
 | int a =>
  obtain⟨t',rfl⟩:=ry;cases x with
  | non=>cases rx;exact SeqAt.EqAt.int_none a t'
  | bl b=>cases rx;exact SeqAt.EqAt.int_bool a t' b
  | int b=>obtain⟨t,rfl⟩:=rx;exact SeqAt.EqAt.int_int a t' b t
  | str b=>obtain⟨t,rfl⟩:=rx;exact SeqAt.EqAt.int_str a t' b t
  | _=>exact absurd (show false=true from fx) p6
 | str a =>
  obtain⟨t',rfl⟩:=ry;cases x with
  | non=>cases rx;exact SeqAt.EqAt.str_none a t'
  | bl b=>cases rx;exact SeqAt.EqAt.str_bool a t' b
  | int b=>obtain⟨t,rfl⟩:=rx;exact SeqAt.EqAt.str_int a t' b t
  | str b=>obtain⟨t,rfl⟩:=rx;exact SeqAt.EqAt.str_str a t' b t
  | _=>exact absurd (show false=true from fx) p6
 | _=>exact absurd (show false=true from fy) p6
def eqU (x:V)(u:i5):Bool:=match u with
 | .none=>eqV .non x
 | .bool b=>eqV (.bl b) x
 | .int i _=>eqV (.int i) x
 | .str z _=>eqV (.str z) x
 | _=>false
theorem qZ {x y:V}{u:i5}(r:RelV y u)(f:flatV y=true):eqU x u=eqV y x:=by
 cases y with
 | non=>cases r;rfl
 | bl b=>cases r;rfl
 | int i=>obtain⟨t,rfl⟩:=r;rfl
 | str z=>obtain⟨t,rfl⟩:=r;rfl
 | _=>exact absurd (show false=true from f) p6
theorem fS {x:V}:∀ {xs:List V}{us:List i5},Vals xs us->xs.all flatV=true->us.any (eqU x)=xs.any λ y=>eqV y x
 | _,_,.nil,_=>rfl
 | y::xs,u::us,.cons r t,f=>by
  rw[List.all_cons,m7] at f;rw[uey,uey,qZ r f.1,fS t f.2]
theorem fJ {A:uax}{s:i6}{x:V}{v:i5}(rx:RelV x v)(fx:flatV x=true):∀ {xs:List V}{us:List i5},Vals xs us->xs.all flatV=true->∀ u∈us,SeqAt.EqAt A s u v (eqU x u)
 | _,_,.nil,_=>λ u q=>by cases q
 | y::xs,u::us,.cons r t,f=>λ z q=>by
  rw[List.all_cons,m7] at f;rcases j4.mp q with rfl | q
  ·rw[qZ r f.1];exact zed r rx f.1 fx
  ·exact fJ rx fx t f.2 z q
def inV (x:V)(xs:List V):Bool:=xs.any λ y=>eqV y x
inductive rIn_i (K:b8)(neg:Bool)(x:V)(y:V)(H:Hp)(Q:VK):Prop
 | mk:∀ p xs,(y=.ref p)->((SqL K H p xs\/SqT K H p xs))->(flatV x=true)->(xs.all flatV=true)->(Q (.bl (if neg then !inV x xs else inV x xs)) H)->rIn_i K neg x y H Q
def rIn (K:b8)(neg:Bool):R2:=λ x y H Q=>rIn_i K neg x y H Q
theorem yV:OpR X (compareOp .In) (rIn X.K false):=by
 intro pins s σ H x y v u Q I rx ry h;obtain⟨p,xs,rfl,z,U,fs,q⟩:=h;cases ry;rcases z with z | z
 ·obtain⟨its,r,F,hz⟩:=I.list z;exact SeqAt.in_listAt (eqU x) F.isList ‹99› ⟨.bl _,H,I,rfl,?_⟩;rw[show its.toArray.any (eqU x)=its.any (eqU x) by simp,fS r fs];exact q
 ·obtain⟨its,r,F,hz⟩:=I.tuple z;exact SeqAt.in_tupleAt (eqU x) F ‹99› ⟨.bl _,H,I,rfl,?_⟩;rw[show its.toArray.any (eqU x)=its.any (eqU x) by simp,fS r fs];exact q
theorem uZ:OpR X (compareOp .NotIn) (rIn X.K true):=by
 intro pins s σ H x y v u Q I rx ry h;obtain⟨p,xs,rfl,z,U,fs,q⟩:=h;cases ry;rcases z with z | z
 ·obtain⟨its,r,F,hz⟩:=I.list z;exact SeqAt.notIn_listAt (eqU x) F.isList ‹99› ⟨.bl _,H,I,rfl,?_⟩;rw[show its.toArray.any (eqU x)=its.any (eqU x) by simp,fS r fs];exact q
 ·obtain⟨its,r,F,hz⟩:=I.tuple z;exact SeqAt.notIn_tupleAt (eqU x) F ‹99› ⟨.bl _,H,I,rfl,?_⟩;rw[show its.toArray.any (eqU x)=its.any (eqU x) by simp,fS r fs];exact q
inductive call_len_seq_i (K:b8)(xs:List V)(H:Hp)(Q:VK):Prop
 | mk:∀ p ys,(xs=[.ref p])->((SqL K H p ys\/SqT K H p ys))->(Q (.int ys.length) H)->call_len_seq_i K xs H Q
theorem bD:CallR X (.builtin "len") (call_len_seq_i X.K):=by
 intro pins s σ H xs us Q I r h;obtain⟨p,ys,rfl,F,q⟩:=h;obtain⟨u,rfl,rx⟩:=vals1 r;cases rx;let hn:=line63;rcases F with F | F
 ·obtain⟨its,O,U,hz⟩:=I.list F;let z:=O.length;exact Calls.call_len_list U.isList (by simp only [k9] <;> left) ⟨.int ys.length,H,I.tok _,⟨s.toks+1,by rw[k9,z]⟩,q⟩
 ·obtain⟨its,O,U,hz⟩:=I.tuple F;let z:=O.length;exact len_tuple U (by simp only [k9] <;> left) ⟨.int ys.length,H,I.tok _,⟨s.toks+1,by rw[k9,z]⟩,q⟩
inductive call_tuple_of_i (K:b8)(xs:List V)(H:Hp)(Q:VK):Prop
 | mk:∀ p ys,(xs=[.ref p])->(((SqL K H p ys/\∀ l,H l=none->Q (.ref l) (upd H l (.tup ys)))\/(SqT K H p ys/\Q (.ref p) H)))->call_tuple_of_i K xs H Q
theorem lH:CallR X (.type "tuple") (call_tuple_of_i X.K):=by
 intro pins s σ H xs us Q I r h;obtain⟨p,ys,rfl,h⟩:=h;obtain⟨u,rfl,rx⟩:=vals1 r;cases rx;rcases h with ⟨F,q⟩ | ⟨F,q⟩
 ·obtain⟨its,z,O,hz⟩:=I.list F;let aa:=z.length;exact call_tuple_list O.isList (λ h' kp=>?_) (by simp only [k9] <;> left);let U:Inv X pins σ H { s with heap:=h' }:=I.kept (t':=s.toks) kp;let I2:Inv X pins σ (upd H h'.objs.size (.tup ys)) { s with heap:=h'.push { cls:=.type "tuple",data:=.seq its.toArray } } :=
   U.laid (t':=s.toks) (λ b o e=>a9 _ e) (i8 _) (show ObjOk X.prog X.w _ _ _ (.tup ys) from ⟨hz,its,z,TupN.new _ _⟩)
  exact⟨.ref h'.objs.size,_,I2,rfl,q _ (U.hok.fresh (i8 _))⟩
 ·obtain⟨its,z,O,hz⟩:=I.tuple F;exact call_tuple_same O ⟨.ref p,H,I,rfl,q⟩
def tyV (K:b8)(T:String)(x:V)(H:Hp):Prop:=match x with
 | .str _=>T="str"
 | .int _=>T="int"
 | .ref p => (T = "list" /\ ∃ xs, SqL K H p xs) \/ (T = "tuple" /\ ∃ o, K.lookup p = some o /\ o.cls = .type "tuple" /\ o.dict = none) \/
     (T="dict"/\((∃ kvs,H p=some (.dK kvs))\/∃ kvs,H p=some (.dT kvs)))\/(T="set"/\∃ S n,H p=some (.set S n))
 | _=>False
theorem zdk {pins:List (o7 × Obj)}{σ:St}{H:Hp}{s:i6}{T:String}{x:V}{v:i5}(I:Inv X pins σ H s)(r:RelV x v)(ty:tyV X.K T x H) :
  s.TypeIs v T/\∀ a,v=.ref a->∃ ob,s.heap.get? a=some ob/\ob.dict=none:=by
 cases x with
 | str z =>
  obtain⟨t,rfl⟩:=r;cases (show T="str" from ty);exact⟨typeIs_str s z t,λ _ e=>nomatch e⟩
 | int i =>
  obtain⟨t,rfl⟩:=r;cases (show T="int" from ty);exact⟨typeIs_int s i t,λ _ e=>nomatch e⟩
 | ref p =>
  cases r;rcases ty with ⟨rfl,xs,U⟩ | ⟨rfl,o,q,hc,F⟩ | ⟨rfl,q⟩ | ⟨rfl,S,n,q⟩
  ·obtain⟨its,_,O,_⟩:=I.list U;exact⟨O.isList.typeIs,λ a e=>?_⟩;cases e;obtain⟨o,n,e,c,F,_⟩:=O;exact⟨o,e,F⟩
  ·exact⟨⟨o,I.kIn p o q,hc⟩,λ a e=>?_⟩;cases e;exact⟨o,I.kIn _ o q,F⟩
  ·let z:∃ o,s.heap.get? p=some o/\o.ExactDict:=by
    rcases q with ⟨kvs,q⟩ | ⟨kvs,q⟩
    ·obtain⟨_,_,_,_,o,_,_,e,ex,_⟩:=I.hok p _ q;exact⟨o,e,ex⟩
    ·obtain⟨_,_,_,_,o,_,_,e,ex,_⟩:=I.hok p _ q;exact⟨o,e,ex⟩
   obtain⟨o,e,ex⟩:=z;exact⟨⟨o,e,ex.1⟩,λ a e2=>?_⟩;cases e2;exact⟨o,e,ex.2.1⟩
  ·obtain⟨o,_,_,_,e,ex,_⟩:=I.hok p _ q;exact⟨⟨o,e,ex.1⟩,λ a e2=>?_⟩;cases e2;exact⟨o,e,ex.2.1⟩
 | _=>exact False.elim ty
def tBM (K:b8)(T:String)(r:V->List V->Hp->VK->Prop)(to:TE)(t:TA):TE:=λ σ H Q=>to σ H λ x H1=>tyV K T x H1/\t σ H1 λ xs H2=>r x xs H2 Q
variable {o e:uc7}{es:List uc7}{to:TE}{t:TA}{name:Str}{apos cpos:Pos}{T id:String}{r:V->List V->Hp->VK->Prop}
theorem dQ (pa:PlainAttrs T)(slot:Slot T name id)(hty:typeOf (.builtin id)=pure (.type "method_descriptor"))(hm:MtR X id r)(ho:PE X o to)(ha:PA X (e::es) t)
  (hbase:attributeBase o name X.env (eval o X.env)=eval o X.env:=by rfl)
  (hfew:((backTo cpos (ubi (e::es) X.env)).all (λ x=>!x.1)&&(backToKw cpos (keywordEach [] X.env)).all (λ x=>x.1.isSome)
  &&decide ((e::es).length+([]:List Keyword).length+(if ([]:List Keyword).isEmpty then 0 else 1)<30))=true:=by rfl)
  (hline:(apos.endLine==cpos.line)=true:=by rfl) (hs:ubi (e::es) X.env=(false,eval e X.env)::ubi es X.env:=by rfl) (hplain:(backTo cpos (ubi es X.env)).any (·.1)=false:=by rfl) :
  PE X (.Call (.Attribute o name apos) (e::es) [] cpos) (tBM X.K T r to t):=by
 intro pins s σ H Q I h;exact wpAny_Call_method_late hbase hfew hline rfl (thn (ho pins s σ H _ I h) λ v s1 ⟨x,H1,q,r1,ty,F⟩=>?_);obtain⟨h1,h2⟩:=zdk q r1 ty;exact⟨T,id,pa,slot,hty,h1,h2,?_⟩;let z:=ha cpos pins s1 σ H1 _ q F;rw[hs] at z ⊢;exact Calls.callWith_builtin (by show (false||(backTo cpos (ubi es X.env)).any (·.1))=false;rw[hplain] <;> rfl) (Calls.evalArgs_plain ?_);exact thn z λ us s2 ⟨vs,H2,U,r2,O⟩=>hm pins s2 σ H2 x vs v us Q U r1 r2 O
end
end L2
namespace L2
open PySem PySem.Spec PyProof.Rows
def MtM (X:Cx)(id:String)(r:V->List V->Hp->VK->Prop):Prop :=
 ∀ (pins:List (o7 × Obj))(s:i6)(σ:St)(H:Hp)(x:V)(xs:List V)(v:i5)(us:List i5)(Q:VK),Inv X pins σ H s->RelV x v->Vals xs us->r x xs H Q ->
  j7 ‹38› X.A (call (.builtin id) (v::us)) ‹121› X.xe s
theorem Vals.one:∀ {x:V}{us:List i5},Vals [x] us->∃ u,us=[u]/\RelV x u
 | _,_,.cons r .nil=>⟨_,rfl,r⟩
theorem Vals.two:∀ {x y:V}{us:List i5},Vals [x,y] us->∃ u v,us=[u,v]/\RelV x u/\RelV y v
 | _,_,_,.cons r (.cons q .nil)=>⟨_,A,r,q⟩
theorem Vals.eraseIdx:∀ {xs:List V}{us:List i5}(i:Nat),Vals xs us->Vals (xs.eraseIdx i) (us.eraseIdx i)
 | _,_,_,.nil=>.nil
 | _,_,0,.cons _ t=>t
 | _,_,i+1,.cons r t=>.cons r (Vals.eraseIdx i t)
theorem Vals.reverse {xs:List V}{us:List i5}(h:Vals xs us):Vals xs.reverse us.reverse:=by
 induction h with
 | nil=>exact .nil
 | cons r t ih=>rw[uej,uej];exact Vals.append ih (.cons r .nil)
theorem Vals.rep {xs:List V}{us:List i5}(h:Vals xs us):∀ k:Nat,Vals (v6 k xs).flatten (v6 k us).flatten
 | 0=>.nil
 | k+1=>by
  rw[uc9,uc9,uek,uek];exact Vals.append h (Vals.rep h k)
theorem mY {α:Type}:∀ (l:List α)(i:Nat),(l.eraseIdx i).length<=l.length
 | [],_=>i8 _
 | _::_,0=>udc _
 | _::r,i+1=>ufz (mY r i)
theorem nE (its:List i5):∀ (k:Nat)(acc:List i5),
  uhu (λ x1 x2=>x1++x2) acc.toArray (v6 k its.toArray)=(acc++(v6 k its).flatten).toArray
 | 0,acc=>by simp
 | k+1,acc=>by
  let e:acc.toArray++its.toArray=(acc++its).toArray:=by simp
  let e2:(acc++its)++(v6 k its).flatten=acc++(v6 (k+1) its).flatten:=by
   rw[uc9,uek,ufm]
  rw[← e2,← nE its k (acc++its),← e,uc9,List.foldl_cons]
section
variable {X:Cx}{pins:List (o7 × Obj)}{σ:St}{H:Hp}{s:i6}{l b:o7}{xs ys zs:List V}
theorem Inv.lset {its its':List i5}{n:Nat}{f:Array i5->Array i5}{t':Nat}(I:Inv X pins σ H s)(hH:H l=some (.lst xs))
  (e:s.heap.get? l=some { cls:=.type "list",data:=.seq its.toArray n }) (hf:f its.toArray=its'.toArray) (hv:Vals ys its') (hz:ys.length<=p8) :
  Inv X pins σ (upd H l (.lst ys)) { s with heap:=s.heap.update l (Obj.mapSeq f),toks:=t' }:=by
 let q:=PySem.IsL.update e f;rw[hf] at q;exact I.write (x:=l) (e:=l) (by rw[hH];exact trivial) (.inl rfl) (λ O u F z=>(uap s.heap (Obj.mapSeq f) (Ne.symm F)).trans z) ⟨_,q⟩ ?_;exact⟨hz,its',_,hv,q⟩
theorem Inv.lnew {its:List i5}{t':Nat}(I:Inv X pins σ H s)(hv:Vals ys its)(hz:ys.length<=p8) :
  Inv X pins σ (upd H ‹128› (.lst ys)) { s with heap:=s.heap.push { cls:=.type "list",data:=.seq its.toArray },toks:=t' } :=
 I.laid (λ _ _ q=>a9 _ q) (i8 _) ⟨hz,its,0,hv,i9 _ rfl⟩
theorem Inv.fresh (I:Inv X pins σ H s):H ‹128›=none:=I.hok.fresh (i8 _)
theorem Inv.lstM (I:Inv X pins σ H s)(hH:H l=some (.lst xs)):xs.length<=p8/\∃ (its:List i5)(n:Nat),Vals xs its/\xs.length=its.length/\s.heap.get? l=some { cls:=.type "list",data:=.seq its.toArray n }:=by
 obtain⟨z,its,n,r,e⟩:=I.hok l _ hH;exact⟨z,its,n,r,r.length,e⟩
theorem notLongL {n:Nat}(h:n<=p8):Builtin.List.listTooLong n=false:=by
 unfold Builtin.List.listTooLong;exact uh1 (by left)
end
section
variable {X:Cx}
inductive rAppend_i  (x:V) (vs:List V) (H:Hp) (Q:VK):Prop
 | mk:∀ l xs y,(x=.ref l)->(vs=[y])->(H l=some (.lst xs))->(xs.length<p8)->(Q .non (upd H l (.lst (xs++[y]))))->rAppend_i x vs H Q
def rAppend :V->List V->Hp->VK->Prop:=λ x vs H Q=>rAppend_i x vs H Q
theorem gR:MtM X "list.append" rAppend:=by
 intro pins s σ H x vs v us Q I rx U h;obtain⟨l,xs,y,rfl,rfl,O,hz,q⟩:=h;cases rx;obtain⟨u,rfl,ru⟩:=U.one;obtain⟨z,its,n,r,hl,e⟩:=I.lstM O;exact uhd F.slot_list_append ⟨_,e,rfl⟩ F.entry_list_append (F.args_list_append_2 _ _) (PySem.list_append l its.toArray n u (by rw[k9];left)) ⟨e,?_⟩;exact⟨.non,_,I.lset (its':=its++[u]) O e (by simp) (r.append (.cons ru .nil)) ?_,rfl,q⟩;rw[i7,j6];left
inductive rExtend_i  (x:V) (vs:List V) (H:Hp) (Q:VK):Prop
 | mk:∀ l b xs zs,(x=.ref l)->(vs=[.ref b])->(H l=some (.lst xs))->(H b=some (.lst zs))->(xs.length+zs.length<=p8)->(Q .non (upd H l (.lst (xs++zs))))->rExtend_i x vs H Q
def rExtend :V->List V->Hp->VK->Prop:=λ x vs H Q=>rExtend_i x vs H Q
theorem zB:MtM X "list.extend" rExtend:=by
 intro pins s σ H x vs v us Q I rx rv h;obtain⟨l,b,xs,zs,rfl,rfl,hH,hB,hz,q⟩:=h;cases rx;obtain⟨u,rfl,ru⟩:=rv.one;cases ru;obtain⟨z,its,n,r,hl,e⟩:=I.lstM hH;obtain⟨z2,O,n2,r2,ab,e2⟩:=I.lstM hB;let aa:its.toArray.size+O.toArray.size<=p8:=by rw[k9,k9];left
 let U:¬ (!its.toArray.isEmpty&&Builtin.List.listTooLong (its.toArray.size+O.toArray.size))=true:=by
  rw[notLongL aa,uho];exact p6
 exact uhd F.slot_list_extend ⟨_,e,rfl⟩ F.entry_list_extend (F.args_list_extend_2 _ _)
  (AutoSeq1.list_extend_list_list_0 l its.toArray n b O.toArray n2 U (by rw[k9];left) (by left)) ⟨e,e2,?_⟩
 exact⟨.non,_,I.lset (its':=its++O) hH e (by simp) (r.append r2) ?_,rfl,q⟩;rw[i7];left
inductive rPopAt_i  (x:V) (vs:List V) (H:Hp) (Q:VK):Prop
 | mk:∀ l xs i k y,(x=.ref l)->(vs=[.int i])->(H l=some (.lst xs))->(-(2^63)<=i)->(i<2^63)->(seqIndex? i xs.length=some k)->(xs[k]?=some y)->(Q y (upd H l (.lst (xs.eraseIdx k))))->rPopAt_i x vs H Q
def rPopAt :V->List V->Hp->VK->Prop:=λ x vs H Q=>rPopAt_i x vs H Q
theorem za2:MtM X "list.pop" rPopAt:=by
 intro pins s σ H x vs v us Q I rx rv h;obtain⟨l,xs,i,k,y,rfl,rfl,U,h1,h2,hk,hy,q⟩:=h;cases rx;obtain⟨u,rfl,ru⟩:=rv.one;obtain⟨t,rfl⟩:=ru;obtain⟨z,its,n,r,hl,e⟩:=I.lstM U;obtain⟨w,hw,O⟩:=r.get hy;exact uhd F.slot_list_pop ⟨_,e,rfl⟩ F.entry_list_pop (F.args_list_pop_2 _ _)
  (MeetsSeq.list_pop_at l its.toArray n i t k w (fitsIndex_both h1 h2) (by rw[k9,← hl];exact hk) (by rw[← ub1];exact hw) (by rw[k9];left)) ⟨e,?_⟩
 exact⟨y,_,I.lset (its':=its.eraseIdx k) U e ?_ (r.eraseIdx k) ?_,O,q⟩
 ·show its.toArray.eraseIdxIfInBounds k=(its.eraseIdx k).toArray;rw[List.eraseIdxIfInBounds_toArray]
 ·let:=mY xs k;left
inductive rRep_i  (x:V) (y:V) (H:Hp) (Q:VK):Prop
 | mk:∀ l k xs,(x=.ref l)->(y=.int k)->(H l=some (.lst xs))->(-(2^63)<=k)->(k<2^63)->(xs.length*k.toNat<=p8)->(∀ p,H p=none->Q (.ref p) (upd H p (.lst (v6 k.toNat xs).flatten)))->rRep_i x y H Q
def rRep :R2:=λ x y H Q=>rRep_i x y H Q
theorem zcv {α:Type}(xs:List α)(k:Nat):(v6 k xs).flatten.length=k*xs.length:=by
 induction k with
 | zero=>simp
 | succ k ih=>rw[uc9,uek,i7,ih,Nat.succ_mul,ufb]
theorem zdy:OpR X (binaryOp .Mult) rRep:=by
 intro pins s σ H x y v u Q I rx ry h;obtain⟨l,k,xs,rfl,rfl,hH,h1,h2,hz,q⟩:=h;cases rx;obtain⟨t,rfl⟩:=ry;obtain⟨z,its,n,r,hl,e⟩:=I.lstM hH;have aa:its.toArray.size*k.toNat<=p8:=by rw[k9,← hl];exact hz
 let ac:¬ its.toArray.size*k.toNat>(2^63-1) / 8:=by
  let:(p8:Nat)<=(2^63-1) / 8:=by decide
  left
 let ad:¬ (!Builtin.List.listFitsIndex k)=true:=by
  rw[fitsIndex_both h1 h2];exact p6
 let O:¬ Builtin.List.listTooLong (its.toArray.size*k.toNat)=true:=by
  rw[notLongL aa];exact p6
 let ab:uhu (λ x1 x2=>x1++x2) #[] (v6 (if its.toArray.isEmpty=true then 0 else k.toNat) its.toArray)=(v6 k.toNat its).flatten.toArray:=by
  let f0:∀ m:Nat,uhu (λ x1 x2=>x1++x2) #[] (v6 m its.toArray)=(v6 m its).flatten.toArray:=λ m=>by
   let:=nE its m [];rw[List.nil_append] at this;exact this
  rw[f0];cases its with
  | nil=>simp
  | cons a r'=>rw[uh3 (by simp)]
 exact wpAny_binaryOp_repeat_ref (T:="list") (U:="int") (by decide) ⟨_,e,rfl⟩ (λ s'=>typeIs_int s' k t) noFill_list_mul F.fills_int_mul F.slot_int_rmul repeat_list F.slot_int_index.lookup
  (uhd F.slot_int_rmul (typeIs_int s k t) F.entry_int_rmul (F.args_int_rmul_2 _ _) (int___rmul___int_list k t l its.toArray n)
   ⟨e,rfl,⟨_,e,rfl⟩,uhd F.slot_list_mul ⟨_,e,rfl⟩ F.entry_list_mul (F.args_list_mul_2 _ _) (AutoListH.list___mul___list_int_3 l its.toArray n k t ad ac O) ⟨e,?_⟩⟩)
 rw[ab];exact⟨.ref _,_,I.lnew (t':=s.toks) (r.rep k.toNat) (by rw[zcv,Nat.mul_comm];exact hz),rfl,q _ I.fresh⟩
end
section
variable {prog:o9}{w:uaw}{A:uax}{E:i5->i6->Prop}{s:i6}
end
section
variable {X:Cx}
end
end L2
namespace Att
open PySem PySem.W PySem.Calls PyProof.Rows
theorem sZ {P:Params}{h:Heap}:∀ (ns:List Int)(vs:List i5),WellAll P h vs (ns.map WData.int)->IntsAre vs ns:=by
 intro ns;induction ns with
 | nil =>
  intro vs w;rw[List.map_nil] at w;cases w;exact .nil
 | cons n ns ih =>
  intro vs w;rw[ubc] at w;cases w with
  | cons a b =>
   cases a;exact .cons _ _ (ih _ b)
theorem yH {l:OpenLaw}{n:Nat}(hn:l.most=some n){P:Params}{h:Heap}{args:List WData}{vals:List i5}
  (hpre:l.row.toRowW.claim.pre args=true) (hwl:WellAll P h vals args) :
  ∃ a vs ns,vals=[Value.ref a]/\args=[WData.list (ns.map WData.int)]/\h.get? a=some { cls:=.type "list",data:=.seq vs.toArray }/\IntsAre vs ns/\ns.length<=n:=by
 let U:WShape.hasAll [] args [.list .int]=true:=(pre_splitW hpre).1;let hc:l.pre.holds [] { args:=args }=true:=(pre_splitW hpre).2;obtain⟨d,r,rfl,h1,h2⟩:=hasAllW_cons U;obtain rfl:=hasAllW_nil h2;obtain⟨xs,rfl,h3⟩:=hasW_list h1;obtain⟨ns,rfl⟩:=items_int h3;let z:ns.length<=n:=by
  unfold OpenLaw.pre at hc;let F:(WTm.not (.lt (.lit (.int (n:Int))) (.len (.arg 0)))).holds [] { args:=[.list (ns.map .int)] }=true:=by
   let F:=(holds_andW hc).1;rw[hn] at F;exact F
  let O:=condW_of F (w_not (w_lt w_lit (w_len_list (w_arg rfl))));rw[c9] at O;exact Nat.le_of_not_lt λ q=>?_;let q':(n:Int)<((ns.length:Nat):Int):=by left
  first
   | (rw[uhz q'] at O;exact absurd O (by decide))
   | (simp at O;left)
 cases hwl with
 | cons w1 w2 =>
  cases w2;cases w1 with
  | list ho hall=>exact⟨P,ns,M,ho,sZ ns _ hall,z⟩
theorem yO (l:OpenLaw)(args:List WData):l.row.toRowW.claim.post args (.bool true) args=true :=
 postW_of (r:=l.row.toRowW) (X:=(true==true))
  (show WShape.has [] (.bool true) .bool=true by first | rfl | decide | simp [WShape.has,WShape.arms,WShape.armsAll])
  (show (WTm.eq .res (.lit (.bool true))).value [] { args:=args,res:=some (.bool true),after:=args }=some (.bool (true==true)) from w_eq_bool (w_res rfl) w_lit) rfl
theorem attach_call {l:OpenLaw}{n:Nat}{q:o9}{loose:List Str}{XP:(Str->Option i5)->Heap->Prop}{YP:uaw->Heap->Prop}{d:DefRec}
  (hn:l.most=some n) (hdf:d.params.defaults=[])
  (call:∀ (w:uaw)(s₀ s₁:i6)(mg mb:Str->Option i5)(fa:o7)(o:Obj)(pm cd doc:i5)(a:o7)(vs:List i5)(ns:List Int),
   Ground q loose [] XP w s₀ mg mb s₁.heap->YP w s₁.heap ->
   s₁.heap.get? fa=some o->o.data=.func (docDef d.name d.params d.body d.scope pm cd doc)->s₁.heap.CodeRec cd d.name->mg d.name=some (.ref fa) ->
   s₁.heap.get? a=some { cls:=.type "list",data:=.seq vs.toArray }->IntsAre vs ns->ns.length<=n->s₁.gens=#[] ->
   codeAny (v4 l.prog w) callerA (.call (.ref fa) ⟨[.ref a],[]⟩) ‹61› s₁) :
  WalkO q loose XP YP l.row.toRowW d [] (λ f vs=>PySem.call f vs):=by
 intro w s₀ s₁ mg mb G Y fa o pm cd doc dV kV ho hd ac hD ab hg ae ad as U af ai aa ah;obtain rfl:dV=.none:=Dflts.none hD hdf;obtain rfl:kV=.none:=Dflts.noKw hD;obtain⟨a,vs,ns,rfl,rfl,O,z,F⟩:=yH hn U aa;exact enter_call (ude (call w s₀ s₁ mg mb fa o pm cd doc a vs ns G Y ho (fd_plain hd) ac ab O z F hg) λ r s' hq=>?_);obtain⟨rfl,h2,h3,h4⟩:=hq;exact⟨.inl ⟨.bool true,.bool true,[],rfl,λ _=>rfl,.bool true,yO l _,λ _=>⟨uhh,λ _ hm=>(nomatch hm)⟩⟩,h2,h3,h4⟩
section
variable {prog:o9}{w:uaw}{A:uax}{E:i5->i6->Prop}{s:i6}{K:Frag}
end
end Att
namespace L2
open PySem PySem.Spec PyProof.Rows
theorem mL:∀ {vs:List i5}{ns:List Int},IntsAre vs ns->Vals ‹67› vs
 | _,_,.nil=>.nil
 | _,_,.cons n t h=>.cons ⟨t,rfl⟩ (mL h)
def Only (H:Hp):Prop:=∀ b,H b=none\/∃ o xs,H b=some (.frz o (.lst xs))
theorem za4 {P:o9}{w:uaw}{K:b8}{mg mb:Str->Option i5}{CX:CXT}{k:Nat}{fa a:o7}{fd:FuncData}{x:Str}{sp:Sp}{s₁:i6}{vs:List i5}{ns:List Int}
  (KX:K.In s₁.heap) (hns:s₁.heap.Ns uad mg) (hb:s₁.heap.Ns builtinsNs mb) (hbb:∀ x:Str,x≠"__name__"->mb x=bootBuiltins x) (hlim:s₁.heap.NoLimit) (hg:s₁.gens=#[])
  (ha:s₁.heap.get? a=some { cls:=.type "list",data:=.seq vs.toArray }) (hi:IntsAre vs ns) (hl:ns.length<=p8) (hr:Room k callerA)
  (F:∀ base:Heap,K.In base->base.Ns uad mg->FnOk P w K mg base CX k fa fd [x] sp) (hbind:∀ (s:i6)(u:i5),BindsTo s fd ⟨[u],[]⟩ [(x,u)])
  (hsp:∀ H:Hp,Only H->SqL K H a ‹67›->sp [.ref a] H (λ v _=>v=.bl true) λ _ _ _=>False)
  (hCX:∀ H e s',CX [] H s₁ (λ _ _ _=>False) e s'->False) :
  codeAny (v4 P w) callerA (.call (.ref fa) ⟨[.ref a],[]⟩) ‹61› s₁:=by
 let rv:=mL hi;let ac:=hi.length
 let aa : ∀ H : Hp, Only H → SqL K H a ‹67› → HOk P w H s₁.heap → (∀ b, H b ≠ none → b = a) → (H a ≠ none → K.lookup a = none) →
     codeAny (v4 P w) callerA (.call (.ref fa) ⟨[.ref a],[]⟩) ‹61› s₁:=by
  intro H hO hS ae hA hK;let O:∀ {b:o7}{o:Obj},s₁.heap.get? b=some o->H b=none->(hidT s₁.heap H).get? b=some o:=λ e n=>za9 e n;let ah:∀ {b:o7}{o:Obj}{es:Array DictEntry}{ep:Nat},s₁.heap.get? b=some o->o.data=.dict es ep->H b=none:=λ {b o es ep} e d=>by
   cases q:H b with
   | none=>rfl
   | some u =>
    let e':b=a:=hA b (by rw[q];simp);subst e';rw[ha] at e;cases e;let d':Data.seq vs.toArray _=Data.dict es ep:=d;cases d'
  let U:∀ {b:o7}{m:Str->Option i5},s₁.heap.Ns b m->(hidT s₁.heap H).Ns b m:=λ {b m} ⟨o,es,ep,e,d,r⟩=>⟨o,es,ep,O e (ah e d),d,r⟩;let ad:K.In (hidT s₁.heap H):=λ b o e=>O (KX b o e) (by
   cases q:H b with
   | none=>rfl
   | some u =>
    let e':b=a:=hA b (by rw[q];simp);subst e';rw[hK (by rw[q];simp)] at e;cases e)
  let hM:Mod K mg (hidT s₁.heap H):=⟨ad,U hns,⟨mb,U hb,hbb⟩,let ⟨mc,h1,h2⟩:=hlim;⟨mc,U h1,h2⟩⟩;let e0:Env0 P w K mg (hidT s₁.heap H) callerA [] s₁ H:=⟨rfl,hM,λ b o e=>zcq e,ugb (zN _ _),trivial,λ b hb=>absurd (show b∈([]:List o7) from hb) (by simp),ae,.of_eq hg⟩;exact ude ((F _ ad (U hns)).run callerA [] s₁ H ⟨[.ref a],[]⟩ [.ref a] [.ref a] _ _ hr e0 (hbind s₁ (.ref a)) (.cons rfl .nil) (hsp H hO hS)) λ r s' h=>?_;cases r with
  | error e=>exact (hCX H e s' h).elim
  | ok fl =>
   cases fl with
   | next=>exact False.elim h
   | brk=>exact False.elim h
   | cont=>exact False.elim h
   | ret u =>
    obtain⟨v,H',os,ab,un,af,r',q⟩:=h;let q':v=.bl true:=q;subst q';obtain rfl:u=Value.bool true:=r';exact⟨rfl,OldK.of_keep λ b o e=>?_,os,ab⟩;cases q:H b with
    | none=>exact un.keep b o e q (by intro z;exact absurd (show b∈([]:List o7) from z) (by simp)) (by simp)
    | some u =>
     rcases hO b with z | ⟨ob,xs,z⟩
     ·rw[q] at z;cases z
     ·let z2:=un.frzs b ob _ z;obtain⟨e1,_⟩:=ae b _ z;obtain⟨e2,_⟩:=af b _ z2;rw[e] at e1;cases e1;exact e2
 cases hk:K.lookup a with
 | some o =>
  let e:=KX a o hk;rw[ha] at e;cases e;exact aa (λ _=>none) (λ _=>.inl rfl) (.inr ⟨_,vs.toArray,_,hk,rfl,rfl,rfl,by rw[k9,ac];exact hl,by simpa using rv⟩) (λ b u z=>by let z':(none:Option HO)=some u:=z;cases z') (λ b z=>absurd rfl z) λ z=>absurd rfl z
 | none =>
  exact aa (λ b=>if b=a then some (.frz { cls:=.type "list",data:=.seq vs.toArray } (.lst ‹67›)) else none) (λ b=>?_) (.inl (.inr ⟨{ cls:=.type "list",data:=.seq vs.toArray },uh2 rfl⟩)) (λ b u z=>?_) (λ b z=>?_) λ _=>hk
  ·by_cases hb:b=a
   ·exact .inr ⟨P,uh2 hb⟩
   ·exact .inl (uh3 hb)
  ·by_cases hb:b=a
   ·let z':=(uh2 hb).symm.trans z;cases z';subst hb;exact⟨ha,by rw[c9];exact hl,vs,_,rv,ha⟩
   ·let z':=(uh3 hb).symm.trans z;cases z'
  ·by_cases hb:b=a
   ·exact hb
   ·exact absurd (uh3 hb) z
end L2
namespace L2
open PySem PySem.Spec PyProof.Rows
theorem zb2 {l:PySem.W.OpenLaw}{n k:Nat}{q:o9}{loose:List Str}{XP:(Str->Option i5)->Heap->Prop}{YP:uaw->Heap->Prop}{d:DefRec}{K:Params->b8}{CX:uaw->CXT}{sp:uaw->Sp}{x:Str}
  (hn:l.most=some n) (hn2:n<=p8) (hdf:d.params.defaults=[]) (hr:Room k callerA)
  (hY:∀ (w:uaw)(h:Heap),YP w h->(K w.params).In h)
  (F:∀ (w:uaw)(mg:Str->Option i5)(fa:o7)(h:Heap),(K w.params).In h->h.Ns uad mg->mg d.name=some (.ref fa) ->
   ∃ fd:FuncData,(∀ (s:i6)(u:i5),BindsTo s fd ⟨[u],[]⟩ [(x,u)]) /\
    ∀ base:Heap,(K w.params).In base->base.Ns uad mg->FnOk l.prog w (K w.params) mg base (CX w) k fa fd [x] (sp w))
  (hsp:∀ (w:uaw)(H:Hp)(a:o7)(ns:List Int),ns.length<=n->Only H->SqL (K w.params) H a ‹67›->sp w [.ref a] H (λ v _=>v=.bl true) λ _ _ _=>False)
  (hCX:∀ (w:uaw)(H:Hp)(s:i6)(e:i5)(s':i6),CX w [] H s (λ _ _ _=>False) e s'->False) :
  PySem.W.WalkO q loose XP YP l.row.toRowW d [] (λ f vs=>PySem.call f vs):=by
 exact Att.attach_call hn hdf λ w ac aa mg mb fa o pm cd ad a vs ns G Y ho hd ae ab U O z hg=>?_;let KX:=hY w _ Y;obtain⟨fd,hb,hF⟩:=F w mg fa _ KX G.T.g ab;exact za4 KX G.T.g G.T.b G.T.builtins G.T.nolimit hg U O (uaj z hn2) hr hF hb (λ H hO hS=>hsp w H a ns z hO hS) λ H e s'=>hCX w H aa e s'
end L2
namespace L2
open PySem PySem.Spec PyProof.Rows
def defArgs (s:ud3):Arguments:=match s with
 | .FunctionDef _ a _ _ _ _ _ _ _ _=>a
 | _=>{ posonlyargs:=[],args:=[],vararg:=none,kwonlyargs:=[],kw_defaults:=[],kwarg:=none,defaults:=[] }
def defBody (s:ud3):List ud3:=match s with
 | .FunctionDef _ _ b _ _ _ _ _ _ _=>b
 | _=>[]
def defScope (s:ud3):Scope:=match s with
 | .FunctionDef _ _ _ _ _ _ sc _ _ _=>sc
 | _=>{ kind:=.function,names:=[],isGenerator:=false,isCoroutine:=false }
abbrev CX0:CXT:=λ _ _ _ _ _ _=>False
abbrev E0:XK:=λ _ _ _=>False
theorem pass0 {X:Cx}:Passes CX0 X E0:=λ _ _ _ _ _ _ _ h=>h.elim
structure Fun (K:b8)(x qual:Str)(st:ud3)(f:o7)(fd:FuncData):Prop where
 ex:∃ (oc:i5)(od:Option o7)(kV doc pm:i5)(an:Option o7)(cdv ct:i5)(osl:Array (Option i5)),
  fd=uc1 x qual (defArgs st) (defBody st) (defScope st) .none kV doc pm an cdv ct/\K.lookup f=some ⟨oc,od,.func fd,osl⟩/\ue5 K cdv qual=true
 kp:ueh K (.ref f)=true
section
variable {P:o9}{w:uaw}{K:b8}{mg:Str->Option i5}{base:Heap}
theorem Fun.ok {x qual:Str}{st:ud3}{f:o7}{fd:FuncData}{N ps:List Str}{k:Nat}{sp:Sp}(F:Fun K x qual st f fd)(S:FnScope N ps (defScope st))(len:∀ vs H Q E,sp vs H Q E->vs.length=ps.length)
  (hbody:∀ (cdv:i5)(A:uax)(outer:List Env)(s:i6)(H:Hp)(vs:List V)(Q:VK)(E:XK),Room k (A.deeper (envOfC qual (defScope st) ‹128› f cdv))->sp vs H Q E ->
   ∃ t,PSs (cxOf CX0 P w K mg base N qual (defScope st) f cdv A outer s H E).nox (defBody st) t/\t { nx:=λ _ H'=>Q .non H',rt:=Q } (start N vs) H):FnOk P w K mg base CX0 (k+1) f fd ps sp:=by
 obtain⟨oc,od,kV,aa,pm,an,cdv,ct,U,rfl,lk,O⟩:=F.ex;exact zep lk O S len λ A outer s H vs Q E hr z=>?_;obtain⟨t,h,q⟩:=hbody cdv A outer s H vs Q E hr z;exact⟨t,h.nox,q⟩
theorem Fun.binds {x qual:Str}{st:ud3}{f:o7}{fd:FuncData}{ps:List Str}(F:Fun K x qual st f fd)
  (h:∀ (kV doc pm:i5)(an:Option o7)(cdv ct:i5)(us:List i5),us.length=ps.length->bindArgs ‹76› ⟨us,[]⟩=pure (ps.zip us)):Binds K fd ps []:=by
 obtain⟨O,od,kV,doc,pm,an,cdv,ct,q,rfl,U,z⟩:=F.ex;exact .all (h kV doc pm an cdv ct)
theorem qW {x qual:Str}{st:ud3}{f:o7}{oc:i5}{od an:Option o7}{osl:Array (Option i5)}{kV doc pm cdv ct:i5}(l:K.lookup f=some ⟨oc,od,.func ‹76›,osl⟩)
  (c:ue5 K cdv qual=true) (k:ueh K (.ref f)=true):Fun K x qual st f ‹76›:=⟨⟨oc,od,kV,doc,pm,an,cdv,ct,osl,rfl,l,c⟩,k⟩
end
section
variable {X:Cx}
theorem pv (i:Nat){x:Str}{pos:Pos}(hN:X.N[i]?=some x:=by rfl)(hv:Vis X.env.scope x:=by first | exact t6 rfl | exact ugv (t6 rfl) | exact ugv (ugv rfl))(hd:‹86›=false:=by decide)
  (hcd:(x==("__classdict__":Str))=false:=by decide):PE X (.Name x pos) (tVar i):=zdv hN hv hd hcd
end
theorem iteF {A B:Prop}(h:B):if false=true then A else B:=by
 rw[uh3 p6];exact h
theorem iteT {A B:Prop}(h:A):if true=true then A else B:=by
 rw[uh2 rfl];exact h
theorem ite2 {c A B:Prop}[Decidable c](h1:c->A)(h2:¬ c->B):if c then A else B:=by
 by_cases h:c
 ·rw[uh2 h];exact h1 h
 ·rw[uh3 h];exact h2 h
theorem iteNS {c A B:Prop}[Decidable c](hc:c)(h:B):if (!decide c)=true then A else B:=by
 rw[uhz hc];exact iteF h
def Same (H H':Hp):Prop:=∀ b o,H b=some o->H' b=some o
theorem Same.refl (H:Hp):Same H H:=λ _ _ h=>h
theorem Same.trans {H H1 H2:Hp}(a:Same H H1)(b:Same H1 H2):Same H H2:=λ c o h=>b c o (a c o h)
theorem Same.free {H H':Hp}(e:Same H H'){l:o7}(h:H' l=Option.none):H l=Option.none:=by
 cases q:H l with
 | none=>rfl
 | some o =>
  rw[e l o q] at h;cases h
theorem Same.seq {K:b8}{H H':Hp}{a:o7}{xs:List V}(e:Same H H')(h:SqL K H a xs):SqL K H' a xs:=by
 rcases h with (h | ⟨o,h⟩) | h
 ·exact .inl (.inl (e _ _ h))
 ·exact .inl (.inr ⟨o,e _ _ h⟩)
 ·exact .inr h
end L2
namespace L2
open PySem PySem.Spec PyProof.Rows
section
variable {κ:Type}[DecidableEq κ]
def valV (kvs:List (κ × V))(k:κ):Option V:=(kvs.find? λ q=>decide (q.1=k)).map (·.2)
def putK (kvs:List (κ × V))(k:κ)(v:V):List (κ × V) :=
 if (kvs.any λ q=>decide (q.1=k))=true then kvs.map (λ q=>if q.1=k then (q.1,v) else q) else kvs++[(k,v)]
def dropK (kvs:List (κ × V))(k:κ):List (κ × V):=kvs.filter λ q=>decide (q.1≠k)
theorem cU {p:κ × V}{r:List (κ × V)}{k:κ}(e:p.1=k):valV (p::r) k=some p.2:=by simp [valV,uee,e]
theorem cV {p:κ × V}{r:List (κ × V)}{k:κ}(e:¬ p.1=k):valV (p::r) k=valV r k:=by simp [valV,uee,e]
theorem gW (k:κ):∀ kvs:List (κ × V),(kvs.any λ kv=>decide (kv.1=k))=(valV kvs k).isSome
 | []=>rfl
 | p::r=>by
  rw[uey];by_cases e:p.1=k
  ·simp only [cU e,uhz e,Bool.true_or,Option.isSome_some]
  ·rw[cV e,uh1 e,Bool.false_or];exact gW k r
theorem nX (k j:κ)(y:V):∀ kvs:List (κ × V),valV ‹127› j=(valV kvs j).map λ x=>if j=k then y else x
 | []=>rfl
 | p::r=>by
  let q:=nX k j y r;rw[ubc];by_cases h:p.1=k
  ·rw[uh2 h];by_cases e:p.1=j
   ·rw[cU (p:=(p.1,y)) e,cU e,ufy,uh2 (e.symm.trans h)]
   ·rw[cV (p:=(p.1,y)) e,cV e,q]
  ·rw[uh3 h];by_cases e:p.1=j
   ·rw[cU (p:=p) e,cU e,ufy,uh3 (λ z=>h (e.trans z))]
   ·rw[cV (p:=p) e,cV e,q]
theorem mM (k j:κ)(y:V):∀ kvs:List (κ × V),valV kvs k=none->valV (kvs++[(k,y)]) j=if j=k then some y else valV kvs j
 | [],_=>by
  by_cases e:k=j
  ·rw[uh2 e.symm];exact cU (p:=(k,y)) e
  ·rw[uh3 (λ z=>e z.symm)];exact cV (p:=(k,y)) e
 | p::r,hn=>by
  rw[List.cons_append];let q:¬ p.1=k:=λ z=>by rw[cU z] at hn;cases hn
  rw[cV q] at hn;let F:=mM k j y r hn;by_cases e:p.1=j
  ·rw[cU e,cU e,uh3 (λ z=>q (e.trans z))]
  ·rw[cV e,cV e,F]
theorem nW (kvs:List (κ × V))(k j:κ)(y:V):valV (putK kvs k y) j=if j=k then some y else valV kvs j:=by
 unfold putK;by_cases a:(kvs.any λ F=>decide (F.1=k))=true
 ·rw[uh2 a,nX];rw[gW] at a;by_cases e:j=k
  ·obtain⟨x,z⟩:=ub0.mp a;rw[uh2 e,e,z,ufy,uh2 rfl]
  ·rw[uh3 e];cases valV kvs j with
   | none=>rfl
   | some x=>rw[ufy,uh3 e]
 ·rw[uh3 a];exact mM k j y kvs ?_;rw[gW] at a;cases q:valV kvs k with
  | none=>rfl
  | some x=>rw[q] at a;exact (a rfl).elim
theorem gK (kvs:List (κ × V))(k:κ)(v:V):(putK kvs k v).length<=kvs.length+1:=by
 unfold putK;split
 ·rw[c9];left
 ·rw[i7,uas,uf3];left
theorem RelO.isSome_eq {o:Option V}{u:Option i5}(r:RelO o u):o.isSome=u.isSome:=by
 cases o with
 | none=>cases u with
  | none=>rfl
  | some _=>exact (show False from r).elim
 | some _=>cases u with
  | none=>exact (show False from r).elim
  | some _=>rfl
theorem RelO.getD {o:Option V}{u:Option i5}{d:V}{d':i5}(r:RelO o u)(rd:RelV d d'):RelV (o.getD d) (u.getD d'):=by
 cases o with
 | none=>cases u with
  | none=>exact rd
  | some _=>exact (show False from r).elim
 | some _=>cases u with
  | none=>exact (show False from r).elim
  | some _=>exact r
theorem KV.val {kvs:List (κ × V)}{vs:List (κ × i5)}(r:KV kvs vs)(k:κ):RelO (valV kvs k) (valueAt vs k):=by
 unfold KV at r;induction r with
 | nil=>exact True.intro
 | @cons p q ps qs h t ih =>
  obtain⟨h1,h2⟩:=h;by_cases e:p.1=k
  ·let F:q.1=k:=h1.symm.trans e;let b:valueAt (q::qs) k=some q.2:=by simp [valueAt,uee,F]
   rw[cU e,b];exact h2
  ·let F:¬ q.1=k:=λ z=>e (h1.trans z);let b:valueAt (q::qs) k=valueAt qs k:=by simp [valueAt,uee,F]
   rw[cV e,b];exact ih
theorem KV.any {kvs:List (κ × V)}{vs:List (κ × i5)}(r:KV kvs vs)(k:κ):(kvs.any λ kv=>decide (kv.1=k))=vs.any λ kv=>decide (kv.1=k):=by
 unfold KV at r;induction r with
 | nil=>rfl
 | cons h t ih=>rw[uey,uey,ih,h.1]
theorem KV.repl {kvs:List (κ × V)}{vs:List (κ × i5)}(r:KV kvs vs)(k:κ){y:V}{u:i5}(ry:RelV y u) :
  KV ‹127› (vs.map λ kv=>if kv.1=k then (kv.1,u) else kv):=by
 unfold KV at r ⊢;induction r with
 | nil=>exact .nil
 | @cons p q ps qs h t ih =>
  rw[ubc,ubc];exact .cons ?_ ih;obtain⟨h1,h2⟩:=h;by_cases e:p.1=k
  ·rw[uh2 e,uh2 (h1.symm.trans e)];exact⟨h1,ry⟩
  ·rw[uh3 e,uh3 (λ z=>e (h1.trans z))];exact⟨h1,h2⟩
theorem KV.put {kvs:List (κ × V)}{vs:List (κ × i5)}(r:KV kvs vs)(k:κ){y:V}{u:i5}(ry:RelV y u):KV (putK kvs k y) (stored vs k u):=by
 unfold putK stored;rw[r.any k];by_cases e:(vs.any λ q=>decide (q.1=k))=true
 ·rw[uh2 e,uh2 e];exact r.repl k ry
 ·rw[uh3 e,uh3 e];exact Paired.snoc r ⟨rfl,ry⟩
theorem KV.keys {kvs:List (κ × V)}{vs:List (κ × i5)}(r:KV kvs vs):kvs.map (·.1)=vs.map (·.1):=by
 unfold KV at r;induction r with
 | nil=>rfl
 | cons h t ih=>rw[ubc,ubc,ih,h.1]
theorem KV.length {kvs:List (κ × V)}{vs:List (κ × i5)}(r:KV kvs vs):kvs.length=vs.length:=Paired.length r
end
theorem gE {P:o9}{w:uaw}{k:Key}{u:i5}(r:RelV (kV k) u):(mixKind P w).is k u=true:=by
 cases k with
 | inl i=>obtain⟨t,e⟩:=(show ∃ t,u=Value.int i t from r);subst e;exact wG P w i t
 | inr x=>obtain⟨t,e⟩:=(show ∃ t,u=Value.str x t from r);subst e;exact wF P w x t
theorem nA {P:o9}{w:uaw}:∀ {ks:List Key}{us:List i5},Vals (ks.map kV) us->ItemsAre (mixKind P w) ks us
 | [],_,r=>by rw[List.map_nil] at r;cases r;exact .nil
 | k::ks,_,r=>by
  rw[ubc] at r;cases r with
  | cons h t=>exact .cons (gE h) (nA t)
abbrev KT (H:Hp):List (List Key × V)->List (List Key × o7 × i5)->Prop:=Paired λ p q=>p.1=q.1/\H q.2.1=some (.tup (p.1.map kV))/\RelV p.2 q.2.2
theorem KT.val {H:Hp}{kvs:List (List Key × V)}{xs:List (List Key × o7 × i5)}(r:KT H kvs xs)(k:List Key):RelO (valV kvs k) ((atKey xs k).map (·.2)):=by
 induction r with
 | nil=>exact True.intro
 | @cons p q ps qs h t ih =>
  obtain⟨h1,_,h2⟩:=h;by_cases e:p.1=k
  ·let F:q.1=k:=h1.symm.trans e;let b:atKey (q::qs) k=some q.2:=by simp [atKey,uee,F]
   rw[cU e,b];exact h2
  ·let F:¬ q.1=k:=λ z=>e (h1.trans z);let b:atKey (q::qs) k=atKey qs k:=by simp [atKey,uee,F]
   rw[cV e,b];exact ih
theorem KT.repl {H:Hp}{kvs:List (List Key × V)}{xs:List (List Key × o7 × i5)}(r:KT H kvs xs)(k:List Key){y:V}{u:i5}(ry:RelV y u) :
  KT H ‹127› (xs.map (putAt k u)):=by
 induction r with
 | nil=>exact .nil
 | @cons p q ps qs h t ih =>
  rw[ubc,ubc];exact .cons ?_ ih;obtain⟨h1,h2,h3⟩:=h;unfold putAt;by_cases e:p.1=k
  ·rw[uh2 e,uh2 (h1.symm.trans e)];exact⟨h1,h2,ry⟩
  ·rw[uh3 e,uh3 (λ z=>e (h1.trans z))];exact⟨h1,h2,h3⟩
theorem KT.put {H:Hp}{kvs:List (List Key × V)}{xs:List (List Key × o7 × i5)}(r:KT H kvs xs)(k:List Key){b:o7}{y:V}{u:i5}(hb:H b=some (.tup (k.map kV)))(ry:RelV y u) :
  KT H (putK kvs k y) (storedH xs k b u):=by
 let e:(kvs.any λ z=>decide (z.1=k))=(atKey xs k).isSome:=by
  rw[gW,(r.val k).isSome_eq,ufa]
 unfold putK storedH;rw[e];by_cases q:(atKey xs k).isSome=true
 ·rw[uh2 q,uh2 q];exact r.repl k ry
 ·rw[uh3 q,uh3 q];exact Paired.snoc r ⟨rfl,hb,ry⟩
theorem KT.keeps {H H':Hp}{kvs:List (List Key × V)}{xs:List (List Key × o7 × i5)}(r:KT H kvs xs)(ht:∀ b ys,H b=some (.tup ys)->H' b=some (.tup ys)):KT H' kvs xs :=
 Paired.mapP r λ _ _ z=>⟨z.1,ht _ _ z.2.1,z.2.2⟩
section
variable {P:o9}{w:uaw}{H:Hp}{h:Heap}{a:o7}
theorem rH {u:HO}(ok:HOk P w H h)(e:Rd H a u):ObjOk P w H h a u:=e.ok ok
theorem gH {kvs:List (Key × V)}(ok:HOk P w H h)(e:Rd H a (.dK kvs)):kvs.length<=p8/\(a==sysModules)=false/\∃ vs,KV kvs vs/\h.DictOf (mixKind P w) a vs :=
 show ObjOk P w H h a (.dK kvs) from rH ok e
theorem rQ {kvs:List (Key × V)}(ok:HOk P w H h)(e:H a=some (.dK kvs)):kvs.length<=p8/\(a==sysModules)=false/\∃ vs,KV kvs vs/\h.DictOf (mixKind P w) a vs:=gH ok (.inl e)
theorem fZ {ks:List Key}(ok:HOk P w H h)(e:H a=some (.tup (ks.map kV))):(tupleKind (mixKind P w)).is h ks a:=by
 obtain⟨_,its,r,o,h1,h2,⟨n,h3⟩,_⟩:=(show ObjOk P w H h a (.tup (ks.map kV)) from ok a _ e);exact⟨o,its.toArray,n,h1,h2,h3,by simpa using nA r⟩
theorem gG {kvs:List (List Key × V)}(ok:HOk P w H h)(e:Rd H a (.dT kvs)):kvs.length<=p8/\(a==sysModules)=false /\
  ∃ xs,KT H kvs xs/\h.DictOfH (tupleKind (mixKind P w)) a xs:=by
 obtain⟨z,y,xs,r,o,es,ep,h1,h2,h3,O,U⟩:=(show ObjOk P w H h a (.dT kvs) from rH ok e);exact⟨z,y,xs,r,o,es,ep,h1,h2,h3,O,λ x F=>?_,U⟩;let all:∀ {l:List (List Key × V)}{m:List (List Key × o7 × i5)},KT H l m->∀ x∈m,(tupleKind (mixKind P w)).is h x.1 x.2.1:=by
  intro l m q;induction q with
  | nil=>intro x F;exact nomatch F
  | @cons p q ps qs hq t ih =>
   intro x F;rcases j4.mp F with e | F
   ·subst e;exact fZ ok (by rw[← hq.1];exact hq.2.1)
   ·exact ih x F
 exact all r x F
theorem zer {kvs:List (List Key × V)}(ok:HOk P w H h)(e:H a=some (.dT kvs)):kvs.length<=p8/\(a==sysModules)=false /\
  ∃ xs,KT H kvs xs/\h.DictOfH (tupleKind (mixKind P w)) a xs:=gG ok (.inl e)
end
def DGet (H:Hp)(a:o7)(y:V)(r:Option V):Prop :=
 (∃ kvs k,Rd H a (.dK kvs)/\y=kV k/\r=valV kvs k)\/∃ kvs k b,Rd H a (.dT kvs)/\y=.ref b/\H b=some (.tup (k.map kV))/\r=valV kvs k
def DPut (H:Hp)(a:o7)(y v:V)(H':Hp):Prop :=
 (∃ kvs k,H a=some (.dK kvs)/\y=kV k/\kvs.length<p8/\H'=upd H a (.dK (putK kvs k v))) \/
 ∃ kvs k b,H a=some (.dT kvs)/\y=.ref b/\H b=some (.tup (k.map kV))/\kvs.length<p8/\H'=upd H a (.dT (putK kvs k v))
theorem DGet.k {H:Hp}{a:o7}{kvs:List (Key × V)}{k:Key}(e:H a=some (.dK kvs)):DGet H a (kV k) (valV kvs k):=.inl ⟨kvs,k,.inl e,M⟩
theorem DGet.t {H:Hp}{a b:o7}{kvs:List (List Key × V)}{k:List Key}(e:H a=some (.dT kvs))(eb:H b=some (.tup (k.map kV))):DGet H a (.ref b) (valV kvs k):=.inr ⟨kvs,k,b,.inl e,rfl,eb,rfl⟩
theorem DPut.k {H:Hp}{a:o7}{kvs:List (Key × V)}{k:Key}{v:V}(e:H a=some (.dK kvs))(hl:kvs.length<p8):DPut H a (kV k) v (upd H a (.dK (putK kvs k v))):=.inl ⟨kvs,k,e,rfl,hl,rfl⟩
theorem DPut.t {H:Hp}{a b:o7}{kvs:List (List Key × V)}{k:List Key}{v:V}(e:H a=some (.dT kvs))(eb:H b=some (.tup (k.map kV)))(hl:kvs.length<p8) :
  DPut H a (.ref b) v (upd H a (.dT (putK kvs k v))):=.inr ⟨kvs,k,b,e,rfl,eb,hl,rfl⟩
section
variable {X:Cx}{pins:List (o7 × Obj)}{σ:St}{H:Hp}{s:i6}{a:o7}{y v:V}{u r:i5}{o:Option V}{A:uax}{E:i5->i6->Prop}
theorem Inv.big (I:Inv X pins σ H s):sysModules<‹128›:=by
 let h:uad<‹128›:=(I.mod.glob.keeps I.bk).lt;exact ug0 (by decide) h
theorem zT {Q:i5->i6->Prop}(hu:A.units+1<cLine)(I:Inv X pins σ H s)(g:DGet H a y (some v))(ry:RelV y u)(h:∀ w' s',Inv X pins σ H s'->RelV v w'->Q w' s') :
  j7 ‹38› A (getItem (.ref a) u) Q E s:=by
 rcases g with ⟨kvs,k,e,ey,l⟩ | ⟨kvs,k,b,e,ey,eb,l⟩
 ·subst ey;obtain⟨z,hd,vs,F,O⟩:=gH I.hok e;obtain⟨w',hw,q⟩:=RelO.some_of (v:=v) (o:=valueAt vs k) (by rw[l];exact F.val k);exact wpAny_getItem_of (gE ry) O.mapOf hw (h w' _ (I.tok _) q)
 ·subst ey;cases (show u=Value.ref b from ry);obtain⟨z,hd,xs,F,O⟩:=gG I.hok e;obtain⟨w',hw,q⟩:=RelO.some_of (v:=v) (o:=(atKey xs k).map (·.2)) (by rw[l];exact F.val k);obtain⟨p,hp,U⟩:=r6.mp hw;exact wpAny_getItem_heap (uft hu) (fZ I.hok eb) O hp ?_;rw[U];exact h w' _ (I.tok _) q
theorem zev {Q:i5->i6->Prop}(hu:A.units+1<cLine)(I:Inv X pins σ H s)(g:DGet H a y o)(ry:RelV y u)(h:∀ s',Inv X pins σ H s'->Q (.bool o.isSome) s') :
  j7 ‹38› A (compareOp .In u (.ref a)) Q E s:=by
 rcases g with ⟨kvs,k,e,ey,l⟩ | ⟨kvs,k,b,e,ey,eb,l⟩
 ·subst ey;obtain⟨z,O,vs,F,U⟩:=gH I.hok e;refine wpAny_in_of (gE ry) O U.mapOf ?_;rw[← (F.val k).isSome_eq,← l];exact h _ (I.tok _)
 ·subst ey;cases (show u=Value.ref b from ry);obtain⟨z,O,xs,F,U⟩:=gG I.hok e;refine wpAny_in_heap (uft hu) (fZ I.hok eb) O U ?_;have q:=(F.val k).isSome_eq;rw[ufa] at q;rw[← q,← l];exact h _ (I.tok _)
theorem zc7 {Q:i5->i6->Prop}(hu:A.units+1<cLine)(I:Inv X pins σ H s)(g:DGet H a y o)(ry:RelV y u)(h:∀ s',Inv X pins σ H s'->Q (.bool (!o.isSome)) s') :
  j7 ‹38› A (compareOp .NotIn u (.ref a)) Q E s:=by
 rcases g with ⟨kvs,k,e,ey,l⟩ | ⟨kvs,k,b,e,ey,eb,l⟩
 ·subst ey;obtain⟨z,O,vs,F,U⟩:=gH I.hok e;refine wpAny_notIn_of (gE ry) O U.mapOf ?_;rw[← (F.val k).isSome_eq,← l];exact h _ (I.tok _)
 ·subst ey;cases (show u=Value.ref b from ry);obtain⟨z,O,xs,F,U⟩:=gG I.hok e;refine wpAny_notIn_heap (uft hu) (fZ I.hok eb) O U ?_;have q:=(F.val k).isSome_eq;rw[ufa] at q;rw[← q,← l];exact h _ (I.tok _)
theorem qG {h':Heap}{t':Nat}{ob:HO}(I:Inv X pins σ H s)(mu:Mut (H a))(hs:Heap.SameBut a s.heap h')(he:∃ q,h'.get? a=some q)(new:ObjOk X.prog X.w (upd H a ob) h' a ob) :
  Inv X pins σ (upd H a ob) { s with heap:=h',toks:=t' } :=
 I.write (x:=a) (e:=a) mu (.inl rfl) (λ b q F z=>(hs.2 b F).trans z) he new
theorem zef {P:o9}{w:uaw}{H':Hp}{h':Heap}{kvs:List (Key × V)}{vs:List (Key × i5)}(z:kvs.length<=p8)(hd:(a==sysModules)=false)(rel:KV kvs vs)(dd:h'.DictOf (mixKind P w) a vs) :
  ObjOk P w H' h' a (.dK kvs):=⟨z,hd,vs,rel,dd⟩
theorem zS {H':Hp}{Q:Unit->i6->Prop}(hu:A.units+1<cLine)(I:Inv X pins σ H s)(g:DPut H a y v H')(ry:RelV y u)(rv:RelV v r)(h:∀ s',Inv X pins σ H' s'->Q () s') :
  j7 ‹38› A (setItem (.ref a) u r) Q E s:=by
 rcases g with ⟨kvs,k,e,ey,l,eH⟩ | ⟨kvs,k,b,e,ey,eb,l,eH⟩
 ·subst ey eH;obtain⟨z,hd,vs,F,dd⟩:=rQ I.hok e;have hz:vs.length<=p8:=by rw[← F.length];exact z
  let hl:(putK kvs k v).length<=p8:=by let:=gK kvs k v;left
  exact wpAny_setItem_pairs (hsz:=hz) (gE ry) dd λ h' O hs=>h _ ?_;let he:∃ q,h'.get? a=some q:=let ⟨q,_,_,U,_⟩:=O;⟨q,U⟩;exact qG I (by rw[e];exact True.intro) hs he (zef hl hd (F.put k rv) O)
 ·subst ey eH;cases (show u=Value.ref b from ry);obtain⟨z,hd,xs,F,dd⟩:=zer I.hok e;have hz:xs.length<=p8:=by rw[← Paired.length F];exact z
  let hl:(putK kvs k v).length<=p8:=by let:=gK kvs k v;left
  exact wpAny_setItem_heap (hsz:=hz) (uft hu) (fZ I.hok eb) dd λ h' O hs=>h _ ?_;obtain⟨q,es,ep,U,h2,h3,h4,_,h5⟩:=O;exact qG I (by rw[e];exact True.intro) hs ⟨q,U⟩ ⟨hl,hd,_,(F.put k eb rv).keeps λ c ys ec=>?_,q,es,ep,U,h2,h3,h4,h5⟩;rw[aL (zeo ec e ‹94›)];exact ec
end
section
variable {X:Cx}{pins:List (o7 × Obj)}{σ:St}{H:Hp}{s:i6}{a:o7}{kvs:List (Key × V)}{k:Key}{u:i5}{A:uax}{E:i5->i6->Prop}
end
def NoSl (i:uc7):Prop:=∀ ov iv,subscripted i false ov iv=operate [ov,iv] (getItem ov iv)
theorem zca {prog:o9}{w:uaw}{A:uax}{E:i5->i6->Prop}{s:i6}{env:Env}{value slice:uc7}{pos:Pos}{T id:String}{Q:i5->i6->Prop}
  (hl:typeLookup (.type T) "__getitem__"=pure (some (.builtin id))) (hs:NoSl slice)
  (h:j7 (v4 prog w) A (eval value env) (λ o s₁=>j7 (v4 prog w) A (eval slice env) (λ i s₂=>s₂.TypeIs o T/\j7 (v4 prog w) A (getItem o i) Q E s₂) E s₁) E s) :
  j7 (v4 prog w) A (eval (.Subscript value slice pos) env) Q E s:=by
 exact Subscript_ (ucr h (λ o s₁ O=>ucr O (λ i s₂ q=>?_) λ _ _ x=>x) λ _ _ x=>x);obtain⟨hT,q⟩:=q;unfold subscriptTail;exact a7 ?_;rw[getitemInPython_of_ne hT.not_modules];exact a7 (uel hT hl ?_);let F:j7 (v4 prog w) A (subscripted slice false o i) (λ r z=>j7 (v4 prog w) A (letTemporaryGo value o r >>= λ _=>pure r) Q E z) E s₂:=by
  rw[hs o i];exact wpAny_operating (ucr q (λ r z U=>a7 (wpAny_letTemporaryGo (c7 U))) λ _ _ x=>x)
 first
  | exact c7 (a7 F)
  | exact a7 (c7 (a7 F))
  | exact a7 F
theorem lQ {X:Cx}{pins:List (o7 × Obj)}{σ:St}{H:Hp}{s:i6}{a:o7}{y:V}{o:Option V}(I:Inv X pins σ H s)(g:DGet H a y o):s.TypeIs (.ref a) "dict":=by
 rcases g with ⟨kvs,k,e,_,_⟩ | ⟨kvs,k,b,e,_,_,_⟩
 ·obtain⟨_,_,vs,_,q⟩:=gH I.hok e;exact q.typeIs
 ·obtain⟨_,_,xs,_,q⟩:=gG I.hok e;exact q.typeIs
def tDGet (td ty:TE):TE:=λ σ H Q=>td σ H λ x H1=>ty σ H1 λ y H2=>∃ a v,x=.ref a/\DGet H2 a y (some v)/\Q v H2
def tDIn (ty td:TE):TE:=λ σ H Q=>ty σ H λ y H1=>td σ H1 λ x H2=>∃ a o,x=.ref a/\DGet H2 a y o/\Q (.bl o.isSome) H2
def tDNotIn (ty td:TE):TE:=λ σ H Q=>ty σ H λ y H1=>td σ H1 λ x H2=>∃ a o,x=.ref a/\DGet H2 a y o/\Q (.bl (!o.isSome)) H2
def sDPut (td ty tv:TE):TS:=λ D σ H=>tv σ H λ v H1=>td σ H1 λ x H2=>ty σ H2 λ y H3=>∃ a H4,x=.ref a/\DPut H3 a y v H4/\D.nx σ H4
section
variable {X:Cx}{o i e value:uc7}{pos pos' tpos:Pos}{td ty tv:TE}
theorem jX (hu:X.A.units+1<cLine)(ho:PE X o td)(hi:PE X i ty)(hs:NoSl i):PE X (.Subscript o i pos) (tDGet td ty):=by
 intro pins s σ H Q I h;exact zca PySem.F.slot_dict_getitem.lookup hs (thn (ho pins s σ H _ I h) λ u s1 ⟨x,H1,I1,rx,O⟩=>thn (hi pins s1 σ H1 _ I1 O) λ iv s2 ⟨y,H2,z,ry,a,v,ex,g,U⟩=>?_);subst ex;obtain rfl:u=Value.ref a:=rx;exact⟨lQ z g,zT hu z g ry λ w' s3 I3 q=>⟨v,H2,I3,q,U⟩⟩
theorem zdx (hu:X.A.units+1<cLine)(hi:PE X i ty)(ho:PE X o td):PC X .In i o (tDIn ty td):=by
 intro pins s σ H Q I h;exact thn (hi pins s σ H _ I h) λ iv s1 ⟨y,H1,F,O,q⟩=>thn (ho pins s1 σ H1 _ F q) λ u s2 ⟨x,H2,I2,U,a,ov,ex,g,z⟩=>?_;subst ex;obtain rfl:u=Value.ref a:=U;exact zev hu I2 g O λ s3 I3=>⟨.bl ov.isSome,H2,I3,rfl,z⟩
theorem yR (hu:X.A.units+1<cLine)(hi:PE X i ty)(ho:PE X o td):PC X .NotIn i o (tDNotIn ty td):=by
 intro pins s σ H Q I h;exact thn (hi pins s σ H _ I h) λ iv s1 ⟨y,H1,F,O,q⟩=>thn (ho pins s1 σ H1 _ F q) λ u s2 ⟨x,H2,I2,U,a,ov,ex,g,z⟩=>?_;subst ex;obtain rfl:u=Value.ref a:=U;exact zc7 hu I2 g O λ s3 I3=>⟨.bl (!ov.isSome),H2,I3,rfl,z⟩
theorem jV (hu:X.A.units+1<cLine)(ho:PE X o td)(hi:PE X i ty)(hv:PE X value tv)(hs:swapsWith value (some (.Subscript o i pos')) pos.line X.env=pure false) :
  PS X (.Assign [.Subscript o i pos'] value pos) (sDPut td ty tv):=by
 intro pins s σ H D I h;exact wpAny_Assign_Subscript (thn (hv pins s σ H _ I h) λ r s1 ⟨v,H1,F,rv,q⟩=>thn (ho pins s1 σ H1 _ F q) λ u s2 ⟨x,H2,I2,rx,z⟩=>thn (hi pins s2 σ H2 _ I2 z) λ iv s3 ⟨y,H3,I3,ry,a,O,ex,g,U⟩=>?_) hs;subst ex;obtain rfl:u=Value.ref a:=rx;exact zS hu I3 g ry rv λ s4 I4=>⟨σ,O,I4,U⟩
end
theorem zbl {P:o9}{w:uaw}{H:Hp}(h:Heap)(hb:sysModules<h.objs.size):ObjOk P w H (h.push { cls:=.type "dict",data:=.dict #[] }) h.objs.size (.dK []) :=
 ⟨uae _,beq_eq_false_iff_ne.mpr (Ne.symm (k8 hb)),[],.nil,Heap.DictOf.new h⟩
theorem zbk {P:o9}{w:uaw}{H:Hp}(h:Heap)(hb:sysModules<h.objs.size):ObjOk P w H (h.push { cls:=.type "dict",data:=.dict #[] }) h.objs.size (.dT []) :=
 ⟨uae _,beq_eq_false_iff_ne.mpr (Ne.symm (k8 hb)),[],.nil,_,#[],0,i9 _ rfl,⟨rfl,rfl,rfl⟩,rfl,rfl,ufc⟩
def tDNewK:TE:=λ _ H Q=>∀ p,H p=none->Q (.ref p) (upd H p (.dK []))
def tDNewT:TE:=λ _ H Q=>∀ p,H p=none->Q (.ref p) (upd H p (.dT []))
section
variable {X:Cx}{pos:Pos}
theorem zaz:PE X (.Dict [] [] pos) tDNewK:=λ pins s σ H Q I h =>
 wpAny_Dict_empty ⟨.ref ‹128›,_,I.laid (a:=‹128›) (o:=.dK []) (t':=s.toks) (λ _ _ q=>a9 _ q) (i8 _) (zbl s.heap I.big),rfl,h _ (I.hok.fresh (i8 _))⟩
theorem zay:PE X (.Dict [] [] pos) tDNewT:=λ pins s σ H Q I h =>
 wpAny_Dict_empty ⟨.ref ‹128›,_,I.laid (a:=‹128›) (o:=.dT []) (t':=s.toks) (λ _ _ q=>a9 _ q) (i8 _) (zbk s.heap I.big),rfl,h _ (I.hok.fresh (i8 _))⟩
end
end L2
set_option maxHeartbeats 4000000
namespace Srt
open PySem PySem.W PyProof.Rows
section
variable {N:Nat}{r:Nat->Int}{cmp:Nat->Nat->(Bool->i6->Prop)->i6->Prop}{s:i6}
def ky (r:Nat->Int)(p:Array Nat)(m:Nat):Int:=r (p.getD m 0)
def Up (r:Nat->Int)(p:Array Nat)(n:Nat):Prop:=∀ i j,i<=j->j<n->ky r p i<=ky r p j
def Dn (r:Nat->Int)(p:Array Nat)(n:Nat):Prop:=∀ i j,i<=j->j<n->ky r p j<=ky r p i
def Ask (N:Nat)(r:Nat->Int)(cmp:Nat->Nat->(Bool->i6->Prop)->i6->Prop)(s:i6):Prop :=
 ∀ i j C,i<N->j<N->C (decide (r i<r j)) s->cmp i j C s
def Gd (N:Nat)(p:Array Nat):Prop:=p.Perm (ugz (d8 N))
theorem Gd.sz {p:Array Nat}(g:Gd N p):p.size=N:=by
 let:=g.size_eq;simpa using this
theorem Gd.lt {p:Array Nat}(g:Gd N p)(h:0<N)(m:Nat):p.getD m 0<N:=by
 by_cases q:m<p.size
 ·let e:p.getD m 0=p[m]:=by simp [uez,q]
  rw[e];let h1:p[m]∈p:=Array.getElem_mem q;let h2:p[m]∈ugz (d8 N):=g.mem_iff.mp h1;simpa using h2
 ·let e:p.getD m 0=0:=by simp [uez,q]
  left
theorem gC {p q:Array Nat}{i j:Nat}(h:p[i]?=q[j]?):ky r p i=ky r q j:=by
 let e:∀ (a:Array Nat)(k:Nat),a.getD k 0=(a[k]?).getD 0:=λ a k=>by
  by_cases z:k<a.size <;> simp [uez,z]
 unfold ky;rw[e,e,h]
theorem kJ {p:Array Nat}{i j:Nat}(hj:j<=p.size)(k:Nat):ky r (kas_rev p i j) k=if i<=k/\k<j then ky r p (i+j-1-k) else ky r p k:=by
 let e:=getElem?_mirror_all (i:=i) hj k;by_cases h:i<=k/\k<j
 ·rw[uh2 h] at e ⊢;exact gC e
 ·rw[uh3 h] at e ⊢;exact gC e
theorem zd6 {p:Array Nat}{k d:Nat}(hs:k<p.size)(hd:d<=k)(m:Nat) :
  ky r (bubble p k d) m=if m=k-d then ky r p k else if k-d<m/\m<=k then ky r p (m-1) else ky r p m:=by
 let e:=getElem?_bubble hs d hd m;by_cases h1:m=k-d
 ·rw[uh2 h1] at e ⊢;exact gC e
 ·rw[uh3 h1] at e ⊢;by_cases h2:k-d<m/\m<=k
  ·rw[uh2 h2] at e ⊢;exact gC e
  ·rw[uh3 h2] at e ⊢;exact gC e
theorem Gd.rev {p:Array Nat}(g:Gd N p)(i j:Nat):Gd N (kas_rev p i j):=(mirror_perm p i j _).trans g
theorem Gd.bub {p:Array Nat}(g:Gd N p)(i j:Nat):Gd N (bubble p i j):=(bubble_perm p i j).trans g
theorem kM (h:Ask N r cmp s)(hN:0<N){p:Array Nat}(g:Gd N p){Q:Nat->i6->Prop}:∀ f n,1<=n->Up r p n ->
  (∀ m,n<=m->m<=n+f->Up r p m->(m<n+f->ky r p m<ky r p (m-1))->Q m s)->(kas_asc p f n).kasWp cmp Q s
 | 0,n,_,hu,q=>q n (i8 _) (i8 _) hu (λ z=>absurd z (ubz _))
 | f+1,n,h1,hu,q=>by
  exact h _ _ _ (g.lt hN _) (g.lt hN _) ?_;by_cases c:r (p.getD n 0)<r (p.getD (n-1) 0)
  ·rw[uhz c];exact q n (i8 _) (by left) hu (λ _=>c)
  ·rw[uh1 c];exact kM h hN g f (n+1) (by left) (λ i j F U=>?_) (λ m a b u d=>q m (by left) (by left) u (λ z=>d (by left)));let O:ky r p (n-1)<=ky r p n:=by unfold ky;left
   by_cases e:j=n
   ·subst e;by_cases e2:i=j
    ·subst e2;exact ubl _
    ·exact Int.le_trans (hu i (j-1) (by left) (by left)) O
   ·exact hu i j F (by left)
theorem jD {p:Array Nat}{i j:Nat}(hj:j<=p.size)(v:Int)(he:∀ k,i<=k->k<j->ky r p k=v)(k:Nat):ky r (kas_rev p i j) k=ky r p k:=by
 rw[kJ hj];split
 ·rename_i c;rw[he _ (by left) (by left),he k c.1 c.2]
 ·rfl
theorem iF (h:Ask N r cmp s)(hN:0<N){Q:Array Nat × Nat × Nat->i6->Prop}:∀ f p n q,Gd N p->1<=n->n+f<=N->Dn r p n->q+1<=n->(∀ i,n-(q+1)<=i->i<n->ky r p i=ky r p (n-1)) ->
  (∀ p' n' q',Gd N p'->n<=n'->n'<=n+f->Dn r p' n'->q'+1<=n'->(∀ i,n'-(q'+1)<=i->i<n'->ky r p' i=ky r p' (n'-1))->Q (p',n',q') s)->(kas_desc f p n q).kasWp cmp Q s
 | 0,p,n,q,g,_,_,hd,hq,he,z=>z p n q g (i8 _) (i8 _) hd hq he
 | f+1,p,n,q,g,h1,hf,hd,hq,he,z=>by
  exact h _ _ _ (g.lt hN _) (g.lt hN _) ?_;by_cases c:r (p.getD n 0)<r (p.getD (n-1) 0)
  ·rw[uhz c];let c':ky r p n<ky r p (n-1):=c;let dn:∀ {p':Array Nat},(∀ k,ky r p' k=ky r p k)->Dn r p' (n+1):=λ e i j F hj=>by
    rw[e,e];by_cases ej:j=n
    ·subst ej;by_cases ei:i=j
     ·subst ei;exact ubl _
     ·exact Int.le_trans (udn c') (hd i (j-1) (by left) (by left))
    ·exact hd i j F (by left)
   show KasT.kasWp cmp (if q>0 then kas_desc f (kas_rev p (n-(q+1)) n) (n+1) 0 else kas_desc f p (n+1) 0) Q s;by_cases U:q>0
   ·rw[uh2 U];let e:=jD (r:=r) (p:=p) (i:=n-(q+1)) (j:=n) (by rw[g.sz];left) (ky r p (n-1)) he;exact iF h hN f _ (n+1) 0 (g.rev _ _) (by left) (by left) (dn e) (by left) (λ i a b=>by congr 1;left)
     ‹84›
   ·rw[uh3 U];exact iF h hN f _ (n+1) 0 g (by left) (by left) (dn λ _=>rfl) (by left) (λ i a b=>by congr 1;left)
     ‹84›
  ·rw[uh1 c];exact h _ _ _ (g.lt hN _) (g.lt hN _) ?_;by_cases d:r (p.getD (n-1) 0)<r (p.getD n 0)
   ·rw[uhz d];exact z p n q g (i8 _) (by left) hd hq he
   ·rw[uh1 d];let e:ky r p n=ky r p (n-1):=by unfold ky;left
    exact iF h hN f p (n+1) (q+1) g (by left) (by left) (λ i j F hj=>?_) (by left) (λ i a b=>?_)
     ‹84›
    ·by_cases ej:j=n
     ·subst ej;by_cases ei:i=j
      ·subst ei;exact ubl _
      ·rw[e];exact hd i (j-1) (by left) (by left)
     ·exact hd i j F (by left)
    ·rw[show n+1-1=n by left];by_cases ei:i=n
     ·rw[ei]
     ·rw[e];exact he i (by left) (by left)
theorem oB (h:Ask N r cmp s)(hN:0<N){Q:Nat × Array Nat->i6->Prop}{p:Array Nat}{n:Nat}(g:Gd N p)(h1:1<=n)(hn:n<=N)(hd:Dn r p n)
  (z:∀ m p',Gd N p'->1<=m->m<=N->Up r p' m->Q (m,p') s):(kas_tail3 n N p).kasWp cmp Q s:=by
 unfold kas_tail3;rw[KasT.kasWp_bind];exact kM h hN (g.rev 0 n) _ n h1 (λ i j q F=>?_) (λ m a b u _=>z m _ (g.rev 0 n) (by left) (by left) u);rw[kJ (by rw[g.sz];left),kJ (by rw[g.sz];left),uh2 (by left),uh2 (by left)];exact hd _ _ (by left) (by left)
theorem lR (h:Ask N r cmp s)(hN:0<N){Q:Nat × Array Nat->i6->Prop}{p:Array Nat}{n:Nat}(g:Gd N p)(h1:1<=n)(hn:n+1<=N)(hd:Dn r p (n+1))
  (z:∀ m p',Gd N p'->1<=m->m<=N->Up r p' m->Q (m,p') s):(kas_descPart n N p).kasWp cmp Q s:=by
 unfold kas_descPart;rw[KasT.kasWp_bind];exact iF h hN _ p (n+1) 0 g (by left) (by left) hd (by left) (λ i a b=>by congr 1;left) (λ p' q F U a b d e1 e2=>?_);show KasT.kasWp cmp (if F>0 then kas_tail3 q N (kas_rev p' (q-(F+1)) q) else kas_tail3 q N p') Q s;by_cases hq:F>0
 ·rw[uh2 hq];let e:=jD (r:=r) (p:=p') (i:=q-(F+1)) (j:=q) (by rw[U.sz];left) (ky r p' (q-1)) e2;exact oB h hN (U.rev _ _) (by left) (by left) (λ i j O hj=>by rw[e,e];exact d i j O hj) z
 ·rw[uh3 hq];exact oB h hN U (by left) (by left) d z
theorem zbo (h:Ask N r cmp s)(hN:0<N){Q:Nat × Array Nat->i6->Prop}{p:Array Nat}(g:Gd N p)
  (z:∀ m p',Gd N p'->1<=m->m<=N->Up r p' m->Q (m,p') s):(kas_count N p).kasWp cmp Q s:=by
 unfold kas_count;rw[KasT.kasWp_bind];exact kM h hN g _ 1 (i8 _) (λ i j F hj=>?_) (λ m a b u d=>?_)
 ·let:i=j:=by left
  subst this;exact ubl _
 show KasT.kasWp cmp (if (m==N)=true then .ret (m,p) else if m>1 then .ask (p.getD 0 0) (p.getD (m-1) 0) λ c=>if c=true then .ret (m,p) else kas_descPart m N (kas_rev p 0 m) else kas_descPart m N p) Q s;by_cases hm:m=N
 ·rw[uh2 (by simpa using hm)];exact z m p g a (by left) u
 ·rw[uh3 (by simpa using hm)];let d':=d (by left);by_cases h1:m>1
  ·rw[uh2 h1];exact h _ _ _ (g.lt hN _) (g.lt hN _) ?_;by_cases c:r (p.getD 0 0)<r (p.getD (m-1) 0)
   ·rw[uhz c];exact z m p g a (by left) u
   ·rw[uh1 c];let c':ky r p (m-1)<=ky r p 0:=by unfold ky;left
    let q:∀ k,0<=k->k<m->ky r p k=ky r p 0:=λ k _ hk=>by
     let a1:=u 0 k (by left) hk;let a2:=u k (m-1) (by left) (by left);left
    let e:=jD (r:=r) (p:=p) (i:=0) (j:=m) (by rw[g.sz];left) (ky r p 0) q;exact lR h hN (g.rev 0 m) (by left) (by left) (λ i j F hj=>?_) z;rw[e,e];by_cases U:j=m
    ·subst U;by_cases O:i=j
     ·subst O;exact ubl _
     ·rw[q i (by left) (by left)];let:=q (j-1) (by left) (by left);left
    ·rw[q i (by left) (by left),q j (by left) (by left)];exact ubl _
  ·rw[uh3 h1];let e1:m=1:=by left
   subst e1;exact lR h hN g (by left) (by left) (λ i j F hj=>?_) z;by_cases U:j=1
   ·subst U;by_cases O:i=1
    ·subst O;exact ubl _
    ·let:i=0:=by left
     subst this;exact udn d'
   ·let:i=j:=by left
    subst this;exact ubl _
theorem jL (h:Ask N r cmp s)(hN:0<N){Q:Nat->i6->Prop}{p:Array Nat}{k:Nat}(g:Gd N p)(hu:Up r p k):∀ f l rr,l<=rr->rr<=k->rr-l<=f->(∀ i,i<l->ky r p i<=ky r p k)->(∀ i,rr<=i->i<k->ky r p k<ky r p i) ->
  (∀ l',l'<=k->(∀ i,i<l'->ky r p i<=ky r p k)->(∀ i,l'<=i->i<k->ky r p k<ky r p i)->Q l' s)->(kas_place p k f l rr).kasWp cmp Q s
 | 0,l,rr,h1,h2,h3,a,b,z=>z l (by left) a (λ i x y=>b i (by left) y)
 | f+1,l,rr,h1,h2,h3,a,b,z=>by
  unfold kas_place;by_cases hl:l ≥ rr
  ·rw[uh2 hl];exact z l (by left) a (λ i x y=>b i (by left) y)
  ·rw[uh3 hl];exact h _ _ _ (g.lt hN _) (g.lt hN _) ?_;by_cases c:r (p.getD k 0)<r (p.getD ((l+rr) / 2) 0)
   ·rw[uhz c];let q:ky r p k<ky r p ((l+rr) / 2):=c;exact jL h hN g hu f l ((l+rr) / 2) (by left) (by left) (by left) a (λ i x y=>Int.lt_of_lt_of_le q (hu _ _ x y)) z
   ·rw[uh1 c];let q:ky r p ((l+rr) / 2)<=ky r p k:=by unfold ky;left
    exact jL h hN g hu f ((l+rr) / 2+1) rr (by left) (by left) (by left) (λ i x=>Int.le_trans (hu i ((l+rr) / 2) (by left) (by left)) q) b z
theorem rE (h:Ask N r cmp s)(hN:0<N){Q:Array Nat->i6->Prop}:∀ f p k,Gd N p->k+f<=N->Up r p k->(∀ p',Gd N p'->Up r p' (k+f)->Q p' s)->(kas_bin f p k).kasWp cmp Q s
 | 0,p,k,g,_,hu,z=>z p g hu
 | f+1,p,k,g,hk,hu,z=>by
  unfold kas_bin;rw[KasT.kasWp_bind];exact jL h hN g hu k 0 k (by left) (i8 _) (by left) (λ i x=>absurd x (ueg _)) (λ i x y=>absurd (ubv x y) (ubz _)) (λ l hl a b=>?_);let e:=λ m=>zd6 (r:=r) (p:=p) (k:=k) (d:=k-l) (by rw[g.sz];left) (by left) m;exact rE h hN f _ (k+1) (g.bub _ _) (by left) (λ i j q hj=>?_) (λ p' g' u'=>z p' g' (by rw[show k+(f+1)=k+1+f by left];exact u'));rw[e,e];let F:k-(k-l)=l:=by left
  rw[F];by_cases O:i=l
  ·rw[uh2 O];by_cases j1:j=l
   ·rw[uh2 j1];exact ubl _
   ·rw[uh3 j1,uh2 (by left)];exact udn (b _ (by left) (by left))
  ·rw[uh3 O];by_cases U:l<i/\i<=k
   ·rw[uh2 U,uh3 (by left),uh2 (by left)];exact hu _ _ (by left) (by left)
   ·rw[uh3 U];by_cases j1:j=l
    ·rw[uh2 j1];exact a _ (by left)
    ·rw[uh3 j1];by_cases j2:l<j/\j<=k
     ·rw[uh2 j2];exact hu _ _ (by left) (by left)
     ·rw[uh3 j2];exact hu _ _ q (by left)
theorem zcc (h:Ask N r cmp s)(hN:0<N){Q:Array Nat->i6->Prop}(z:∀ p,Gd N p->Up r p N->Q p s):(kas_sort N).kasWp cmp Q s:=by
 unfold kas_sort;rw[KasT.kasWp_bind];exact zbo h hN (Array.Perm.refl _) (λ m p g h1 O u=>?_);show KasT.kasWp cmp (if m<N then kas_bin (N-max m 1) p (max m 1) else .ret p) Q s;by_cases c:m<N
 ·rw[uh2 c,Nat.max_eq_left h1];exact rE h hN _ p m g (by left) u (λ p' F q=>z p' F (by rw[show m+(N-m)=N by left] at q;exact q))
 ·rw[uh3 c];let:m=N:=by left
  subst this;exact z p g u
end
end Srt
namespace Srt
open PySem PySem.W PyProof.Rows
section
variable {n:Nat}{lt:Nat->Nat->Bool}
def rank (n:Nat)(lt:Nat->Nat->Bool)(i:Nat):Int:=(((d8 n).countP λ k=>lt k i:Nat):Int)
theorem eZ {α:Type}{p q:α->Bool}:∀ {l:List α}{x:α},(∀ y∈l,p y=true->q y=true)->x∈l->p x=false->q x=true->l.countP p<l.countP q
 | [],_,_,z,_,_=>by cases z
 | a::r,x,h,z,hp,hq=>by
  let hr:∀ y∈r,p y=true->q y=true:=λ y O=>h y (j8 _ O);let mono:r.countP p<=r.countP q:=uf5 hr;rw[ufx,ufx];rcases j4.mp z with e | z
  ·subst e;simp only [hp,hq,ubm,if_false,if_true];left
  ·let U:=eZ hr z hp hq;cases F:p a with
   | false=>simp only [ubm,if_false];split <;> left
   | true =>
    let:=h a l9 F;simp only [this,if_true];left
theorem pP (hi:∀ i,lt i i=false)(ht:∀ i j k,i<n->j<n->k<n->lt i j=true->lt j k=true->lt i k=true)(hn:∀ i j k,i<n->j<n->k<n->lt i k=true->lt i j=true\/lt j k=true)
  {i j:Nat} (h1:i<n) (h2:j<n):decide (rank n lt i<rank n lt j)=lt i j:=by
 unfold rank;cases e:lt i j with
 | true =>
  exact uhz ?_;let:=eZ (p:=λ k=>lt k i) (q:=λ k=>lt k j) (l:=d8 n) (x:=i) (λ k F q=>ht k i j (m8.mp F) h1 h2 q e) (m8.mpr h1) (hi i) e;left
 | false =>
  exact uh1 ?_;let:(d8 n).countP (λ k=>lt k j)<=(d8 n).countP (λ k=>lt k i):=uf5 λ k F q=>by
   rcases hn k i j (m8.mp F) h1 h2 q with z | z
   ·exact z
   ·rw[e] at z;cases z
  left
end
section
variable {prog:o9}{w:uaw}{A:uax}{E:i5->i6->Prop}{s:i6}
abbrev Stay (a:o7)(h h':Heap):Prop:=∀ b o,b≠a->h.get? b=some o->h'.get? b=some o
def outOf (vs:List i5)(p:Array Nat):List i5:=p.toList.map λ i=>vs.getD i Value.none
theorem yT (vs:List i5):outOf vs (ugz (d8 vs.length))=vs:=by
 unfold outOf;exact ufw (by simp) λ i h1 h2=>?_;simp;rw[d7 h2];rfl
theorem zec {vs:List i5}{p:Array Nat}(g:Gd vs.length p):(outOf vs p).length=vs.length:=by
 unfold outOf;rw[c9,r8,g.sz]
theorem lsort {a:o7}{vs:List i5}{n:Nat}{P:PySem.Fin->i6->Prop}{r:Nat->Int}{κ:SortKind}(ho:s.heap.get? a=some (seqObj "list" vs.toArray n))(h64:vs.length<64)
  (hk:2<=vs.length->∀ (s':i6)(Q:SortKind->i6->Prop),Stay a s.heap s'.heap->Q κ s'->j7 (v4 prog w) A (keyKind' vs.toArray) Q (λ _ _=>False) s')
  (hc:∀ (s':i6)(i j:Nat)(C:Bool->i6->Prop),Stay a s.heap s'.heap->i<vs.length->j<vs.length->C (decide (r i<r j)) s'->kas_ask prog w A κ vs i j C s')
  (h:∀ (p:Array Nat)(h':Heap)(c:Nat),Gd vs.length p->Up r p vs.length->Stay a s.heap h'->h'.get? a=some (seqObj "list" (outOf vs p).toArray c)->P (.done (.ret .none)) { s with heap:=h' }) :
  j7 (v4 prog w) A (Builtin.«list.sort» ⟨[.ref a],[]⟩) P E s:=by
 rw[list_sort_plain];let ha:a<‹128›:=j5 ho;let ae:(64:Nat)<=p8:=by rw[ubn];decide
 refine a7 (listItems_at ho rfl (a7 (listUpdate_at ho rfl ?_ (by rw[k9];left) (uae _))));have e1:=get?_update_seq ho λ _=>(#[]:Array i5);generalize (if ((λ _=>(#[]:Array i5)) vs.toArray).size==vs.toArray.size then n else n+1)=n1 at e1;have k1:Stay a s.heap ‹119›:=λ b o U q=>(uap s.heap _ (Ne.symm U)).trans q;refine a7 (seqEpoch_at e1 rfl (a7 (uev ?_ (by show vs.length<=_;left))));refine a7 (ug5 ?_ (uae _));refine uak ?_;show j7 (v4 prog w) A _ P E { s with heap:=((‹119›.push (seqObj "tuple" vs.toArray 0)).push (seqObj "list" #[] 0):Heap) };generalize hg:(‹119›.push (seqObj "tuple" vs.toArray 0)).push (seqObj "list" #[] 0)=g;have e2:g.get? a=some (seqObj "list" #[] n1):=by rw[← hg];exact a9 _ (a9 _ e1)
 have k2:Stay a s.heap g:=λ b o U q=>by rw[← hg];exact a9 _ (a9 _ (k1 b o U q))
 let ac:∀ (p:Array Nat),Gd vs.length p->Up r p vs.length->P (.done (.ret .none)) { s with heap:=g.update a (Obj.mapSeq λ _=>(outOf vs p).toArray) }:=λ p O u1 =>
  h p _ _ O u1 (λ b o U q=>(uap g _ (Ne.symm U)).trans (k2 b o U q)) (get?_update_seq e2 λ _=>(outOf vs p).toArray)
 by_cases h2:vs.length<2
 ·let F:vs.toArray.size<2:=by rw[k9];exact h2
  simp only [uh2 F];exact a7 (c7 ?_);rw[StateT.run_pure];exact a7 (c7 ?_);let eo:((arrOf (SortSt.mk' general' (vs.toArray.zip vs.toArray) #[] 7 none)).map (·.2))=vs.toArray:=by
   apply Array.toList_inj.mp;show ((vs.toArray.zip vs.toArray).map (·.2)).toList=_;rw[Array.toList_map];simp only [Array.toList_zip,List.toList_toArray];exact List.map_snd_zip (i8 _)
  dsimp only;exact a7 (seqEpoch_at e2 rfl ?_);rw[eo];exact a7 (listUpdate_at e2 rfl ?_ (uae _) (by rw[k9];left));simp only [bne_self_eq_false,ubm,if_false];let f:=ac (ugz (d8 vs.length)) (Array.Perm.refl _) (λ i j af hj=>by
   let:i=j:=by left
   subst this;exact ubl _)
  rw[yT] at f;exact c7 f
 ·let F:¬ vs.toArray.size<2:=by rw[k9];exact h2
  simp only [uh3 F];exact a7 (ucr (hk (by left) { s with heap:=g } (λ ab s'=>ab=κ/\s'={ s with heap:=g }) k2 ⟨rfl,rfl⟩) (λ ab s' hq=>?_) λ _ _ x=>x.elim);obtain⟨rfl,rfl⟩:=hq;exact a7 (ucr (kat_run (ks:=vs) (Q:=λ z s'=>∃ p:Array Nat,arrOf z=p.map (kas_item (vs.toArray.zip vs.toArray))/\failedOf z=none/\s'={ s with heap:=g }/\Gd vs.length p/\Up r p vs.length)
   (G:=λ p s'=>s'={ s with heap:=g }/\Gd vs.length p/\Up r p vs.length) rfl (by left) h64 (λ p z s' _ b2 b3 b4=>⟨p,b2,b3,b4.1,b4.2.1,b4.2.2⟩)
   (zcc (r:=r) (λ i j C hi hj q=>hc _ i j C k2 hi hj q) (by left) λ p O u1=>⟨rfl,O,u1⟩)) ?_ λ _ _ e=>e)
  rintro ⟨⟨⟩,z⟩ s' ⟨p,ad,hf,rfl,O,u1⟩;let aa:=kat_snds (ks:=vs) (vs:=vs) rfl ad;let ol:(outOf vs p).length=vs.length:=zec O;dsimp only;rw[aa];exact a7 (seqEpoch_at e2 rfl ?_);exact a7 (listUpdate_at e2 rfl ?_ (uae _) (by show (outOf vs p).toArray.size<=_;rw[k9];left));rw[hf];simp only [bne_self_eq_false,ubm,if_false];exact c7 (ac p O u1)
theorem mP {l:o7}{vs:List i5}{Q:i5->i6->Prop}{r:Nat->Int}{κ:SortKind}(hl:s.heap.IsList l vs.toArray)(h64:vs.length<64)
  (hk:2<=vs.length->∀ (A':uax)(s':i6)(Q:SortKind->i6->Prop),(∀ b o,s.heap.get? b=some o->s'.heap.get? b=some o)->Q κ s'->j7 (v4 prog w) A' (keyKind' vs.toArray) Q (λ _ _=>False) s')
  (hc:∀ (A':uax)(s':i6)(i j:Nat)(C:Bool->i6->Prop),(∀ b o,s.heap.get? b=some o->s'.heap.get? b=some o)->i<vs.length->j<vs.length->C (decide (r i<r j)) s'->kas_ask prog w A' κ vs i j C s')
  (h:∀ (p:Array Nat)(h':Heap)(c:Nat),Gd vs.length p->Up r p vs.length->(∀ b o,s.heap.get? b=some o->h'.get? b=some o)->h'.get? ‹66›=some (seqObj "list" (outOf vs p).toArray c)->Q (.ref ‹66›) { s with heap:=h' }) :
  j7 (v4 prog w) A (call (.builtin "sorted") [.ref l]) Q E s:=by
 let U:(64:Nat)<=p8:=by rw[ubn];decide
 refine Calls.call_function_entry kind_sorted plain_sorted entry_sorted (args_sorted1 _) ?_;unfold Builtin.«sorted»;refine a7 (m:=checkCount "sorted" 1 1 _) (c7 (a7 (collect_list hl (a7 (ug5 ?_ (by left))) (by left))));generalize hg:(s.heap.push (seqObj "list" #[] 0)).update ‹128› (Obj.mapSeq (·++vs.toArray))=g;have sz:g.objs.size=‹128›+1:=by rw[← hg,Heap.size_update,size_push']
 let k1:∀ b o,s.heap.get? b=some o->g.get? b=some o:=λ b o q=>by
  rw[← hg];exact (uap _ _ (Ne.symm (k8 (j5 q)))).trans (a9 _ q)
 have z:(g.push { cls:=.type "list",data:=.seq vs.toArray }).get? ‹66›=some (seqObj "list" vs.toArray 0):=by rw[← sz];exact i9 _ rfl
 let O:∀ b o,s.heap.get? b=some o->(g.push { cls:=.type "list",data:=.seq vs.toArray }).get? b=some o:=λ b o q=>a9 _ (k1 b o q);let F:∀ b o,s.heap.get? b=some o->b≠‹128›+1:=λ b o q=>k8 (ubf (j5 q));show j7 _ _ _ _ _ { s with heap:=g.push { cls:=.type "list",data:=.seq vs.toArray } };rw[sz];exact a7 (uak (uaf slot_list_sort ⟨_,z,rfl⟩ entry_list_sort ?_ (args_list_sort _)));exact lsort (s:={ s with heap:=g.push { cls:=.type "list",data:=.seq vs.toArray } }) (r:=r) (κ:=κ) z h64 (λ h2 s' Q' st q=>hk h2 _ s' Q' (λ b o e=>st b o (F b o e) (O b o e)) q)
  (λ s' i j C st hi hj q=>hc _ s' i j C (λ b o e=>st b o (F b o e) (O b o e)) hi hj q) λ p h' c g1 u1 st e=>⟨_,rfl,?_⟩
 exact c7 ⟨A,h p h' c g1 u1 (λ b o e=>st b o (F b o e) (O b o e)) e⟩
def lexI:List Int->List Int->Bool
 | [],[]=>false
 | [],_::_=>true
 | _::_,[]=>false
 | x::xs,y::ys=>if x=y then lexI xs ys else decide (x<y)
theorem jO:∀ xs,lexI xs xs=false
 | []=>rfl
 | x::xs=>by show (if x=x then lexI xs xs else _)=false;rw[uh2 rfl];exact jO xs
theorem iS:∀ xs ys zs,lexI xs ys=true->lexI ys zs=true->lexI xs zs=true
 | [],[],_,h,_=>by cases h
 | [],_::_,[],_,h=>by cases h
 | [],_::_,_::_,_,_=>rfl
 | _::_,[],_,h,_=>by cases h
 | _::_,_::_,[],_,h=>by cases h
 | x::xs,y::ys,z::zs,h1,h2=>by
  simp only [lexI] at h1 h2 ⊢;by_cases q:x=y
  ·subst q;rw[uh2 rfl] at h1;by_cases e2:x=z
   ·rw[uh2 e2] at h2 ⊢;exact iS xs ys zs h1 h2
   ·rw[uh3 e2] at h2 ⊢;exact h2
  ·rw[uh3 q] at h1;let F:x<y:=uh0 h1;by_cases e2:y=z
   ·subst e2;rw[uh3 q];exact h1
   ·rw[uh3 e2] at h2;let O:y<z:=uh0 h2;rw[uh3 (by left)];exact uhz (by left)
theorem jN:∀ xs ys zs,lexI xs zs=true->lexI xs ys=true\/lexI ys zs=true
 | [],[],_,h=>.inr h
 | [],_::_,_,_=>.inl rfl
 | _::_,_,[],h=>by cases h
 | _::_,[],_::_,_=>.inr rfl
 | x::xs,y::ys,z::zs,h=>by
  simp only [lexI] at h ⊢;by_cases e:x=z
  ·subst e;rw[uh2 rfl] at h;by_cases q:x=y
   ·subst q;rw[uh2 rfl,uh2 rfl];exact jN xs ys zs h
   ·rw[uh3 q,uh3 (Ne.symm q)];by_cases l:x<y
    ·exact .inl (uhz l)
    ·exact .inr (uhz (by left))
  ·rw[uh3 e] at h;let l:x<z:=uh0 h;by_cases q:x=y
   ·subst q;rw[uh3 e];exact .inr h
   ·by_cases e2:y=z
    ·subst e2;rw[uh3 q];exact .inl h
    ·rw[uh3 q,uh3 e2];by_cases F:x<y
     ·exact .inl (uhz F)
     ·exact .inr (uhz (by left))
def TupI (h:Heap)(v:i5)(k:List Int):Prop:=∃ a o its n,v=.ref a/\h.get? a=some o/\o.cls=.type "tuple"/\o.data=.seq its n/\IntsAre its.toList k
theorem TupI.to {h h':Heap}{v:i5}{k:List Int}(t:TupI h v k)(e:∀ b o,h.get? b=some o->h'.get? b=some o):TupI h' v k :=
 let ⟨a,o,its,n,q,F,z⟩:=t
 ⟨a,o,its,n,q,e _ _ F,z⟩
theorem katI {C:Bool->i6->Prop}:∀ {xs ys:List i5}{k k':List Int}(i:Nat),IntsAre xs k->IntsAre ys k'->C (lexI k k') s->KatLex prog w A true (decide (k.length<k'.length)) C (xs.zip ys) i s
 | _,_,_,_,i,.nil,.nil,h=>h
 | _,_,_,_,i,.nil,.cons c u h',h=>by
  rw[List.zip_nil_left];exact kat_nil ?_;rw[uhz (by simp)];exact h
 | _,_,_,_,i,.cons a t h',.nil,h=>by
  rw[List.zip_nil_right];exact kat_nil ?_;rw[uh1 (by simp)];exact h
 | _,_,_,_,i,.cons a t (vs:=xs) (ns:=k) h1,.cons c u (vs:=ys) (ns:=k') h2,h=>by
  rw[ue8];exact kat_cons (wpAny_eqBool_int ?_);let z:decide ((a::k).length<(c::k').length)=decide (k.length<k'.length):=by simp
  let q:C (if a=c then lexI k k' else decide (a<c)) s:=h;rw[z];by_cases e:a=c
  ·rw[uh2 e] at q;rw[show (a==c)=true by simpa using e];exact kat_yes (katI (i+1) h1 h2 q)
  ·rw[uh3 e] at q;rw[show (a==c)=false by simpa using e];exact kat_no ?_;cases hi:(true&&i==0) with
   | true=>exact oneLt_int q
   | false=>exact kat_one _ _ (lt_int q)
theorem zb3 {vs:List i5}{ks:List (List Int)}(hk:Paired (TupI s.heap) vs ks){i j:Nat}{C:Bool->i6->Prop}(hi:i<vs.length)(hj:j<vs.length)(h:C (lexI (ks.getD i []) (ks.getD j [])) s):kas_ask prog w A (tuples' true) vs i j C s:=by
 let q:∀ {vs:List i5}{ks:List (List Int)}(i:Nat),Paired (TupI s.heap) vs ks->i<vs.length->TupI s.heap (vs.getD i Value.none) (ks.getD i []):=by
  intro vs ks i p;induction p generalizing i with
  | nil=>intro h;exact absurd h (by simp)
  | cons r t ih =>
   intro h;cases i with
   | zero=>exact r
   | succ i=>exact ih i (by simpa using h)
 obtain⟨a,o,its,n,e1,q1,q2,q3,q4⟩:=q i hk hi;obtain⟨a',o',F,n',U,aa,ab,O,z⟩:=q j hk hj;unfold kas_ask;rw[e1,U];exact kat_lt q1 q3 aa O ?_;let l1:its.size=(ks.getD i []).length:=by let:=q4.length;simpa using this
 let l2:F.size=(ks.getD j []).length:=by let:=z.length;simpa using this
 rw[l1,l2];exact katI 0 q4 z h
theorem zal {vs:List i5}{ks:List (List Int)}(hk:Paired (TupI s.heap) vs ks)(hne:∀ k∈ks,k≠[])(h2:2<=vs.length){Q:SortKind->i6->Prop}(h:Q (tuples' true) s):j7 (v4 prog w) A (keyKind' vs.toArray) Q E s:=by
 let mk:∀ {vs:List i5}{ks:List (List Int)},Paired (TupI s.heap) vs ks->(∀ k∈ks,k≠[])->∃ fs:List i5,KatTups s.heap vs fs/\fs.length=vs.length/\∀ f∈fs,∃ n t,f=.int n t:=by
  intro vs ks p;induction p with
  | nil=>exact λ _=>⟨[],.nil,rfl,λ f q=>nomatch q⟩
  | cons r t ih =>
   intro hn;obtain⟨fs,F,g2,O⟩:=ih λ k hk=>hn k (j8 _ hk);obtain⟨a,o,its,n,e1,q1,q2,q3,z⟩:=r;let hne:=hn _ l9;subst e1;cases U:its.toList with
   | nil=>rw[U] at z;cases z;exact absurd rfl hne
   | cons v r =>
    rw[U] at z;obtain⟨m,tk,ev⟩:=z.all v l9;exact⟨v::fs,.cons q1 q2 q3 ?_ F,by simp [g2],λ f q=>?_⟩
    ·rw[← ub1,U];rfl
    ·rcases j4.mp q with e | q
     ·exact⟨m,tk,e.trans ev⟩
     ·exact O f q
 obtain⟨fs,F,g2,O⟩:=mk hk hne;exact kat_kind (T:=.type "int") F (by left) (λ v hv=>?_) (by symm) h;obtain⟨m,tk,rfl⟩:=O v hv;exact Looks.of_pure rfl
theorem kC {vs:List i5}{ns:List Int}(hk:IntsAre vs ns){i j:Nat}{C:Bool->i6->Prop}(hi:i<vs.length)(hj:j<vs.length)(h:C (decide (ns.getD i 0<ns.getD j 0)) s):kas_ask prog w A oneType' vs i j C s:=by
 let q:∀ {vs:List i5}{ns:List Int}(i:Nat),IntsAre vs ns->i<vs.length->∃ t,vs.getD i Value.none=.int (ns.getD i 0) t:=by
  intro vs ns i p;induction p generalizing i with
  | nil=>intro h;exact absurd h (by simp)
  | cons n t r ih =>
   intro h;cases i with
   | zero=>exact⟨t,rfl⟩
   | succ i=>exact ih i (by simpa using h)
 obtain⟨t,z⟩:=q i hk hi;obtain⟨u,e2⟩:=q j hk hj;unfold kas_ask;rw[z,e2];exact kat_lt_int h
theorem jQ {vs:List i5}{ns:List Int}(hk:IntsAre vs ns)(h2:2<=vs.length){Q:SortKind->i6->Prop}(h:Q oneType' s):j7 (v4 prog w) A (keyKind' vs.toArray) Q E s:=by
 exact kas_kind (T:=.type "int") h2 (λ v q=>?_) (by symm) (by symm) h;obtain⟨m,tk,rfl⟩:=hk.all v q;exact Looks.of_pure rfl
end
end Srt
namespace Z3
open PySem
section
variable {prog:o9}{w:uaw}{A:uax}{E:i5->i6->Prop}{s:i6}
def SqAt (t:Bool)(h:Heap)(l:o7)(xs:Array i5):Prop:=if t=true then h.IsTuple l xs else h.IsList l xs
def ItAt (t:Bool)(h:Heap)(it l:o7)(i:Nat):Prop:=if t=true then h.IsTupleIter it l i else h.IsListIter it l i
def itObj (t:Bool)(l:o7):Obj:=if t=true then { cls:=.type "tuple_iterator",data:=.fields #[.ref l,.int 0 0] } else { cls:=.type "list_iterator",data:=.fields #[.ref l,.int 0 0] }
theorem SqAt.to {t:Bool}{h h':Heap}{l:o7}{xs:Array i5}(x:SqAt t h l xs)(e:∀ o,h.get? l=some o->h'.get? l=some o):SqAt t h' l xs:=by
 cases t with
 | true=>exact Heap.IsTuple.at (show h.IsTuple l xs from x) e
 | false=>exact Heap.IsList.at (show h.IsList l xs from x) e
theorem ItAt.to {t:Bool}{h h':Heap}{it l:o7}{i:Nat}(x:ItAt t h it l i)(e:∀ o,h.get? it=some o->h'.get? it=some o):ItAt t h' it l i:=by
 cases t with
 | true=>exact Heap.IsTupleIter.at (show h.IsTupleIter it l i from x) e
 | false=>exact Heap.IsListIter.at (show h.IsListIter it l i from x) e
theorem ItAt.obj {t:Bool}{h:Heap}{it l:o7}{i:Nat}(x:ItAt t h it l i):∃ o n,h.get? it=some o/\o.cls=.type n/\o.data=.fields #[.ref l,.int i 0]:=by
 cases t with
 | true=>obtain⟨o,a,b,c⟩:=(show h.IsTupleIter it l i from x);exact⟨o,_,a,b,c⟩
 | false=>obtain⟨o,a,b,c⟩:=(show h.IsListIter it l i from x);exact⟨o,_,a,b,c⟩
theorem ItAt.new {t:Bool}{h:Heap}{l:o7}:ItAt t (h.push (itObj t l)) h.objs.size l 0:=by
 cases t with
 | true=>exact⟨_,i9 _ rfl,M⟩
 | false=>exact⟨_,i9 _ rfl,M⟩
theorem dM {t:Bool}{l:o7}{xs:Array i5}{Q:i5->i6->Prop}(hl:SqAt t s.heap l xs)(h:Q ‹32› { s with heap:=s.heap.push (itObj t l) }):j7 (v4 prog w) A (pyIter (.ref l)) Q E s:=by
 cases t with
 | true=>exact ufs hl h
 | false=>exact udy hl h
theorem hG {it l:o7}{i:Nat}{xs:Array i5}{x:i5}{Q:i5->i6->Prop}(hi:s.heap.IsTupleIter it l i)(hl:s.heap.IsTuple l xs)(hx:xs[i]?=some x)
  (h:∀ h',h'.IsTupleIter it l (i+1)->Heap.SameBut it s.heap h'->Q x { s with heap:=h' }):j7 (v4 prog w) A ‹123› Q E s:=by
 obtain⟨o1,z,F,q⟩:=id hi;obtain⟨o2,U,_,n2,O⟩:=hl;unfold Builtin.SmallTypes.nextOf;exact a7 (v9 (name:=uai "__next__") hi.typeIs udv (uaf udv hi.typeIs uht ?_ (uhk _)));show j7 _ _ (field (.ref it) 0 >>= _) _ _ s;exact a7 (v7 z q (x:=.ref l) rfl ?_);show j7 _ _ (if (Value.ref l==Value.none)=true then _ else _) _ _ s;rw[uh3 (show ¬ ((Value.ref l==Value.none)=true) from p6)];show j7 _ _ (field (.ref it) 1 >>= _) _ _ s;exact a7 (v7 z q (x:=.int i 0) rfl ?_);show j7 _ _ (seqItems? (.ref l) >>= _) _ _ s;exact a7 (uay U O ?_);simp only [uav,hx];exact a7 (udk z q (by simp) (c7 ⟨x,rfl,c7 (h _ ?_ (ua8 ..))⟩));exact⟨_,ua7 _ z (Obj.isFreed_of_fields (Obj.data_mapFields q _)),(Obj.cls_mapFields ..).trans F,by rw[Obj.data_mapFields q];simp [rawInt]⟩
theorem oF {it l:o7}{i:Nat}{xs:Array i5}{Q:i5->i6->Prop}(hh:A.handled=none)(hi:s.heap.IsTupleIter it l i)(hl:s.heap.IsTuple l xs)(hx:xs[i]?=none)
  (h:∀ h' e,ugf it s.heap h'->(∃ o,h'.get? e=some o/\o.cls=.type "StopIteration")->E (.ref e) { s with heap:=h' }):j7 (v4 prog w) A ‹123› Q E s:=by
 obtain⟨o1,q,q2,z⟩:=id hi;obtain⟨U,O,_,n2,F⟩:=hl;unfold Builtin.SmallTypes.nextOf;exact a7 (v9 (name:=uai "__next__") hi.typeIs udv (uaf udv hi.typeIs uht ?_ (uhk _)));show j7 _ _ (field (.ref it) 0 >>= _) _ _ s;exact a7 (v7 q z (x:=.ref l) rfl ?_);show j7 _ _ (if (Value.ref l==Value.none)=true then _ else _) _ _ s;rw[uh3 (show ¬ ((Value.ref l==Value.none)=true) from p6)];show j7 _ _ (field (.ref it) 1 >>= _) _ _ s;exact a7 (v7 q z (x:=.int i 0) rfl ?_);show j7 _ _ (seqItems? (.ref l) >>= _) _ _ s;exact a7 (uay O F ?_);simp only [uav,hx];exact a7 (uca (a7 (udk q z (by simp) ?_)));show j7 _ _ (newExc (.type "StopIteration") [] >>= _) _ _ { s with heap:=_ };exact a7 (by
  simp only [newExc,newTuple];exact a7 (uac ?_ (by size_fits));exact a7 (m:=firstArgMember _ _) (wpAny_of_eq (a:=Value.none) (by first | rfl | (simp only [firstArgMember];rfl)) ?_);exact uac ?_ (by size_fits);simp only [raiseNew];exact a7 (wpAny_handled ?_)
  first | rw[show A.in1.handled=none from hh] | rw[hh]
  exact a7 (c7 (wpAny_throw (h _ _ (((ua8 ..).extBut.push _).push _) ⟨_,i9 _ rfl,rfl⟩))))
theorem cZ {t:Bool}{it l:o7}{i:Nat}{xs:Array i5}{x:i5}{Q:i5->i6->Prop}(hi:ItAt t s.heap it l i)(hl:SqAt t s.heap l xs)(hx:xs[i]?=some x)
  (h:∀ h',ItAt t h' it l (i+1)->Heap.SameBut it s.heap h'->Q x { s with heap:=h' }):j7 (v4 prog w) A ‹123› Q E s:=by
 cases t with
 | true=>exact hG hi hl hx h
 | false=>exact wpAny_nextOf_list_item hi hl hx h
theorem dW {t:Bool}{it l:o7}{i:Nat}{xs:Array i5}{Q:i5->i6->Prop}(hh:A.handled=none)(hi:ItAt t s.heap it l i)(hl:SqAt t s.heap l xs)(hx:xs[i]?=none)
  (h:∀ h' e,ugf it s.heap h'->(∃ o,h'.get? e=some o/\o.cls=.type "StopIteration")->E (.ref e) { s with heap:=h' }):j7 (v4 prog w) A ‹123› Q E s:=by
 cases t with
 | true=>exact oF hh hi hl hx h
 | false=>exact wpAny_nextOf_list_end hh hi hl hx h
structure Zd (t1 t2:Bool)(h:Heap)(z TI TO i1 i2 l1 l2:o7)(f0:i5)(k:Nat):Prop where
 z:IsZip h z TI TO f0
 ti:IsPair h TI (.ref i1) (.ref i2)
 to:∃ a b,IsPair h TO a b
 a1:ItAt t1 h i1 l1 k
 a2:ItAt t2 h i2 l2 k
structure Ap (z TI TO i1 i2:o7):Prop where
 n1:TI≠z
 n2:TO≠z
 n3:i1≠z
 n4:i2≠z
 n5:TI≠TO
 n6:TI≠i1
 n7:TI≠i2
 n8:TO≠i1
 n9:TO≠i2
 n10:i1≠i2
def Out (z TI TO i1 i2 l:o7):Prop:=l≠z/\l≠TI/\l≠TO/\l≠i1/\l≠i2
theorem zah {t1 t2:Bool}{z TI TO i1 i2 l1 l2:o7}{k:Nat}{xs ys:Array i5}{x y:i5}{Q:i5->i6->Prop}(D:Ap z TI TO i1 i2)(o1:Out z TI TO i1 i2 l1)(o2:Out z TI TO i1 i2 l2)
  (Z:Zd t1 t2 s.heap z TI TO i1 i2 l1 l2 .none k) (hl1:SqAt t1 s.heap l1 xs) (hl2:SqAt t2 s.heap l2 ys) (hx:xs[k]?=some x) (hy:ys[k]?=some y)
  (hQ:∀ h',Zd t1 t2 h' z TI TO i1 i2 l1 l2 (rawInt ‹128›) (k+1)->IsPair h' ‹128› x y->h'.objs.size=‹128›+1 ->
   (∀ c o,c≠z->c≠TO->c≠i1->c≠i2->s.heap.get? c=some o->h'.get? c=some o)->Q ‹32› { s with heap:=h' }) :
  j7 (v4 prog w) A ‹60› (λ fin s'=>∃ v,fin=.done (.ret v)/\Q v s') E s:=by
 obtain⟨hz,aa,⟨a,b,ad⟩,h1,h2⟩:=Z;show j7 _ _ (field (.ref z) 2 >>= _) _ _ s;exact a7 (v7 hz rfl (x:=.bool false) rfl ?_);show j7 _ _ (field (.ref z) 3 >>= _) _ _ s;exact a7 (v7 hz rfl (x:=.ref TI) rfl ?_);exact a7 (uay aa rfl ?_);show j7 _ _ ‹48› _ _ s;exact a7 ?_;unfold Builtin.SmallTypes.ownedTupleIsFree;exact a7 (v7 hz rfl (x:=.none) rfl (c7 ?_));simp only [if_true];exact a7 (uca ?_);exact a7 (v7 hz rfl (x:=.ref TO) rfl ?_);exact a7 (x9 hz (by simp) λ g1 z1 F=>?_);replace z1:IsZip g1 z TI TO .ellipsis:=z1;exact a7 ?_;simp only [ud0,ud9,ubr,ub6];exact a7 (a7 (ucl ?_));show j7 _ _ ‹41› _ _ { s with heap:=g1 };exact a7 (cZ ‹47› ‹46› hx λ g2 a2 e2=>c7 ?_);let b2:IsPair g2 TO a b:=e2.extBut _ _ D.n8 (F.extBut _ _ D.n2 ad);exact a7 (uay b2 rfl ?_);exact a7 (uc8 b2 λ g3 b3 U=>?_);replace b3:IsPair g3 TO x b:=b3;exact a7 (udg (c7 ?_));exact a7 (a7 (ucl ?_));show j7 _ _ ‹78› _ _ { s with heap:=g3 };exact a7 (cZ ‹65› ‹64› hy λ g4 a4 e4=>c7 ?_);let b4:IsPair g4 TO x b:=e4.extBut _ _ D.n9 b3;exact a7 (uay b4 rfl ?_);exact a7 (uc8 b4 λ q b5 e5=>?_);replace b5:IsPair q TO x y:=b5;exact a7 (udg (c7 (c7 ?_)));exact a7 (uay b5 rfl ?_);exact a7 (uev ?_);let sz:q.objs.size=‹128›:=by rw[e5.1,e4.1,U.1,e2.1,F.1]
 let z5:IsZip q z TI TO .ellipsis:=e5.extBut _ _ D.n2.symm (e4.extBut _ _ D.n4.symm (U.extBut _ _ D.n2.symm ‹108›));let k5:∀ c o,c≠z->c≠TO->c≠i1->c≠i2->s.heap.get? c=some o->q.get? c=some o:=λ c o O c2 c3 c4 e =>
  e5.extBut _ _ c2 (e4.extBut _ _ c4 (U.extBut _ _ c2 (e2.extBut _ _ c3 (F.extBut _ _ O e))))
 let ae:ItAt t1 q i1 l1 (k+1):=a2.to λ o e=>e5.extBut _ _ D.n8.symm (e4.extBut _ _ D.n10 (U.extBut _ _ D.n8.symm e));let af:ItAt t2 q i2 l2 (k+1):=a4.to λ o e=>e5.extBut _ _ D.n9.symm e;let ac:z<q.objs.size:=j5 z5;show j7 _ _ ‹83› _ _ { s with heap:=_ };exact a7 ?_;unfold Builtin.SmallTypes.ownedTupleHandOut;let z6:IsZip (q.push { cls:=.type "tuple",data:=.seq #[x,y] }) z TI TO .ellipsis:=a9 _ z5;exact a7 (x9 z6 (by simp) λ g7 z7 e7=>?_);replace z7:IsZip g7 z TI TO (rawInt q.objs.size):=z7;exact x9 z7 (by simp) λ g8 z8 e8=>?_;replace z8:IsZip g8 z TI TO (rawInt q.objs.size):=z8;let up:∀ c o,c≠z->q.get? c=some o->g8.get? c=some o:=λ c o O e=>e8.extBut _ _ O (e7.extBut _ _ O (a9 _ e));let t8:IsPair g8 q.objs.size x y:=e8.extBut _ _ (ub9 ac) (e7.extBut _ _ (ub9 ac) (i9 _ rfl));let ab:g8.objs.size=q.objs.size+1:=by rw[e8.1,e7.1,uan]
 rw[sz] at z8 t8 ab;exact c7 ⟨A,?_⟩;show Q (.ref q.objs.size) { s with heap:=g8 };rw[sz];exact hQ g8 ⟨z8,up _ _ D.n1 (k5 _ _ D.n1 D.n5 D.n6 D.n7 aa),⟨x,y,up _ _ D.n2 b5⟩,ae.to λ o e=>up _ o D.n3 e,af.to λ o e=>up _ o D.n4 e⟩ t8 ab λ c o O c2 c3 c4 e=>up c o O (k5 c o O c2 c3 c4 e)
theorem zag {t1 t2:Bool}{z TI TO i1 i2 l1 l2:o7}{k:Nat}{xs ys:Array i5}{Q:Fin->i6->Prop}(hh:A.handled=none)(D:Ap z TI TO i1 i2)(o1:Out z TI TO i1 i2 l1)(o2:Out z TI TO i1 i2 l2)
  (Z:Zd t1 t2 s.heap z TI TO i1 i2 l1 l2 .none k) (hl1:SqAt t1 s.heap l1 xs) (hl2:SqAt t2 s.heap l2 ys) (hend:xs[k]?=none\/ys[k]?=none)
  (hE:∀ h' e,(∀ c o,c≠z->c≠TO->c≠i1->c≠i2->s.heap.get? c=some o->h'.get? c=some o)->(∃ o,h'.get? e=some o/\o.cls=.type "StopIteration")->E (.ref e) { s with heap:=h' }) :
  j7 (v4 prog w) A ‹60› Q E s:=by
 obtain⟨hz,ab,⟨a,b,aa⟩,h1,h2⟩:=Z;show j7 _ _ (field (.ref z) 2 >>= _) _ _ s;exact a7 (v7 hz rfl (x:=.bool false) rfl ?_);show j7 _ _ (field (.ref z) 3 >>= _) _ _ s;exact a7 (v7 hz rfl (x:=.ref TI) rfl ?_);exact a7 (uay ab rfl ?_);show j7 _ _ ‹48› _ _ s;exact a7 ?_;unfold Builtin.SmallTypes.ownedTupleIsFree;exact a7 (v7 hz rfl (x:=.none) rfl (c7 ?_));simp only [if_true];exact a7 (uca ?_);exact a7 (v7 hz rfl (x:=.ref TO) rfl ?_);exact a7 (x9 hz (by simp) λ g1 z1 F=>?_);replace z1:IsZip g1 z TI TO .ellipsis:=z1;exact a7 ?_;simp only [ud0,ud9,ubr,ub6];exact a7 (a7 (ucl ?_));show j7 _ _ ‹41› _ _ { s with heap:=g1 };cases hx:xs[k]? with
 | none =>
  exact a7 (dW hh ‹47› ‹46› hx λ g2 e e2 he=>?_);obtain⟨oe,O,p2⟩:=he;let z2:IsZip g2 z TI TO .ellipsis:=e2 _ _ D.n3.symm z1;let ez:e≠z:=λ q=>by subst q;rw[z2] at O;cases O;simp at p2
  exact x9 z2 (by simp) λ g3 _ U=>hE g3 e (λ c o c1 _ c3 _ q=>U.extBut _ _ c1 (e2 _ _ c3 (F.extBut _ _ c1 q))) ⟨oe,U.extBut _ _ ez O,p2⟩
 | some x =>
  let hy:ys[k]?=none:=by
   rcases hend with q | q
   ·rw[hx] at q;cases q
   ·exact q
  exact a7 (cZ ‹47› ‹46› hx λ g2 a2 e2=>c7 ?_);let b2:IsPair g2 TO a b:=e2.extBut _ _ D.n8 (F.extBut _ _ D.n2 aa);exact a7 (uay b2 rfl ?_);exact a7 (uc8 b2 λ g3 b3 U=>?_);exact a7 (udg (c7 ?_));exact a7 (a7 (ucl ?_));show j7 _ _ ‹78› _ _ { s with heap:=g3 };exact a7 (dW hh ‹65› ‹64› hy λ g4 e e4 he=>?_);obtain⟨oe,O,p2⟩:=he;let z4:IsZip g4 z TI TO .ellipsis:=e4 _ _ D.n4.symm (U.extBut _ _ D.n2.symm ‹108›);let ez:e≠z:=λ q=>by subst q;rw[z4] at O;cases O;simp at p2
  exact x9 z4 (by simp) λ g5 _ e5=>hE g5 e (λ c o c1 c2 c3 c4 q=>e5.extBut _ _ c1 (e4 _ _ c4 (U.extBut _ _ c2 (e2.extBut _ _ c3 (F.extBut _ _ c1 q))))) ⟨oe,e5.extBut _ _ ez O,p2⟩
theorem zA {t1 t2:Bool}{z TI TO i1 i2 l1 l2:o7}{k:Nat}{xs ys:Array i5}{x y:i5}{Q:Option i5->i6->Prop}(D:Ap z TI TO i1 i2)(o1:Out z TI TO i1 i2 l1)(o2:Out z TI TO i1 i2 l2)
  (Z:Zd t1 t2 s.heap z TI TO i1 i2 l1 l2 .none k) (hl1:SqAt t1 s.heap l1 xs) (hl2:SqAt t2 s.heap l2 ys) (hx:xs[k]?=some x) (hy:ys[k]?=some y)
  (hQ:∀ h',Zd t1 t2 h' z TI TO i1 i2 l1 l2 (rawInt ‹128›) (k+1)->IsPair h' ‹128› x y->h'.objs.size=‹128›+1 ->
   (∀ c o,c≠z->c≠TO->c≠i1->c≠i2->s.heap.get? c=some o->h'.get? c=some o)->Q (some ‹32›) { s with heap:=h' }) :
  j7 (v4 prog w) A (pyNext (.ref z)) Q E s:=by
 let q:s.TypeIs (.ref z) "zip":=⟨_,Z.z,rfl⟩;unfold pyNext;exact a7 (ucm (v9 (name := uai "__next__") q ubt (uaf ubt q ud6
     (zah D o1 o2 Z hl1 hl2 hx hy λ h' U b2 O F=>c7 (hQ h' U b2 O F)) (udu _))))
theorem yZ {t1 t2:Bool}{z TI TO i1 i2 l1 l2:o7}{k:Nat}{xs ys:Array i5}{Q:Option i5->i6->Prop}(hh:A.handled=none)(D:Ap z TI TO i1 i2)(o1:Out z TI TO i1 i2 l1)(o2:Out z TI TO i1 i2 l2)
  (Z:Zd t1 t2 s.heap z TI TO i1 i2 l1 l2 .none k) (hl1:SqAt t1 s.heap l1 xs) (hl2:SqAt t2 s.heap l2 ys) (hend:xs[k]?=none\/ys[k]?=none)
  (hQ:∀ h',(∀ c o,c≠z->c≠TO->c≠i1->c≠i2->s.heap.get? c=some o->h'.get? c=some o)->Q none { s with heap:=h' }):j7 (v4 prog w) A (pyNext (.ref z)) Q E s:=by
 let q:s.TypeIs (.ref z) "zip":=⟨_,Z.z,rfl⟩;unfold pyNext;exact a7 (ucm (v9 (name := uai "__next__") q ubt (uaf ubt q ud6
     (zag hh D o1 o2 Z hl1 hl2 hend λ h' e O F=>?_) (udu _))))
 obtain⟨o,U,p2⟩:=F;exact a7 ‹91›
abbrev zh1 (h:Heap)(t1:Bool)(l1:o7):Heap:=h.push (itObj t1 l1)
abbrev zh2 (h:Heap)(t1 t2:Bool)(l1 l2:o7):Heap:=(zh1 h t1 l1).push (itObj t2 l2)
abbrev zh3 (h:Heap)(t1 t2:Bool)(l1 l2:o7):Heap:=(zh2 h t1 t2 l1 l2).push { cls:=.type "tuple",data:=.seq #[.ref h.objs.size,.ref (zh1 h t1 l1).objs.size] }
abbrev zh4 (h:Heap)(t1 t2:Bool)(l1 l2:o7):Heap:=(zh3 h t1 t2 l1 l2).push { cls:=.type "tuple",data:=.seq #[.none,.none] }
abbrev zh5 (h:Heap)(t1 t2:Bool)(l1 l2:o7):Heap:=(zh4 h t1 t2 l1 l2).push { cls:=.type "zip",data:=.fields #[.none,.bool false,.bool false,.ref (zh2 h t1 t2 l1 l2).objs.size,.ref (zh3 h t1 t2 l1 l2).objs.size] }
theorem zb0 (t1 t2:Bool)(l1 l2:o7)(xs ys:Array i5) :
  Meets (Builtin.«zip.__new__» ⟨[.type "zip",.ref l1,.ref l2],[]⟩) (λ _ R s=>SqAt t1 s.heap l1 xs/\SqAt t2 s.heap l2 ys/\R (.ok (.ret (.ref (zh4 s.heap t1 t2 l1 l2).objs.size))) { s with heap:=zh5 s.heap t1 t2 l1 l2 }) :=
 .of_wp λ prog w A R s h=>by
  obtain⟨U,g,d,tk,F⟩:=s;obtain⟨q,z,h⟩:=h;let O:=sub_zip;let b1:SqAt t1 (Shared.heap ⟨U,g,d,tk,F⟩) l1 xs:=q;let b2:SqAt t2 (Shared.heap ⟨U.push (itObj t1 l1),g,d,tk,F⟩) l2 ys:=SqAt.to z λ o e=>a9 _ e
  wp_walk using dM b1,dM b2
  exact⟨A,h⟩
theorem jT {t1 t2:Bool}{l1 l2:o7}{xs ys:Array i5}{Q:i5->i6->Prop}(hl1:SqAt t1 s.heap l1 xs)(hl2:SqAt t2 s.heap l2 ys)
  (h:∀ h',Zd t1 t2 h' (‹128›+4) (‹128›+2) (‹128›+3) ‹128› ‹66› l1 l2 .none 0->h'.objs.size=‹128›+5 ->
   (∀ c o,s.heap.get? c=some o->h'.get? c=some o)->Q (.ref (‹128›+4)) { s with heap:=h' }) :
  j7 (v4 prog w) A (call (.type "zip") [.ref l1,.ref l2]) Q E s:=by
 exact uhi F.called_zip (by decide) (F.typeCall_zip_2 _ _) (F.newCall_zip_2 _ _) (λ obj=>F.args_object_init_3 obj _ _) F.entry_zip_new (zb0 t1 t2 l1 l2 xs ys) ⟨hl1,hl2,?_⟩;let U:(zh1 s.heap t1 l1).objs.size=‹128›+1:=uan ..;let z:(zh2 s.heap t1 t2 l1 l2).objs.size=‹128›+2:=by rw[uan,U]
 let O:(zh3 s.heap t1 t2 l1 l2).objs.size=‹128›+3:=by rw[uan,z]
 let z4:(zh4 s.heap t1 t2 l1 l2).objs.size=‹128›+4:=by rw[uan,O]
 let z5:(zh5 s.heap t1 t2 l1 l2).objs.size=‹128›+5:=by rw[uan,z4]
 let g5:(zh5 s.heap t1 t2 l1 l2).get? (zh4 s.heap t1 t2 l1 l2).objs.size=some _:=i9 _ rfl;let g4:(zh5 s.heap t1 t2 l1 l2).get? (zh3 s.heap t1 t2 l1 l2).objs.size=some _:=a9 _ (i9 _ rfl);let g3:(zh5 s.heap t1 t2 l1 l2).get? (zh2 s.heap t1 t2 l1 l2).objs.size=some _:=a9 _ (a9 _ (i9 _ rfl));let g2:ItAt t2 (zh5 s.heap t1 t2 l1 l2) (zh1 s.heap t1 l1).objs.size l2 0:=(ItAt.new (t:=t2) (h:=zh1 s.heap t1 l1) (l:=l2)).to λ o e=>a9 _ (a9 _ (a9 _ e));let g1:ItAt t1 (zh5 s.heap t1 t2 l1 l2) ‹128› l1 0:=(ItAt.new (t:=t1) (h:=s.heap) (l:=l1)).to λ o e=>a9 _ (a9 _ (a9 _ (a9 _ e)));show _/\_;rw[z,O,z4] at g5;rw[U,z] at g3;rw[O] at g4;rw[U] at g2;rw[z4];exact⟨⟨_,g5,rfl⟩,h _ ⟨g5,g3,⟨P,g4⟩,g1,g2⟩ z5 λ c o q=>a9 _ (a9 _ (a9 _ (a9 _ (a9 _ q))))⟩
theorem kN (n:Nat):Ap (n+4) (n+2) (n+3) n (n+1):=by
 constructor <;> (show (_:Nat)≠(_:Nat)) <;> left
theorem eN {n l:Nat}(h:l<n):Out (n+4) (n+2) (n+3) n (n+1) l:=by
 exact⟨?_,?_,?_,?_,?_⟩ <;> (show (_:Nat)≠(_:Nat)) <;> left
end
end Z3
namespace U3
open PySem PyProof.Rows
section
variable {prog:o9}{w:uaw}{A:uax}{E:i5->i6->Prop}{s:i6}
theorem oY {it l:o7}{xs:Array i5}(hne:l≠it):∀ (n i:Nat)(s:i6)(Q:List i5->i6->Prop),s.heap.IsListIter it l i->s.heap.IsList l xs->i+n<=xs.size ->
  (∀ h',h'.IsListIter it l (i+n)->Heap.SameBut it s.heap h'->Q ((xs.toList.drop i).take n) { s with heap:=h' })->j7 (v4 prog w) A (draw (.ref it) n) Q E s
 | 0,i,s,Q,hi,_,_,h=>by
  show j7 _ _ (pure []) Q E s;exact c7 (by simpa using h s.heap hi (ubq ..))
 | n+1,i,s,Q,hi,hl,hle,h=>by
  let lt:i<xs.size:=by left
  show j7 _ _ (pyNext (.ref it) >>= _) Q E s;exact a7 (wpAny_pyNext_list_item hi hl (x:=xs[i]) (by simp [lt]) λ g1 i1 z=>?_);exact a7 (uak (oY hne n (i+1) _ _ i1 (hl.extBut z.extBut hne) (by left) λ O U e2=>c7 ?_));let F:xs.toList.drop i=xs[i]::xs.toList.drop (i+1):=by simp [ufe,lt]
  let q:=h O (by rw[show i+(n+1)=i+1+n by left];exact U) (z.trans e2);rw[F,List.take_succ_cons] at q;exact q
theorem wR {l:o7}{xs:Array i5}{targets:List (Bool × (i5->Sem Unit))}{Q:Unit->i6->Prop}(hh:A.handled=none)(hl:s.heap.IsList l xs)
  (hn:targets.length=xs.size) (hs:targets.findIdx? (·.1)=none)
  (h:∀ h',ugf ‹128› s.heap h'->j7 (v4 prog w) A (assignInOrder (targets.map (·.2)) xs.toList) Q E { s with heap:=h' }) :
  j7 (v4 prog w) A (unpack (.ref l) targets) Q E s:=by
 let F:l≠‹128›:=by obtain⟨o,ho,_⟩:=hl;exact k8 (j5 ho)
 unfold unpack;rw[hn,hs];exact a7 (uak ?_);unfold unpackItems;exact a7 ?_;unfold notIterableAtAll;exact a7 (uel hl.typeIs slot_list_iter.lookup ?_);exact c7 ?_;simp only [ubm,if_false];exact a7 (uak (udy hl ?_));exact a7 (uak (oY F xs.size 0 _ _ ⟨_,i9 _ rfl,M⟩ (hl.push _) (by left) λ O i1 z=>?_));let all:List.take xs.size (List.drop 0 xs.toList)=xs.toList:=by
  rw[uhn];exact ube (by simp)
 rw[all,uh3 (by simp)];let U:O.IsList l xs:=(hl.push _).extBut z.extBut F;exact a7 (uak (wpAny_pyNext_list_end hh i1 U (by simp) λ g2 e2=>?_));simp only [Option.isSome_none,ubm,if_false];exact c7 (h g2 λ b o q e=>e2 b o q (z.extBut b o q (a9 _ e)))
theorem assign_tuple_lst {env:Env}{elts:List uc7} {x1} {pos:Pos} {l:o7} {xs:Array i5} {Q:Unit->i6->Prop} (hh:A.handled=none) (hl:s.heap.IsList l xs)
  (hn:(assignEach elts env).length=xs.size) (hs:(assignEach elts env).findIdx? (·.1)=none)
  (h:∀ h',ugf ‹128› s.heap h'->j7 (v4 prog w) A (assignInOrder ((assignEach elts env).map (·.2)) xs.toList) Q E { s with heap:=h' }) :
  j7 (v4 prog w) A (assign (.Tuple elts x1 pos) env (.ref l)) Q E s:=by
 rw[assign_Tuple];exact a7 (ug4 (wR hh hl hn hs h))
end
end U3
namespace L3
open PySem PySem.Spec PyProof.Rows L2
abbrev Fls:i5->i6->Prop:=λ _ _=>False
abbrev testsOf (ifs:List uc7)(env:Env):Sem Bool :=
 forIn ifs true λ c r=>if r=true then do let ok ← isTrue c env (eval c env);pure (ForInStep.yield ok) else pure (ForInStep.yield r)
section
variable {prog:o9}{w:uaw}{A:uax}{R:Result->i6->Prop}{s:i6}
theorem xI {elt tg iter:uc7}{ifs:List uc7}{scope:Scope}{pos:Pos}{it acc:i5}{env:Env}(W:Nat->i6->Prop)
  (step:∀ n s,W n s->j7 (v4 prog w) A (pyNext it) (λ r s1=>(r=none/\R (.ok .next) s1)\/∃ v,r=some v /\
   j7 (v4 prog w) A (letOwnedTupleGo tg it v) (λ _ s2=>j7 (v4 prog w) A (assign tg env v) (λ _ s3 =>
    j7 (v4 prog w) A (testsOf ifs env) (λ ok s4=>if ok=true then j7 (v4 prog w) A (eval elt env) (λ x s5 =>
     j7 (v4 prog w) A (call (.builtin "list.append") [acc,x]) (λ _ s6=>∃ m,m<n/\W m s6) Fls s5) Fls s4 else ∃ m,m<n/\W m s4) Fls s3) Fls s2) Fls s1) Fls s)
  (n:Nat) (h:W n s):codeAny (v4 prog w) A (.compLoop ‹43› 0 it acc env) R s:=by
 exact codeAny_loop rfl W (λ k s1 O=>?_) n h;show j7 _ A ((compTurn ‹43› 0 it acc env).onRaise (λ x=>do noteFrame x env;theTreesLotGoes x)) _ _ s1;exact wpAny_noted ?_;rw[compTurn_list];exact a7 (ug4 (a7 (ucr (step k s1 O) (λ r s2 h2=>?_) λ _ _ z=>z.elim)));rcases h2 with ⟨rfl,h2⟩ | ⟨v,rfl,h2⟩
 ·exact c7 h2
 ·exact a7 (ucr h2 (λ _ s3 h3=>?_) λ _ _ z=>z.elim);exact a7 (ucr h3 (λ _ s4 U=>?_) λ _ _ z=>z.elim);exact a7 (ucr U (λ ok s5 q=>?_) λ _ _ z=>z.elim);cases ok with
  | false=>exact c7 ⟨rfl,q⟩
  | true =>
   exact a7 (a7 (ucr q (λ x s6 F=>?_) λ _ _ z=>z.elim));exact a7 (ucr F (λ _ s7 h7=>?_) λ _ _ z=>z.elim);exact c7 (c7 ⟨rfl,h7⟩)
end
def clOf (cells:List (Str × o7)):List (Str × NameKind)->List (Str × o7)->List (Str × o7)
 | [],cs=>cs
 | (n,k)::r,cs=>clOf cells r (if k=.free then (n,(cells.lookup n).getD 0)::cs else cs)
theorem pB {cells:List (Str × o7)}:∀ {names:List (Str × NameKind)}{cs:List (Str × o7)}{p:Str × o7},p∈clOf cells names cs->p∈cs\/((p.1,NameKind.free)∈names/\p.2=(cells.lookup p.1).getD 0)
 | [],_,_,h=>.inl h
 | (n,k)::r,cs,p,h=>by
  rcases pB (names:=r) h with q | ⟨F,O⟩
  ·by_cases z:k=.free
   ·rw[uh2 z] at q;rcases j4.mp q with e | q
    ·subst e;subst z;exact .inr ⟨l9,rfl⟩
    ·exact .inl q
   ·rw[uh3 z] at q;exact .inl q
  ·exact .inr ⟨j8 _ F,O⟩
theorem pC {cells:List (Str × o7)}:∀ {names:List (Str × NameKind)}{cs:List (Str × o7)}{x:Str},((x,NameKind.free)∈names\/∃ c,(x,c)∈cs)->∃ c,(x,c)∈clOf cells names cs
 | [],_,_,h=>h.elim ‹94› id
 | (n,k)::r,cs,x,h=>by
  exact pC (names:=r) ?_;rcases h with h | ⟨c,h⟩
  ·rcases j4.mp h with e | h
   ·cases e;exact .inr ⟨_,by rw[uh2 rfl];exact l9⟩
   ·exact .inl h
  ·exact .inr ⟨c,?_⟩;split
   ·exact j8 _ h
   ·exact h
theorem iW {env:Env}:∀ (names:List (Str × NameKind))(cs:List (Str × o7)),(∀ y∈names,y.2=.free->∃ c,env.cells.lookup y.1=some c) ->
  (forIn names cs λ x r=>(match x with | (n,k)=>if (k==NameKind.free)=true then do let c ← cellOf env n;pure (ForInStep.yield ((n,c)::r)) else pure (ForInStep.yield r):Sem (ForInStep (List (Str × o7)))))=pure (clOf env.cells names cs)
 | [],cs,_=>rfl
 | (n,k)::r,cs,h=>by
  rw[ubr];by_cases q:k=.free
  ·subst q;obtain⟨c,F⟩:=h (n,.free) l9 rfl;let U:cellOf env n=pure c:=by unfold cellOf;rw[F]
   let e2:clOf env.cells ((n,NameKind.free)::r) cs=clOf env.cells r ((n,c)::cs):=by
    show clOf env.cells r (if NameKind.free=NameKind.free then (n,(env.cells.lookup n).getD 0)::cs else cs)=_;rw[uh2 rfl,F];rfl
   rw[e2,← iW r ((n,c)::cs) λ y z=>h y (j8 _ z)];simp only [beq_self_eq_true,if_true,U,pure_bind]
  ·let e2:clOf env.cells ((n,k)::r) cs=clOf env.cells r cs:=by
    show clOf env.cells r (if k=NameKind.free then _ else cs)=_;rw[uh3 q]
   let O:(k==NameKind.free)=false:=by simpa using q
   rw[e2,← iW r cs λ y z=>h y (j8 _ z)];simp only [O,ubm,if_false,pure_bind]
theorem xL {scope:Scope}{env:Env}(h:∀ y∈scope.names,y.2=.free->∃ c,env.cells.lookup y.1=some c):closureFor scope env=pure (clOf env.cells scope.names []):=by
 let q:=iW (env:=env) scope.names [] h;unfold closureFor;exact Eq.trans ?_ q
 first | rfl | simp
theorem lC {env:Env}:∀ {names:List (Str × NameKind)}{x:Str},names.lookup x=some .free ->
  ‹35›.lookup x=some .cell \/
  ‹35›.lookup x=some .free
 | [],_,h=>by simp at h
 | (n,k)::r,x,h=>by
  let F:=@lC env r x;rw[ubc];by_cases z:(x==n)=true
  ·rw[ub8,z] at h;let h':k=.free:=by simpa using h
   subst h';dsimp only;split
   ·apply t6;rw[ub8,z]
   ·apply ugv;rw[ub8,z]
  ·let q:(x==n)=false:=by simpa using z
   rw[ub8,q] at h;dsimp only;split
   ·rw[ub8,q];exact F h
   ·rw[ub8,q];exact F h
theorem mD {env:Env}:∀ {names:List (Str × NameKind)}{x:Str},(∀ y∈names,y.2≠.cell) ->
  (‹35›.lookup x=some .cell \/
  ‹35›.lookup x=some .free)->(x,NameKind.free)∈names
 | [],_,_,h=>by simp at h
 | (n,k)::r,x,hc,h=>by
  rw[ubc] at h;by_cases F:(x==n)=true
  ·let e:x=n:=by simpa using F
   subst e;dsimp only at h;by_cases z:(k==NameKind.free&&env.scope.kind==.function&&env.kindOf x==some .cell)=true
   ·rw[uh2 z] at h;let:k=.free:=by
     simp only [m7] at z;simpa using z.1.1
    subst this;exact l9
   ·rw[uh3 z,ub8,F] at h;rcases h with h | h
    ·exact absurd (by simpa using h) (hc (x,k) l9)
    ·let:k=.free:=by simpa using h
     subst this;exact l9
  ·let q:(x==n)=false:=by simpa using F
   exact j8 _ (mD (env:=env) (λ y O=>hc y (j8 _ O)) ?_);dsimp only at h;split at h
   ·rw[ub8,q] at h;exact h
   ·rw[ub8,q] at h;exact h
def compOk (N:List Str)(sc0 scope:Scope)(fr:List Str)(js:List Nat):Bool :=
 decide (scope.kind=.function)&&(scope.names.all λ y=>decide (y.2≠.cell)&&(decide (y.2≠.free)||decide (sc0.names.lookup y.1=some .cell)||decide (sc0.names.lookup y.1=some .free)) &&
  (decide (y.2≠.local)||decide (scope.names.lookup y.1=some .local)))&&decide (fr.length=js.length) &&
 ((fr.zip js).all λ p=>decide (N[p.2]?=some p.1)&&decide (scope.names.lookup p.1=some .free)&&(decide (sc0.names.lookup p.1=some .cell)||decide (sc0.names.lookup p.1=some .free)))
def cxComp (X:Cx)(own fr:List Str)(scope:Scope)(fp:List o7)(pins:List (o7 × Obj))(s3:i6)(H3:Hp):Cx :=
 { X with N:=own++fr,s₀:=s3,H₀:=H3,env:=compEnvC scope ‹106› s3.heap.objs.size X.env,outer:=X.stack,stack:=X.stack,ex:=fp,fn:=λ _=>false,pn:=X.pn++pins,xe:=Fls }
def PTs (X:Cx)(ifs:List uc7)(t:TT):Prop :=
 ∀ (pins:List (o7 × Obj))(s:i6)(σ:L2.St)(H:Hp)(Q:Bool->Hp->Prop),Inv X pins σ H s->t σ H Q->j7 ‹38› X.A (testsOf ifs X.env) (TP X pins σ Q) X.xe s
def tTrue:TT:=λ _ H Q=>Q true H
theorem bV {X:Cx}:PTs X [] tTrue:=λ _ _ _ H _ I h=>wpAny_tests_nil ⟨H,I,h⟩
theorem fN {X:Cx}{c:uc7}{t:TT}(h:PT X c t):PTs X [c] t:=λ pins s σ H Q I q=>wpAny_tests_one (h pins s σ H Q I q)
def start3 (own:List Str)(js:List Nat)(σ:L2.St):L2.St:=v6 own.length none++js.map λ j=>(σ[j]?).join
def CompGo (own:List Str)(js:List Nat)(g:TG)(tt:TT)(te:TE)(σ:L2.St)(Q:VK)(J:It)(H1:Hp):Prop:=∀ D,H1 D=none->∃ W:Nat->Nat->List V->L2.St->Hp->Prop,
 (∃ m,W 0 m [] ‹93› (upd H1 D (.lst [])))/\∀ i m ys σ' H',W i m ys σ' H'->H' D=some (.lst ys) ->
  (J.stop i H'/\Q (.ref D) H')\/(J.go i H'/\∀ x H2,J.yld i H' x H2->g x σ' H2 λ q H3=>tt q H3 λ b z =>
   if b=true then te q z λ v F=>F D=some (.lst ys)/\ys.length<p8/\∃ m',m'<m/\W (i+1) m' (ys++[v]) q (upd F D (.lst (ys++[v])))
   else z D=some (.lst ys)/\∃ m',m'<m/\W (i+1) m' ys q z)
def tComp (own:List Str)(js:List Nat)(wi:TI)(g:TG)(tt:TT)(te:TE):TE:=λ σ H Q=>wi σ H λ J H1=>CompGo own js g tt te σ Q J H1
section
variable {X:Cx}{elt tg iter:uc7}{ifs:List uc7}{scope sc0:Scope}{pos:Pos}{own fr N:List Str}{js:List Nat}{wi:TI}{g:TG}{tt:TT}{te:TE}
theorem zH {σ:L2.St}{js:List Nat}{k:Nat}{v:V}(e:(js.map λ j=>(σ[j]?).join)[k]?=some (some v)):∃ j,js[k]?=some j/\σ[j]?=some (some v):=by
 rw[j0] at e;cases z:js[k]? with
 | none=>rw[z] at e;cases e
 | some j =>
  rw[z] at e;exact⟨j,rfl,?_⟩;let q:(σ[j]?).join=some v:=by simpa using e
  cases hs:σ[j]? with
  | none=>rw[hs] at q;cases q
  | some o=>rw[hs] at q;exact congrArg some q
theorem za7 {pins:List (o7 × Obj)}{σ:L2.St}{H3:Hp}{s3:i6}{fp:List o7}{h4:Heap}{t4:Nat}{m4:Str->Option i5}
  (hN:X.N=N) (hsc:X.env.scope=sc0) (hok:compOk N sc0 scope fr js=true) (I:Inv X pins σ H3 s3) (hf:∀ b∈fp,FpOk X pins H3 b) (hlt:∀ b∈fp,b<s3.heap.objs.size)
  (k:∀ b o,s3.heap.get? b=some o->h4.get? b=some o) (hns:h4.Ns s3.heap.objs.size m4):Inv ‹33› [] ‹93› H3 { s3 with heap:=h4,toks:=t4 }:=by
 subst hN hsc;unfold compOk at hok;simp only [m7,decide_eq_true_eq,v8] at hok;obtain⟨⟨⟨hk,ac⟩,ai⟩,am⟩:=hok;let ae:∀ y∈scope.names,y.2=.free->∃ c,X.env.cells.lookup y.1=some c:=λ y hy e=>by
  let q:=(ac y hy).1.2;simp only [uc6,decide_eq_true_eq] at q;rcases q with (q | q) | q
  ·exact absurd e q
  ·exact I.ok.has y.1 (.inl q)
  ·exact I.ok.has y.1 (.inr q)
 let F:∀ x c,‹106›.lookup x=some c->X.env.cells.lookup x=some c:=λ x c e=>by
  rcases pB (ucs e) with z | ⟨z1,z2⟩
  ·exact absurd z (by simp)
  ·obtain⟨c',aa⟩:=ae _ z1 rfl;let al:X.env.cells.lookup x=some c':=aa;let ad:c=(X.env.cells.lookup x).getD 0:=z2;rw[al] at ad ⊢;simp at ad;rw[ad]
 let ab:∀ x,(x,NameKind.free)∈scope.names->∃ c,‹106›.lookup x=some c:=λ x hx=>by
  obtain⟨c,hc⟩:=pC (cells:=X.env.cells) (cs:=[]) (.inl hx);cases q:‹106›.lookup x with
  | some c'=>exact⟨c',rfl⟩
  | none =>
   let:∀ (l:List (Str × o7)),(x,c)∈l->l.lookup x≠none:=λ l=>by
    induction l with
    | nil=>intro z;cases z
    | cons p r ih =>
     intro z;obtain⟨p1,p2⟩:=p;rw[ub8];rcases j4.mp z with z | z
     ·cases z;simp
     ·split
      ·simp
      ·exact ih z
   exact absurd q (this _ hc)
 let af:∀ y∈scope.names,y.2≠.cell:=λ y hy=>(ac y hy).1.1;let sz:X.base.objs.size<=s3.heap.objs.size:=uaj I.ok.bsz I.sz;exact⟨⟨I.ok.mod,hk,I.ok.glob,I.ok.blt,i8 _,λ x y c e1 e2=>I.ok.inj x y c (F x c e1) (F y c e2),λ x hx=>ab x (mD af hx),λ x c z=>absurd z (by simp [cxComp]),
  I.ok.hd,I.ok.frames,.inl rfl,λ b hb=>⟨k8 (hlt b hb),λ x c e=>(hf b hb).2.2.2.2.1 x c (F x c e)⟩,I.bs,sz,λ b o e hb=>?_,λ b hb z=>?_,I.stack,I.stkFree⟩,
  rfl,I.bare,Un.kept k,⟨m4,hns,λ i x v e1 e2 e3=>?_⟩,λ x c e=>?_,I.hok.fresh (i8 _),λ x c e=>I.freeC x c (F x c e),λ p hp=>?_,I.hok.kept k,?_⟩
 ·obtain⟨_,_,_,f3,_⟩:=hf b hb;rcases f3 with f3 | f3
  ·exact I.ok.noex b o e f3
  ·exact absurd (u7 (j5 e) (uaj I.ok.bsz f3)) (ubz _)
 ·obtain⟨_,f1,f2,_⟩:=hf b hb;rcases j4.mp (I.stkSub b z) with z | z
  ·exact f1 z
  ·exact f2 z
 ·let U:(v6 own.length (none:Option V)++js.map λ j=>(σ[j]?).join)[i]?=some (some v):=e2;let ak:(own++fr)[i]?=some x:=e1;by_cases hi:i<own.length
  ·rw[uao (by simpa using hi),ued,uh2 hi] at U;cases U
  ·rw[uab (by simpa using hi),ubg] at U;rw[uab (by left)] at ak;obtain⟨j,hj,hv⟩:=zH U;let hz:(fr.zip js)[i-own.length]?=some (x,j):=by
    rw[List.getElem?_zip_eq_some];exact⟨ak,hj⟩
   let q:=am _ (ual hz);obtain⟨⟨q1,q2⟩,q3⟩:=q;let aj:X.env.scope.names.lookup x=some .cell\/X.env.scope.names.lookup x=some .free:=by simpa using q3
   let ah:X.env.kindOf x=some .cell\/X.env.kindOf x=some .free:=aj;obtain⟨m,hn,hl⟩:=I.loc;obtain⟨u,r,l⟩:=hl j x v q1 hv (ah.elim (λ z=>.inr (.inl z)) λ z=>.inr (.inr z));exact⟨u,r,.inr ⟨lC q2,?_⟩⟩;rcases l with ⟨z,_⟩ | ⟨_,c,hc,O⟩
   ·rcases ah with w | w <;> (rw[z] at w;cases w)
   ·obtain⟨c',aa⟩:=ab x (ucs q2);let e:=F x c' aa;rw[hc] at e;cases e;obtain⟨o,ho,hd⟩:=O;exact⟨c,aa,o,k c o ho,hd⟩
 ·obtain⟨v,o,ho,hd⟩:=I.cell x c (F x c e);exact⟨v,o,k c o ho,hd⟩
 ·let an:p∈X.pn++pins:=by
   let:p∈(X.pn++pins)++([]:List (o7 × Obj)):=hp;simpa using this
  obtain⟨a,b,c,d,f⟩:=I.pin p an;exact⟨k _ _ a,b,k8 (j5 a),λ z=>?_,f⟩;rcases j4.mp (I.stkSub p.1 z) with z | z
  ·exact c z
  ·exact d z
 ·show (v6 own.length (none:Option V)++js.map λ j=>(σ[j]?).join).length=(own++fr).length;simp [ai]
theorem nG {pins:List (o7 × Obj)}{s:i6}{σ:L2.St}{H:Hp}{Q:VK}{use:Option (i5->Sem Unit)}{Qo:i5->i6->Prop}{cpos:Pos}
  (hc:X.calm=true) (hi:PI X tg iter wi) (hg:∀ fp pins s3 H3,PG ‹33› tg g) (ht:∀ fp pins s3 H3,PTs ‹33› ifs tt)
  (he:∀ fp pins s3 H3,PE ‹33› elt te) (hok:compOk N sc0 scope fr js=true) (hN:X.N=N) (hsc:X.env.scope=sc0)
  (hs:∀ x,foldedSetIterable iter X.env x=pure x) (I:Inv X pins σ H s) (h:tComp own js wi g tt te σ H Q)
  (fin:∀ (C D:o7)(s6:i6)(H6:Hp)(m6:Str->Option i5),Inv X pins σ H6 s6->FpOk X pins H6 C->s6.heap.Ns C m6->Q (.ref D) H6->compPost ‹38› X.A X.xe use Qo (.ref D) C (.ok .next) s6) :
  j7 ‹38› X.A (comprehension ‹43› scope X.env cpos (newList []) false (eval iter X.env) use) Qo X.xe s:=by
 let aa:=hok;unfold compOk at aa;simp only [m7,decide_eq_true_eq,v8] at aa;obtain⟨⟨⟨hk,O⟩,aU⟩,aW⟩:=aa;let ak:∀ y∈scope.names,y.2≠.cell:=λ y hy=>(O y hy).1.1;let av:∀ y∈scope.names,y.2=.local->scope.names.lookup y.1=some .local:=λ y hy e=>by
  let q:=(O y hy).2;simp only [uc6,decide_eq_true_eq] at q;rcases q with q | q
  ·exact absurd e q
  ·exact q
 let af:∀ y∈scope.names,y.2=.free->∃ c,X.env.cells.lookup y.1=some c:=λ y hy e=>by
  have q:=(O y hy).1.2;simp only [uc6,decide_eq_true_eq] at q;rw[← hsc] at q;rcases q with (q | q) | q
  ·exact absurd e q
  ·exact I.ok.has y.1 (.inl q)
  ·exact I.ok.has y.1 (.inr q)
 exact wpAny_comprehension_free (use:=use) rfl hs (xL af) hk av (thn (hi pins s σ H _ I h) λ v s1 h1=>thn h1 λ a0 s2 h2=>?_);obtain⟨it,fp,tn,J,H2,e,I2,T,az,f2,rd⟩:=h2;subst e;let an:H2 s2.heap.objs.size=none:=I2.fresh;obtain⟨W,⟨m0,w0⟩,aB⟩:=rd s2.heap.objs.size an
 exact ug5 ?_ (uae _);let I3:Inv X pins σ (upd H2 s2.heap.objs.size (.lst [])) { s2 with heap:=s2.heap.push { cls:=.type "list",data:=.seq ([]:List i5).toArray } }:=I2.lnew (t':=s2.toks) .nil (uae _);generalize ae:({ s2 with heap:=s2.heap.push { cls:=.type "list",data:=.seq ([]:List i5).toArray } }:i6)=s3 at I3;generalize hD:s2.heap.objs.size=D at *;let ax:∀ b∈fp,b<D:=λ b z=>by
  obtain⟨o,ho,_⟩:=T.obj _ _ az b z;rw[← hD];exact j5 ho
 have au:∀ b o,s2.heap.get? b=some o->s3.heap.get? b=some o:=λ b o e=>by rw[← ae];exact a9 _ e
 have ay:s3.heap.objs.size=D+1:=by rw[← ae,← hD];exact uan ..
 let f3:∀ b∈fp,FpOk X pins (upd H2 D (.lst [])) b:=λ b z=>by
  obtain⟨f0,f⟩:=f2 b z;exact⟨by rw[aL (k8 (ax b z))];exact f0,f⟩
 exact wpAny_newFunctionEnv ak (by intro y hy;simp at hy) (λ h4 aq ap=>?_) hk;let aw:∀ b o,s3.heap.get? b=some o->h4.get? b=some o:=λ b o e=>ap.extBut b o (k8 (j5 e)) (a9 _ e);let I4:=za7 (own:=own) (t4:=s3.toks+([]:List (Str × i5)).length) hN hsc hok I3 f3 (λ b z=>u7 (ax b z) (by rw[ay];exact udc _)) aw aq;let al:tn 0 h4:=T.keep 0 s2.heap h4 az λ b z o e=>aw b o (au b o e);let ai:=I4.ok;let ah:∀ {H'':Hp},(∀ b∈fp,H'' b=none)->∀ b∈fp,FpOk ‹53› [] H'' b:=λ hn b z =>
  ⟨hn b z,(ai.exf b z).1,ai.exfs b z,.inl z,(ai.exf b z).2,λ p hp=>(f2 b z).2.2.2.2.2 p (by
   let:p∈(X.pn++pins)++([]:List (o7 × Obj)):=hp;simpa using this)⟩
 let ac : codeAny ‹38› X.A (.compLoop (.ListComp elt [⟨tg, iter, ifs, 0⟩] scope pos) 0 (.ref it) (.ref D) (compEnvC scope ‹106› s3.heap.objs.size X.env))
     (compPost ‹38› X.A X.xe use Qo (.ref D) s3.heap.objs.size) { s3 with heap:=h4,toks:=s3.toks+([]:List (Str × i5)).length }:=by
  exact xI (λ n s'=>∃ i ys U H',Inv ‹53› [] U H' s'/\tn i s'.heap/\(∀ b∈fp,H' b=none)/\H' D=some (.lst ys)/\W i n ys U H')
   ?step m0 ⟨0,[],_,_,I4,al,λ b z=>(f3 b z).1,aM,w0⟩
  rintro n s5 ⟨i,ys,ab,H5,I5,aD,ao,d5,w5⟩;rcases aB i n ys ab H5 w5 d5 with ⟨ar,q⟩ | ⟨go,aO⟩
  ·exact thn (T.done ‹53› rfl rfl rfl hc i [] s5 ab H5 Fls I5 (ah ao) aD ar) λ r s6 ⟨hr,I6⟩=>.inl ⟨hr,?_⟩;obtain⟨m6,aS,_⟩:=id I6.loc;let u1:Un (frs X.stack) fp H2 H5 s2.heap s6.heap:=(Un.laid au (ugb hD) an).trans I6.base;let fC:H5 s3.heap.objs.size=none:=I6.free;let IX:Inv X pins σ H5 s6:=I2.call' (s':=s6) (ch:=fp) (by
    have:=I6.os;rw[← ae] at this;exact this) u1 I6.hok I6.bare λ b z=>by
     obtain⟨_,g1,_,g3,g4,g5⟩:=f2 b z;exact⟨g3,g1,g4,g5⟩
   exact fin s3.heap.objs.size D s6 H5 m6 IX (I2.fpOk (by rw[ay,hD];exact udc _) fC) aS q
  ·exact thn (T.item ‹53› rfl rfl rfl hc i [] s5 ab H5 Fls I5 (ah ao) aD go) λ r s6 ⟨u,hr,h6⟩=>.inr ⟨u,hr,thn h6 λ _ s7 ⟨x,H7,I7,r7,y7,ad,aG⟩=>?_⟩;let aR:=I7.pinned (ah aG) (T.obj _ _ ad);exact thn (hg fp pins s3 (upd H2 D (.lst [])) _ s7 ab H7 x u _ aR r7 (aO x H7 y7)) λ _ s8 ⟨F,H8,I8,q8⟩=>?_;exact thn (ht fp pins s3 (upd H2 D (.lst [])) _ s8 F H8 _ I8 q8) λ ok s9 ⟨H9,I9,q9⟩=>?_;let back:∀ {U:L2.St}{H':Hp}{s':i6},Inv ‹53› ([]++pinsAt fp s7.heap) U H' s'->tn (i+1) s'.heap/\∀ b∈fp,H' b=none:=λ {U H' s'} J=>by
    exact⟨T.keep _ _ _ ad λ b z o e=>(J.pin (b,o) (z0 _ (z0 _ (gP z e)))).1,λ b z=>?_⟩;obtain⟨o,e,_⟩:=T.obj _ _ ad b z;exact (J.pin (b,o) (z0 _ (z0 _ (gP z e)))).2.1
   cases ok with
   | false =>
    rw[uh3 p6] at q9;obtain⟨d9,m',hm,w9⟩:=q9;rw[uh3 p6];exact⟨m',hm,i+1,ys,F,H9,I9.unpinned,(back I9).1,(back I9).2,d9,w9⟩
   | true =>
    rw[uh2 rfl] at q9 ⊢;exact thn (he fp pins s3 (upd H2 D (.lst [])) _ s9 F H9 _ I9 q9) λ xv aN ⟨v,am,aJ,aT,aF,len,m',hm,aQ⟩=>?_;exact thn (gR (X:=cxComp X own fr scope fp pins s3 (upd H2 D (.lst []))) _ aN F am (.ref D) [v] (.ref D) [xv] (λ _ H'=>H'=upd am D (.lst (ys++[v]))) aJ rfl (.cons aT .nil) ⟨D,ys,v,rfl,rfl,aF,len,rfl⟩) λ _ a1 ⟨_,a2,aj,_,aI⟩=>?_;subst aI;exact⟨m',hm,i+1,ys++[v],F,_,aj.unpinned,(back aj).1,(back aj).2,aM,aQ⟩
 exact codeAny_compStart_list ac (T.self X.A 0 _ _ _ al ac)
theorem bQ (hc:X.calm=true)(hi:PI X tg iter wi)(hg:∀ fp pins s3 H3,PG ‹33› tg g)(ht:∀ fp pins s3 H3,PTs ‹33› ifs tt)
  (he:∀ fp pins s3 H3,PE ‹33› elt te) (hok:compOk N sc0 scope fr js=true:=by symm) (hN:X.N=N:=by rfl) (hsc:X.env.scope=sc0:=by rfl)
  (hs:∀ x,foldedSetIterable iter X.env x=pure x:=by intro _;rfl):PE X ‹43› (tComp own js wi g tt te):=by
 intro pins s σ H Q I h;rw[eval_ListComp];exact nG hc hi hg ht he hok hN hsc hs I h λ C D s6 H6 m6 z f6 O q6=>⟨m6,O,λ h7 U=>⟨.ref D,H6,?_,rfl,q6⟩⟩;obtain⟨F,f1,_,f3,f4,q⟩:=f6;exact z.turned (it:=C) (t':=s6.toks) (λ b o hb e=>U.extBut b o hb e) F f1 f3 f4 q
theorem iQ {i:Nat}{y:Str}{py spos:Pos}(hc:X.calm=true)(hi:PI X tg iter wi)(hg:∀ fp pins s3 H3,PG ‹33› tg g)(ht:∀ fp pins s3 H3,PTs ‹33› ifs tt)
  (he:∀ fp pins s3 H3,PE ‹33› elt te) (hNd:X.N.Nodup) (hy:X.N[i]?=some y) (hx:Loc X.env.scope y) (hok:compOk N sc0 scope fr js=true:=by symm) (hN:X.N=N:=by rfl) (hsc:X.env.scope=sc0:=by rfl)
  (hsw:swapsWith ‹43› (some (.Name y py)) spos.line X.env=pure true:=by rfl) (hf:X.fn y=true\/X.env.scope.names.lookup y=some .local:=by first | exact .inl rfl | exact .inr rfl | assumption)
  (hs:∀ x,foldedSetIterable iter X.env x=pure x:=by intro _;rfl):PS X (.Assign [.Name y py] ‹43› spos) (tAsg (tComp own js wi g tt te) (gName i)):=by
 intro pins s σ H D I h;rw[exec_Assign_Name_used _ _ _ _ hsw];refine a7 (ug4 (a7 ?_));show j7 _ _ (do let _ ← comprehension ‹43› scope X.env _ (newList []) false (eval iter X.env) (some (assign (.Name y py) X.env))) _ _ s;refine a7 (ucr (nG (use:=some (assign (.Name y py) X.env)) (Qo:=λ _ s'=>SP X pins D .next s') hc hi hg ht he hok hN hsc hs I h λ C L s6 H6 m6 I6 f6 n6 q6=>?_) (λ _ s' q=>c7 (c7 q)) λ _ _ z=>z);obtain⟨f0,O,f2,f3,U,f5⟩:=f6;show j7 _ _ (assign (.Name y py) X.env (.ref L)) _ _ s6;refine wpAny_assign_Name (mO I6 hNd hy hx (v:=.ref L) rfl (λ s7 I7 ⟨a,sb,ha⟩=>?_) hf);have ne:C≠a:=by
  rcases ha with e | e
  ·rw[e];exact O
  ·exact λ z=>U y a e z.symm
 exact⟨m6,n6.sameBut sb ne,λ h8 F=>⟨σ.set i (some (.ref L)),H6,?_,q6⟩⟩;exact I7.turned (it:=C) (t':=s7.toks) (λ b o hb e=>F.extBut b o hb e) f0 O f3 U f5
end
section
variable {X:Cx}{pins:List (o7 × Obj)}{σ:L2.St}{H H':Hp}{s:i6}{h':Heap}{ch:List o7}{t':Nat}
theorem turnsTo (I:Inv X pins σ H s)(hf:∀ b∈ch,FpOk X pins H b)(k:∀ b o,b∉ch->s.heap.get? b=some o->h'.get? b=some o)(hH:∀ b u,H b=some u->H' b=some u)
  (hfree:∀ b o,s.heap.get? b=some o->H b=none->H' b=none) (hok:HOk X.prog X.w H' h'):Inv X pins σ H' { s with heap:=h',toks:=t' }:=by
 exact I.step (g':=s.gens) (d':=s.drawn) (ch:=ch) (λ b hb=>?_) (λ b o _ _ q e _=>k b o q e) (λ b o _ _ q e _=>⟨o.slots,k b o q e⟩) (λ b o _ e n=>hfree b o e n) (λ b o q e=>⟨o,k b o q e⟩)
  (λ b xs e=>hH _ _ e) (λ b o u e=>hH _ _ e) (λ b ps e=>⟨#[],by rw[hH _ _ e];simp⟩) (λ m O=>?_) hok I.bare
 ·obtain⟨_,f1,_,f3,U,F⟩:=hf b hb;exact⟨f3,f1,U,F⟩
 ·obtain⟨o,es,ep,ho,r⟩:=O;exact⟨o,es,ep,k _ o (λ z=>(hf _ z).2.1 rfl) ho,r⟩
theorem turns (I:Inv X pins σ H s)(hf:∀ b∈ch,FpOk X pins H b)(k:∀ b o,b∉ch->s.heap.get? b=some o->h'.get? b=some o):Inv X pins σ H { s with heap:=h',toks:=t' }:=by
 exact turnsTo I hf k (λ _ _ e=>e) (λ _ _ _ n=>n) λ b u e=>?_;exact (I.hok b u e).stay (λ c v F q=>k c v (λ z=>?_) q) (λ _ q=>q) λ _ _ q=>q;let n:=(hf c z).1;rcases F with rfl | F
 ·rw[n] at e;cases e
 ·rw[n] at F;cases F
theorem turnsTup {xs:List V}{its:List i5}{T:o7}(I:Inv X pins σ H s)(hf:∀ b∈ch,FpOk X pins H b)(k:∀ b o,b∉ch->s.heap.get? b=some o->h'.get? b=some o)(hT:‹128›<=T)
  (hz:xs.length<=p8) (hv:Vals xs its) (ht:TupN h' T its.toArray):Inv X pins σ (upd H T (.tup xs)) { s with heap:=h',toks:=t' }:=by
 let fr:H T=none:=I.hok.fresh hT;let O:∀ b u,H b=some u->b≠T:=λ b u e=>aW e fr;exact turnsTo I hf k (λ b u e=>by rw[aL (O b u e)];exact e) (λ b o e n=>by rw[aL (k8 (u7 (j5 e) hT))];exact n) λ b u e=>?_;by_cases U:b=T
 ·subst U;rw[aM] at e;cases e;exact⟨hz,its,hv,ht⟩
 ·rw[aL U] at e;exact (I.hok b u e).stay (λ c v F q=>k c v (λ z=>?_) q) (λ c q=>by rw[aL (O c _ q)];exact q) λ c ys q=>by rw[aL (O c _ q)];exact q
  let n:=(hf c z).1;rcases F with rfl | F
  ·rw[n] at e;cases e
  ·rw[n] at F;cases F
end
def SqX (t:Bool)(K:b8)(H:Hp)(a:o7)(xs:List V):Prop:=if t=true then SqT K H a xs else SqL K H a xs
section
variable {X:Cx}{pins:List (o7 × Obj)}{σ:L2.St}{H:Hp}{s:i6}{a:o7}{xs ys:List V}{t:Bool}
theorem seqX (I:Inv X pins σ H s)(h:SqX t X.K H a xs):∃ its:List i5,Vals xs its/\Z3.SqAt t s.heap a its.toArray/\xs.length<=p8:=by
 cases t with
 | true=>obtain⟨its,r,p,z⟩:=I.tuple (show SqT X.K H a xs from h);exact⟨its,r,p,z⟩
 | false=>obtain⟨its,r,p,z⟩:=I.list (show SqL X.K H a xs from h);exact⟨its,r,p.isList,z⟩
theorem fH (I:Inv X pins σ H s)(h:SqX t X.K H a xs)(h':SqX t X.K H a ys):xs=ys:=by
 cases t with
 | true=>exact I.tuple_inj h h'
 | false=>exact I.list_inj h h'
end
def Itz (t1 t2:Bool)(K:b8)(l1 l2:o7):It :=
 ⟨λ i H=>∃ xs ys x y,SqX t1 K H l1 xs/\SqX t2 K H l2 ys/\xs[i]?=some x/\ys[i]?=some y,
  λ i H v H'=>∃ T x y,H T=none/\v=.ref T/\H'=upd H T (.tup [x,y])/\(∀ xs,SqX t1 K H l1 xs->xs[i]?=some x)/\(∀ ys,SqX t2 K H l2 ys->ys[i]?=some y),
  λ i H=>∃ xs ys,SqX t1 K H l1 xs/\SqX t2 K H l2 ys/\(xs.length<=i\/ys.length<=i)⟩
theorem zak {P:o9}{w:uaw}{K:b8}{elts:List uc7}{kk:Nat}{pos:Pos}{t1 t2:Bool}{z TI TO i1 i2 l1 l2:o7}(D:Z3.Ap z TI TO i1 i2)(o1:Z3.Out z TI TO i1 i2 l1)(o2:Z3.Out z TI TO i1 i2 l2) :
  Turn P w K (.Tuple elts kk pos) (Itz t1 t2 K l1 l2) [z,TI,TO,i1,i2] z (λ i h=>Z3.Zd t1 t2 h z TI TO i1 i2 l1 l2 .none i) where
 mem:=by simp
 obj:=λ i h st b F=>by
  obtain⟨U,O,⟨_,_,q3⟩,q4,q5⟩:=st;obtain⟨o4,n4,e4,_,d4⟩:=q4.obj;obtain⟨o5,n5,e5,_,d5⟩:=q5.obj;simp only [j4,l7,or_false] at F;rcases F with rfl | rfl | rfl | rfl | rfl
  ·exact⟨_,U,λ v q=>by cases q⟩
  ·exact⟨_,O,λ v q=>by cases q⟩
  ·exact⟨_,q3,λ v q=>by cases q⟩
  ·exact⟨_,e4,λ v q=>by rw[d4] at q;cases q⟩
  ·exact⟨_,e5,λ v q=>by rw[d5] at q;cases q⟩
 keep:=λ i h h' st k=>by
  obtain⟨U,O,⟨a,b,q3⟩,q4,q5⟩:=st;exact⟨k z (by simp) _ U,k TI (by simp) _ O,⟨a,b,k TO (by simp) _ q3⟩,q4.to λ o e=>k i1 (by simp) o e,q5.to λ o e=>k i2 (by simp) o e⟩
 item:=by
  intro X hP hw hK hc i pins s σ H E I hf st hg;subst hP hw hK;obtain⟨xs,ys,x,y,U,O,hx,hy⟩:=hg;obtain⟨ac,r1,p1,z1⟩:=seqX I U;obtain⟨ad,r2,p2,z2⟩:=seqX I O;obtain⟨u1,ai,ae⟩:=r1.get hx;obtain⟨u2,ak,aj⟩:=r2.get hy;let aa:∀ b∈[z,TO,i1,i2],FpOk X pins H b:=λ b F=>hf b (by
   simp only [j4,l7,or_false] at F ⊢;rcases F with rfl | rfl | rfl | rfl <;> simp)
  exact Z3.zA D o1 o2 st p1 p2 (x:=u1) (y:=u2) (by simpa using ai) (by simpa using ak) λ h' zd tp sz kp=>?_;let I1 : Inv X pins σ (upd H ‹128› (.tup [x, y])) { s with heap := h', toks := s.toks } := turnsTup (ch := [z, TO, i1, i2]) (its := [u1, u2]) I aa (λ b o F e => by
      simp only [j4,l7,or_false,not_or] at F;exact kp b o F.1 F.2.1 F.2.2.1 F.2.2.2 e) (i8 _) (by show 2<=p8;rw[ubn];decide) (.cons ae (.cons aj .nil)) ⟨_,tp,rfl,⟨_,rfl⟩,rfl⟩
  let fr:H ‹128›=none:=I.fresh;let ab:∀ b∈[z,TI,TO,i1,i2],b≠‹128›:=λ b F e=>by
   let af:∃ o,s.heap.get? b=some o:=by
    obtain⟨U,O,⟨_,_,q3⟩,q4,q5⟩:=st;obtain⟨o4,n4,e4,_,d4⟩:=q4.obj;obtain⟨o5,n5,e5,_,d5⟩:=q5.obj;simp only [j4,l7,or_false] at F;rcases F with rfl | rfl | rfl | rfl | rfl
    ·exact⟨_,U⟩
    ·exact⟨_,O⟩
    ·exact⟨_,q3⟩
    ·exact⟨_,e4⟩
    ·exact⟨_,e5⟩
   obtain⟨o,ho⟩:=af;exact absurd (j5 ho) (by rw[e];exact ubz _)
  exact⟨A,wpAny_letOwnedTupleGo_zip zd.z λ h2 ah sb=>?_⟩;obtain⟨f0,f1,f2,f3,f4,f5⟩:=hf z (by simp);let I2:Inv X pins σ (upd H ‹128› (.tup [x,y])) { s with heap:=h2,toks:=s.toks }:=Inv.turned (s:={ s with heap:=h',toks:=s.toks }) (it:=z) (t':=s.toks) I1 (λ b o F e=>sb.extBut b o F e) (by rw[aL (ab z (by simp))];exact f0) f1 f3 f4 f5;exact⟨.ref ‹128›,_,I2,rfl,⟨_,x,y,fr,M,λ zs hz=>by rw[fH I hz U];exact hx,λ zs hz=>by rw[fH I hz O];exact hy⟩,?_,λ b F=>by rw[aL (ab b F)];exact (hf b F).1⟩;obtain⟨_,w2,⟨a3,b3,w3⟩,w4,w5⟩:=zd;exact⟨ah,sb.extBut _ _ D.n1 w2,⟨a3,b3,sb.extBut _ _ D.n2 w3⟩,w4.to λ o e=>sb.extBut _ _ D.n3 e,w5.to λ o e=>sb.extBut _ _ D.n4 e⟩
 done:=by
  intro X hP hw hK hc i pins s σ H E I hf st hg;subst hP hw hK;obtain⟨xs,ys,U,O,hx⟩:=hg;obtain⟨ac,r1,p1,z1⟩:=seqX I U;obtain⟨ad,r2,p2,z2⟩:=seqX I O;let l1:=r1.length;let l2:=r2.length;let aa:∀ b∈[z,TO,i1,i2],FpOk X pins H b:=λ b F=>hf b (by
   simp only [j4,l7,or_false] at F ⊢;rcases F with rfl | rfl | rfl | rfl <;> simp)
  exact Z3.yZ (I.ok.hd hc) D o1 o2 st p1 p2 (hx.elim (λ q=>.inl (by simp;left)) λ q=>.inr (by simp;left)) λ h' kp=>⟨rfl,?_⟩;exact turns (ch:=[z,TO,i1,i2]) (t':=s.toks) I aa λ b o F e=>by
   simp only [j4,l7,or_false,not_or] at F;exact kp b o F.1 F.2.1 F.2.2.1 F.2.2.2 e
 self:=λ _ _ _ _ _ st h=>ud8 st.z h
def iZip (t1 t2:Bool)(K:b8)(ta:TA):TI:=λ σ H R=>ta σ H λ vs H1=>∃ l1 l2,vs=[.ref l1,.ref l2]/\(∃ xs,SqX t1 K H1 l1 xs)/\(∃ ys,SqX t2 K H1 l2 ys)/\R (Itz t1 t2 K l1 l2) H1
theorem qO {X:Cx}{elts:List uc7}{kk:Nat}{pos':Pos}(t1 t2:Bool){a b:uc7}{ta:TA}{p pos:Pos}(hg:Gl X "zip")(hm:X.mg "zip"=none)(ha:PA X [a,b] ta)
  (hs:ubi [a,b] X.env=[(false,eval a X.env),(false,eval b X.env)]:=by rfl) (hs2:ubi [b] X.env=[(false,eval b X.env)]:=by rfl) :
  PI X (.Tuple elts kk pos') (.Call (.Name "zip" p) [a,b] [] pos) (iZip t1 t2 X.K ta):=by
 intro pins s σ H R I h;exact Call_ (cW I hg hm boot_zip (ubb (thn ‹77› λ us F ⟨vs,H1,O,r1,q1⟩=>?_) (by rw[hs,hs2]) (by rw[hs2];rfl)));obtain⟨l1,l2,e,⟨xs,qx⟩,⟨ys,qy⟩,q⟩:=q1;subst e;cases r1 with
 | cons r rr =>
  cases rr with
  | cons r' rr =>
   cases rr;cases r;cases r';obtain⟨aa,r1,p1,z1⟩:=seqX O qx;obtain⟨ab,r2,p2,z2⟩:=seqX O qy;let lt:∀ {t:Bool}{l:o7}{xs:Array i5},Z3.SqAt t F.heap l xs->l<F.heap.objs.size:=λ {t l xs} q=>by
    cases t with
    | true=>obtain⟨o,e,_⟩:=(show F.heap.IsTuple l xs from q);exact j5 e
    | false=>obtain⟨o,e,_⟩:=(show F.heap.IsList l xs from q);exact j5 e
   exact Z3.jT p1 p2 λ h' zd sz kp=>ud8 zd.z ?_;let I2:Inv X pins σ H1 { F with heap:=h',toks:=F.toks }:=O.kept (t':=F.toks) kp;exact⟨F.heap.objs.size+4,[F.heap.objs.size+4,F.heap.objs.size+2,F.heap.objs.size+3,F.heap.objs.size,F.heap.objs.size+1],P,H1,rfl,I2,zak (Z3.kN _) (Z3.eN (lt p1)) (Z3.eN (lt p2)),zd,λ b hb=>?_,q⟩;let U:F.heap.objs.size<=b:=by
    simp only [j4,l7,or_false] at hb;rcases hb with rfl | rfl | rfl | rfl | rfl
    ·exact ua5 _ _
    ·exact ua5 _ _
    ·exact ua5 _ _
    ·exact i8 _
    ·exact ua5 _ _
   exact O.fpOk U (O.hok.fresh U)
section
variable {X:Cx}{pos:Pos}
inductive gLst_i (K:b8)(n:Nat)(t:TGs)(v:V)(σ:L2.St)(H:Hp)(Q:L2.St->Hp->Prop):Prop
 | mk:∀ a xs,(v=.ref a)->(SqL K H a xs)->(xs.length=n)->(t xs σ H Q)->gLst_i K n t v σ H Q
def gLst (K:b8)(n:Nat)(t:TGs):TG:=λ v σ H Q=>gLst_i K n t v σ H Q
theorem zdu {es:List uc7}{k:Nat}{t:TGs}{n:Nat}(hc:X.calm=true)(h:PGs X es t)(hn:(assignEach es X.env).length=n:=by rfl)(hst:(assignEach es X.env).findIdx? (·.1)=none:=by rfl):PG X (.Tuple es k pos) (gLst X.K n t):=by
 intro pins s σ H v u Q I r q;obtain⟨a,xs,O,hq,hl,q⟩:=q;subst O;cases r;obtain⟨its,z,ht,hz⟩:=I.list hq;refine U3.assign_tuple_lst (I.ok.hd hc) ht.isList (by simp [hn,← hl,z.length]) hst λ h' F=>?_;have U:Inv X pins σ H { s with heap:=h' }:=I.kept (t':=s.toks) λ b o e=>F b o (k8 (j5 e)) e;exact h pins _ σ H xs _ Q U (by simpa using z) q
theorem zam {prog:o9}{w:uaw}{A:uax}{bs:List Bool}{its:List i5}(r:Vals (bs.map V.bl) its):TruthOf prog w A (λ i v=>its.toArray[i]?=some v) (λ i=>bs.getD i true):=by
 intro i v s Q E U hq;let z:its[i]?=some v:=by simpa using U
 let hl:=r.length;let hi:i<its.length:=(j9.mp z).1;let O:i<bs.length:=by rw[c9] at hl;left
 obtain⟨u,F,ru⟩:=r.get (i:=i) (x:=V.bl bs[i]) (by rw[j0,d7 O];rfl);rw[z] at F;cases F;let e:v=Value.bool bs[i]:=ru;subst e;let e2:bs.getD i true=bs[i]:=by simp [ub2,O]
 let q:Q (bs.getD i true) s:=hq;rw[e2] at q;exact ucy q
theorem zaf (bs:List Bool):((d8 bs.length).all λ i=>bs.getD i true)=bs.all id:=by
 rw[udm,v8,v8];constructor
 ·intro h b z;obtain⟨i,hi,e⟩:=ugh z;have:=h i (m8.mpr hi);rw[← e];simpa [ub2,hi] using this
 ·intro h i hi;let q:=m8.mp hi;let:=h bs[i] (udd q);simpa [ub2,q] using this
inductive call_all_i (K:b8)(xs:List V)(H:Hp)(Q:VK):Prop
 | mk:∀ (p:o7)(bs:List Bool),(xs=[.ref p])->(SqL K H p (bs.map V.bl))->(Q (.bl (bs.all id)) H)->call_all_i K xs H Q
theorem dF (hh:X.calm=true):CallR X (.builtin "all") (call_all_i X.K):=by
 intro pins s σ H xs us Q I r h;obtain⟨p,bs,rfl,hq,q⟩:=h;obtain⟨u,rfl,rx⟩:=vals1 r;cases rx;obtain⟨its,O,F,hz⟩:=I.list hq;let hl:=O.length;let lt:p≠‹128›:=by obtain⟨o,e,_⟩:=F.isList;exact k8 (j5 e)
 exact call_all_walk (udy F.isList ?_);let W:=Walks.list (prog:=X.prog) (w:=X.w) (A:=X.A.in1) (show X.A.in1.handled=none from I.ok.hd hh) ‹128› p lt its.toArray;exact⟨‹128›,P,P,_,A,W,⟨⟨_,i9 _ rfl,M⟩,F.isList.push _⟩,zam O,λ h' tk hk=>?_⟩;exact⟨.bl (bs.all id),H,I.kept (t':=tk) λ b o e=>hk b o (λ z=>?_) (a9 _ e),?_,q⟩
 ·let:b=‹128›:=by simpa using z
  exact absurd (j5 e) (by rw[this];exact ubz _)
 ·show Value.bool _=Value.bool _;have U:its.toArray.size=bs.length:=by rw[k9,← hl,c9]
  rw[U,zaf]
inductive call_isi_i (K:b8)(n:String)(xs:List V)(H:Hp)(Q:VK):Prop
 | mk:∀ x t b,(xs=[x,.ty n])->(TyOf K H x t)->(PySem.W.kitOne K t (.type n)=some b)->(Q (.bl b) H)->call_isi_i K n xs H Q
theorem dU {n:String}:CallR X (.builtin "isinstance") (call_isi_i X.K n):=by
 intro pins s σ H xs us Q I r h;obtain⟨x,t,b,rfl,ty,e,q⟩:=h;obtain⟨u,c,rfl,F,z⟩:=r.two;cases z;exact zJ I F ty e λ tk=>⟨.bl b,H,I.tok tk,rfl,q⟩
variable {a b c d:uc7}{ta tb tc td:TE}
end
mutual
def Is (K:b8)(H:Hp):ubo->V->Prop
 | .none,v=>v=.non
 | .bool b,v=>v=.bl b
 | .int i,v=>v=.int i
 | .str x,v=>v=.str x
 | .tuple ds,v=>∃ p vs,v=.ref p/\H p=some (.tup vs)/\IsAll K H ds vs
 | .list ds,v=>∃ p vs,v=.ref p/\H p=some (.lst vs)/\IsAll K H ds vs
 | .dict kvs,v=>kvs=[]/\∃ p,v=.ref p/\H p=some (.dK [])
def IsAll (K:b8)(H:Hp):List ubo->List V->Prop
 | [],vs=>vs=[]
 | d::ds,vs=>∃ v r,vs=v::r/\Is K H d v/\IsAll K H ds r
end
section
variable {K:b8}{H H':Hp}
mutual
theorem Is.same (e:Same H H'):∀ (d:ubo){v:V},Is K H d v->Is K H' d v
 | .none,_,h=>h
 | .bool _,_,h=>h
 | .int _,_,h=>h
 | .str _,_,h=>h
 | .tuple ds,_,h=>let ⟨p,vs,q,z,F⟩:=h;⟨p,vs,q,e _ _ z,IsAll.same e ds F⟩
 | .list ds,_,h=>let ⟨p,vs,q,z,F⟩:=h;⟨p,vs,q,e _ _ z,IsAll.same e ds F⟩
 | .dict kvs,_,h=>let ⟨O,p,q,z⟩:=h;⟨O,p,q,e _ _ z⟩
theorem IsAll.same (e:Same H H'):∀ (ds:List ubo){vs:List V},IsAll K H ds vs->IsAll K H' ds vs
 | [],_,h=>h
 | d::ds,_,h=>let ⟨v,r,q,F,z⟩:=h;⟨v,r,q,Is.same e d F,IsAll.same e ds z⟩
end
theorem IsAll.length:∀ {ds:List ubo}{vs:List V},IsAll K H ds vs->vs.length=ds.length
 | [],_,h=>by rw[show _=[] from h];rfl
 | d::ds,_,⟨v,r,q1,q2,q3⟩=>by rw[q1,uas,uas,IsAll.length q3]
theorem IsAll.get:∀ {ds:List ubo}{vs:List V}{i:Nat}{d:ubo},IsAll K H ds vs->ds[i]?=some d->∃ v,vs[i]?=some v/\Is K H d v
 | [],_,_,_,_,e=>by simp at e
 | d::ds,_,0,d',⟨v,r,q1,q2,q3⟩,e=>by
  let q:d=d':=by simpa using e
  subst q;subst q1;exact⟨v,rfl,q2⟩
 | d::ds,_,i+1,_,⟨v,r,q1,q2,q3⟩,e=>by
  subst q1;obtain⟨u,h1,h2⟩:=IsAll.get (i:=i) q3 (by simpa using e);exact⟨u,by simpa using h1,h2⟩
theorem IsAll.get':∀ {ds:List ubo}{vs:List V}{i:Nat}{v:V},IsAll K H ds vs->vs[i]?=some v->∃ d,ds[i]?=some d/\Is K H d v
 | [],_,i,v,h,e=>by rw[show _=[] from h] at e;simp at e
 | d::ds,_,0,v,⟨u,r,q1,q2,q3⟩,e=>by
  subst q1;let q:u=v:=by simpa using e
  subst q;exact⟨d,rfl,q2⟩
 | d::ds,_,i+1,v,⟨u,r,q1,q2,q3⟩,e=>by
  subst q1;obtain⟨z,h1,h2⟩:=IsAll.get' (i:=i) q3 (by simpa using e);exact⟨z,by simpa using h1,h2⟩
theorem IsAll.of:∀ {ds:List ubo}{vs:List V},vs.length=ds.length->(∀ (i:Nat)(d:ubo)(v:V),ds[i]?=some d->vs[i]?=some v->Is K H d v)->IsAll K H ds vs
 | [],[],_,_=>rfl
 | [],_::_,h,_=>by simp at h
 | _::_,[],h,_=>by simp at h
 | d::ds,v::vs,h,q=>⟨v,vs,rfl,q 0 d v rfl rfl,IsAll.of (by simpa using h) λ i F z h1 h2=>q (i+1) F z (by simpa using h1) (by simpa using h2)⟩
theorem IsAll.append:∀ {ds es:List ubo}{vs us:List V},IsAll K H ds vs->IsAll K H es us->IsAll K H (ds++es) (vs++us)
 | [],_,_,_,h,q=>by rw[show _=[] from h];exact q
 | d::ds,_,_,_,⟨v,r,q1,q2,q3⟩,q=>⟨v,r++_,by rw[q1];rfl,q2,IsAll.append q3 q⟩
theorem IsAll.ints (ns:List Int):IsAll K H (ns.map .int) ‹67›:=by
 exact IsAll.of (by simp) λ i d v h1 h2=>?_;rw[j0] at h1 h2;cases e:ns[i]? with
 | none=>rw[e] at h1;cases h1
 | some n=>rw[e] at h1 h2;cases h1;cases h2;exact rfl
theorem IsAll.of_ints:∀ {ns:List Int}{vs:List V},IsAll K H (ns.map .int) vs->vs=ns.map V.int
 | [],_,h=>h
 | n::ns,_,⟨v,r,q1,q2,q3⟩=>by
  let e:v=.int n:=q2;rw[q1,e,IsAll.of_ints q3];rfl
end
section
variable {X:Cx}{pins:List (o7 × Obj)}{σ:L2.St}{H:Hp}{s:i6}
mutual
theorem fI (I:Inv X pins σ H s):∀ (d:ubo){v:V}{u:i5},Is X.K H d v->RelV v u->∃ as,Reads s.heap u d as
 | .none,_,_,h,r=>by
  let e:_=V.non:=h;subst e;cases r;exact⟨_,.none⟩
 | .bool b,_,_,h,r=>by
  let e:_=V.bl b:=h;subst e;cases r;exact⟨_,.bool b⟩
 | .int i,_,_,h,r=>by
  let e:_=V.int i:=h;subst e;obtain⟨t,rfl⟩:=r;exact⟨_,.int i t⟩
 | .str x,_,_,h,r=>by
  let e:_=V.str x:=h;subst e;obtain⟨t,rfl⟩:=r;exact⟨_,.str x t⟩
 | .tuple ds,_,_,h,r=>by
  obtain⟨p,vs,rfl,z,F⟩:=(show ∃ p vs,_=V.ref p/\H p=some (.tup vs)/\IsAll X.K H ds vs from h);cases r;obtain⟨its,O,⟨o,q,e2,n,e3⟩,_⟩:=I.tuple (SqT.of z);obtain⟨as,U⟩:=iP I ds F O;exact⟨_,.tuple q e2 e3 (by simpa using U)⟩
 | .list ds,_,_,h,r=>by
  obtain⟨p,vs,rfl,z,F⟩:=(show ∃ p vs,_=V.ref p/\H p=some (.lst vs)/\IsAll X.K H ds vs from h);cases r;obtain⟨its,O,⟨o,n,q,e2,_,e3⟩,_⟩:=I.list (SqL.of z);obtain⟨as,U⟩:=iP I ds F O;exact⟨_,.list q e2 e3 (by simpa using U)⟩
 | .dict kvs,_,_,h,r=>by
  obtain⟨e0,p,rfl,z⟩:=(show kvs=[]/\∃ p,_=V.ref p/\H p=some (.dK []) from h);subst e0;cases r;obtain⟨_,_,vs,kv,o,es,ep,g1,g2,g3,_,g4,_⟩:=(show ObjOk X.prog X.w H s.heap p (.dK []) from I.hok p _ z);cases kv;let q:es.toList=[]:=by cases h:es.toList with
   | nil=>rfl
   | cons x r=>rw[h] at g4;cases g4
  exact⟨_,.dict g1 g2.1 g3 (by rw[q];exact .nil) (by rw[q];exact .nil)⟩
theorem iP (I:Inv X pins σ H s):∀ (ds:List ubo){vs:List V}{us:List i5},IsAll X.K H ds vs->Vals vs us->∃ as,ReadsAll s.heap us ds as
 | [],_,_,h,r=>by
  let e:_=[]:=h;subst e;cases r;exact⟨_,.nil⟩
 | d::ds,_,_,h,r=>by
  obtain⟨v,U,rfl,q,z⟩:=(show ∃ v r,_=v::r/\Is X.K H d v/\IsAll X.K H ds r from h);cases r with
  | cons r1 r2 =>
   obtain⟨as,O⟩:=fI I d q r1;obtain⟨bs,F⟩:=iP I ds z r2;exact⟨_,.cons O F⟩
end
inductive op_eqD_i (K:b8)(uu:Nat)(x:V)(y:V)(H:Hp)(Q:VK):Prop
 | mk:∀ da db,(Is K H da x)->(Is K H db y)->(da.canLay0=true)->(db.canLay0=true)->(uu+min da.depth db.depth<cLine)->(Q (.bl (udz da db)) H)->op_eqD_i K uu x y H Q
theorem kI:OpR X (compareOp .Eq) (op_eqD_i X.K X.A.units):=by
 intro pins s σ H x y v u Q I rx O h;obtain⟨da,z,h1,h2,c1,F,U,q⟩:=h;obtain⟨as,ra⟩:=fI I da h1 rx;obtain⟨bs,rb⟩:=fI I z h2 O;exact SeqAt.compareEq_reads ra rb c1 F U (aX I q rfl)
inductive op_neD_i (K:b8)(uu:Nat)(x:V)(y:V)(H:Hp)(Q:VK):Prop
 | mk:∀ da db,(Is K H da x)->(Is K H db y)->(da.canLay0=true)->(db.canLay0=true)->(uu+min da.depth db.depth<cLine)->(Q (.bl (!PyData.eqv da db)) H)->op_neD_i K uu x y H Q
theorem fW:OpR X (compareOp .NotEq) (op_neD_i X.K X.A.units):=by
 intro pins s σ H x y v u Q I rx O h;obtain⟨da,z,h1,h2,c1,F,U,q⟩:=h;obtain⟨as,ra⟩:=fI I da h1 rx;obtain⟨bs,rb⟩:=fI I z h2 O;exact SeqAt.compareNe_reads ra rb c1 F U (aX I q rfl)
theorem zba {ys:List V}{its:List i5}(r:Vals ys its){i:Nat}(hi:i<ys.length):RelV (ys.getD i .non) (its.getD i .none):=by
 let hl:=r.length;obtain⟨u,q,F⟩:=r.get (i:=i) (x:=ys[i]) (d7 hi);let z:ys.getD i .non=ys[i]:=by simp [ub2,hi]
 let e2:its.getD i .none=u:=by simp [ub2,q]
 rw[z,e2];exact F
theorem fF {ys:List V}{its:List i5}(r:Vals ys its):∀ (l:List Nat),(∀ i∈l,i<ys.length)->Vals (l.map λ i=>ys.getD i .non) (l.map λ i=>its.getD i Value.none)
 | [],_=>.nil
 | i::l,h=>.cons (zba r (h i l9)) (fF r l λ j q=>h j (j8 _ q))
theorem dP {n:Nat}{p:Array Nat}(g:Srt.Gd n p):∀ i∈p.toList,i<n:=λ i hi=>by
 let:=g.mem_iff.mp (Array.mem_toList_iff.mp hi);simpa using this
theorem iD {α:Type}{n:Nat}{p:Array Nat}(g:Srt.Gd n p)(f:Nat->α):(p.toList.map f).Perm ((d8 n).map f):=by
 let h:=Array.perm_iff_toList_perm.mp g;exact (by simpa using h:p.toList.Perm (d8 n)).map f
theorem hW {n:Nat}{p:Array Nat}{r:Nat->Int}{R:Nat->Nat->Prop}(g:Srt.Gd n p)(u:Srt.Up r p n)(h:∀ i j,i<n->j<n->r i<=r j->R i j):p.toList.Pairwise R:=by
 rw[ucf];intro i j hi hj U;let sz:=g.sz;let z:i<p.size:=by simpa using hi
 let F:j<p.size:=by simpa using hj
 let q:=u i j (uga U) (by left);let e:∀ k (O:k<p.size),p.getD k 0=p[k]:=λ k O=>by simp [uez,O]
 unfold Srt.ky at q;rw[e i z,e j F] at q;let m:∀ k (O:k<p.size),p[k]<n:=λ k O=>dP g _ (by simp);let:=h p[i] p[j] (m i z) (m j F) q;simpa using this
theorem cT {α:Type}(l:List α)(d:α):(d8 l.length).map (λ i=>l.getD i d)=l:=by
 exact ufw (by simp) λ i h1 h2=>?_;simp [ub2,h2]
inductive call_sortedI_i (K:b8)(xs:List V)(H:Hp)(Q:VK):Prop
 | mk:∀ p ns,(xs=[.ref p])->(SqL K H p ‹67›)->(ns.length<64)->(∀ ms:List Int,ms.Perm ns->ms.Pairwise (·<=·)->∀ l,H l=none->Q (.ref l) (upd H l (.lst (ms.map V.int))))->call_sortedI_i K xs H Q
theorem vH:CallR X (.builtin "sorted") (call_sortedI_i X.K):=by
 intro pins s σ H xs us Q I r h;obtain⟨p,ns,rfl,hq,ab,q⟩:=h;obtain⟨u,rfl,rx⟩:=vals1 r;cases rx;obtain⟨its,rv,pl,hz⟩:=I.list hq;let hl:=rv.length;rw[c9] at hl;let hI:IntsAre its ns:=dD rv;let aa:(64:Nat)<=p8:=by rw[ubn];decide
 exact Srt.mP (r:=λ i=>ns.getD i 0) (κ:=oneType') pl.isList (by left) (λ h2 A' s' Q' _ U=>Srt.jQ hI h2 U) (λ A' s' i j C _ hi hj U=>Srt.kC hI hi hj U) λ F h' c g u kp e=>?_;let O:Srt.Gd ns.length F:=by rw[hl];exact g
 let u':Srt.Up ‹42› F ns.length:=by rw[hl];exact u
 let pm:‹62›.Perm ns:=by
  let:=iD O λ i=>ns.getD i 0;rw[cT] at this;exact this
 let pw:‹62›.Pairwise (·<=·):=by
  rw[ua1];exact hW O u' λ i j _ _ z=>z
 let fr:H ‹66›=none:=I.hok.fresh (udc _);let ev:(‹62›.map V.int)=F.toList.map λ i=>‹67›.getD i .non:=by
  rw[ua0];exact ua2 λ i hi=>?_;let:=dP O i hi;simp [ub2,this]
 exact⟨.ref ‹66›,_,I.laid (a:=‹128›+1) (o:=.lst (‹62›.map V.int)) (t':=s.toks) kp (udc _) ⟨?_,Srt.outOf its F,c,?_,e⟩,rfl,q _ pm pw _ fr⟩
 ·let:=pm.length_eq;rw[c9,this];left
 ·rw[ev];exact fF rv F.toList λ i hi=>by rw[c9];exact dP O i hi
inductive call_sortedT_i (K:b8)(xs:List V)(H:Hp)(Q:VK):Prop
 | mk:∀ p ys ks,(xs=[.ref p])->(SqL K H p ys)->(ys.length<64)->(Paired (λ (y:V) (k:List Int)=>∃ a,y=.ref a/\SqT K H a (k.map V.int)) ys ks)->((∀ k∈ks,k≠[]))->(∀ qs:List (V × List Int),qs.Perm (ys.zip ks)->qs.Pairwise (λ a b=>Srt.lexI b.2 a.2=false)->∀ l,H l=none->Q (.ref l) (upd H l (.lst (qs.map (·.1)))))->call_sortedT_i K xs H Q
theorem vG:CallR X (.builtin "sorted") (call_sortedT_i X.K):=by
 intro pins s σ H xs us Q I r h;obtain⟨p,ys,ks,rfl,hq,ae,hp,aa,q⟩:=h;obtain⟨u,rfl,rx⟩:=vals1 r;cases rx;obtain⟨its,F,pl,hz⟩:=I.list hq;let hl:=F.length;let ad:ys.length=ks.length:=Paired.length hp;let ac:(64:Nat)<=p8:=by rw[ubn];decide
 let hT:∀ {ys:List V}{ks:List (List Int)}{its:List i5},Paired (λ (y:V) (k:List Int)=>∃ a,y=.ref a/\SqT X.K H a (k.map V.int)) ys ks->Vals ys its->Paired (Srt.TupI s.heap) its ks:=by
  intro ys ks its hp;induction hp generalizing its with
  | nil=>intro F;cases F;exact .nil
  | cons r t ih =>
   intro F;cases F with
   | cons r1 r2 =>
    exact .cons ?_ (ih r2);obtain⟨a,rfl,qa⟩:=r;cases r1;obtain⟨U,ab,⟨o,e1,e2,n,e3⟩,_⟩:=I.tuple qa;exact⟨a,o,U.toArray,n,rfl,e1,e2,e3,by simpa using dD ab⟩
 let tp:=hT hp F;let mono:∀ {h':Heap},(∀ b o,s.heap.get? b=some o->h'.get? b=some o)->Paired (Srt.TupI h') its ks:=λ k=>Paired.mapP tp λ v k' z=>z.to k;exact Srt.mP (r:=Srt.rank its.length λ i j=>Srt.lexI (ks.getD i []) (ks.getD j [])) (κ:=tuples' true) pl.isList (by left) (λ h2 A' s' Q' k q'=>Srt.zal (mono k) aa h2 q')
  (λ A' s' i j C k hi hj q'=>Srt.zb3 (mono k) hi hj (by rw[Srt.pP (lt:=λ i j=>Srt.lexI (ks.getD i []) (ks.getD j [])) (λ i=>Srt.jO _) (λ _ _ _ _ _ _=>Srt.iS _ _ _) (λ _ _ _ _ _ _=>Srt.jN _ _ _) hi hj] at q';exact q')) λ O h' c g u kp e=>?_
 let fr:H ‹66›=none:=I.hok.fresh (udc _);let pm:(O.toList.map λ i=>(ys.getD i .non,ks.getD i [])).Perm (ys.zip ks):=by
  let h1:=iD g λ i=>(ys.getD i V.non,ks.getD i []);let e1:(d8 its.length).map (λ i=>(ys.getD i V.non,ks.getD i []))=ys.zip ks:=by
   exact ufw (by simp;left) λ i h1 h2=>?_;let hi:i<its.length:=by simpa using h1
   let a1:i<ys.length:=by left
   let a2:i<ks.length:=by left
   simp [ub2,a1,a2]
  rw[e1] at h1;exact h1
 let pw:‹120›.Pairwise (λ a b=>Srt.lexI b.2 a.2=false):=by
  rw[ua1];exact hW g u λ i j hi hj z=>?_;let w:=Srt.pP (n:=its.length) (lt:=λ i j=>Srt.lexI (ks.getD i []) (ks.getD j [])) (λ i=>Srt.jO _) (λ _ _ _ _ _ _=>Srt.iS _ _ _) (λ _ _ _ _ _ _=>Srt.jN _ _ _) hj hi;rw[uh1 (by left)] at w;exact w.symm
 let ev:‹120›.map (·.1)=O.toList.map λ i=>ys.getD i V.non:=by
  rw[ua0];rfl
 exact⟨.ref ‹66›,_,I.laid (a:=‹128›+1) (o:=.lst (‹120›.map (·.1))) (t':=s.toks) kp (udc _) ⟨?_,Srt.outOf its O,c,?_,e⟩,rfl,q _ pm pw _ fr⟩
 ·let:=pm.length_eq;rw[c9,this,List.length_zip];left
 ·rw[ev];exact fF F O.toList λ i hi=>by let:=dP g i hi;left
end
def Ok (P:o9)(w:uaw)(K:b8)(mg:Str->Option i5)(base:Heap)(k:Nat)(x:Str)(ps:List Str)(sp:Sp):Prop :=
 ∃ (f:o7)(fd:FuncData),FnOk P w K mg base CX0 k f fd ps sp/\Binds K fd ps []/\ueh K (.ref f)=true/\mg x=some (.ref f)
def DefOk (K:b8)(mg:Str->Option i5)(x:Str)(st:ud3)(ps:List Str):Prop :=
 ∃ (f:o7)(fd:FuncData),Fun K x x st f fd/\Binds K fd ps []/\mg x=some (.ref f)
section
variable {P:o9}{w:uaw}{K:b8}{mg:Str->Option i5}{base:Heap}{x:Str}{ps N:List Str}{sp sp':Sp}{k:Nat}{st:ud3}
theorem Ok.mono {j:Nat}(O:Ok P w K mg base j x ps sp)(h:j<=k):Ok P w K mg base k x ps sp:=let ⟨f,fd,F,r⟩:=O;⟨f,fd,F.mono h,r⟩
theorem Ok.imp (O:Ok P w K mg base k x ps sp)(h:∀ vs H Q E,sp' vs H Q E->sp vs H Q E):Ok P w K mg base k x ps sp':=let ⟨f,fd,F,r⟩:=O;⟨f,fd,F.imp h,r⟩
theorem rO (D:DefOk K mg x st ps)(S:FnScope N ps (defScope st))(len:∀ vs H Q E,sp vs H Q E->vs.length=ps.length)
  (hbody:∀ (f:o7)(cdv:i5)(A:uax)(outer:List Env)(s:i6)(H:Hp)(vs:List V)(Q:VK)(E:XK),Room k (A.deeper (envOfC x (defScope st) ‹128› f cdv))->sp vs H Q E ->
   ∃ t,PSs (cxOf CX0 P w K mg base N x (defScope st) f cdv A outer s H E).nox (defBody st) t/\t { nx:=λ _ H'=>Q .non H',rt:=Q } (start N vs) H):Ok P w K mg base (k+1) x ps sp:=by
 obtain⟨f,fd,F,b,m⟩:=D;exact⟨f,fd,F.ok S len (λ cdv A outer s H vs Q E hr h=>hbody f cdv A outer s H vs Q E hr h),b,F.kp,m⟩
theorem aH {X:Cx}{p pos:Pos}{e:uc7}{es:List uc7}{t:TA}(O:Ok X.prog X.w X.K X.mg X.base k x ps sp)(hr:Room k X.A)(hg:Gl X x)(ha:PA X (e::es) t)
  (hdb:‹86›=false:=by decide) (he:ubi (e::es) X.env=(false,eval e X.env)::ubi es X.env:=by rfl) (hpl:(backTo pos (ubi es X.env)).any (·.1)=false:=by rfl) :
  PE X (.Call (.Name x p) (e::es) [] pos) (tCall sp [] E0 t):=by
 obtain⟨f,fd,F,b,q,m⟩:=O;exact zcn F hr hg m q b .nil pass0 ha hdb he hpl
end
structure Bi (mg:Str->Option i5):Prop where
 z_len:mg "len"=none
 z_range:mg "range"=none
 z_zip:mg "zip"=none
 z_all:mg "all"=none
 z_sorted:mg "sorted"=none
 z_isinstance:mg "isinstance"=none
 z_min:mg "min"=none
 z_max:mg "max"=none
 z_tuple:mg "tuple"=none
 z_list:mg "list"=none
 z_int:mg "int"=none
 z_bool:mg "bool"=none
 z_str:mg "str"=none
 z_enumerate:mg "enumerate"=none
 z_sum:mg "sum"=none
 z_abs:mg "abs"=none
 z_set:mg "set"=none
 z_reversed:mg "reversed"=none
 z_any:mg "any"=none
 z_repr:mg "repr"=none
 z_dict:mg "dict"=none
def But (p:o7)(H H':Hp):Prop:=∀ b o,b≠p->H b=some o->H' b=some o
section
variable {K:b8}{H H1 H2:Hp}{p a:o7}{o:HO}{xs ys:List V}
theorem But.refl:But p H H:=λ _ _ _ h=>h
theorem But.trans (a:But p H H1)(b:But p H1 H2):But p H H2:=λ c o n h=>b c o n (a c o n h)
theorem But.upd:But p H (upd H p o):=λ b u n h=>by rw[aL n];exact h
theorem Same.but (h:Same H H1):But p H H1:=λ b o _ q=>h b o q
theorem But.new (h:H a=none):But p H (L2.upd H a o):=λ b u _ q=>by rw[aL (aW q h)];exact q
theorem aU (h:H a=none):Same H (upd H a o):=λ b u q=>by rw[aL (aW q h)];exact q
end
mutual
def tupD:ubo->Bool
 | .none | .bool _ | .int _ | .str _=>true
 | .tuple ds=>tupAll ds
 | .list _ | .dict _=>false
def tupAll:List ubo->Bool
 | []=>true
 | d::ds=>tupD d&&tupAll ds
end
mutual
theorem Is.but {K:b8}{H H':Hp}{p:o7}{xs:List V}(e:But p H H')(hp:H p=some (.lst xs)):∀ (d:ubo){v:V},tupD d=true->Is K H d v->Is K H' d v
 | .none,_,_,h=>h
 | .bool _,_,_,h=>h
 | .int _,_,_,h=>h
 | .str _,_,_,h=>h
 | .tuple ds,_,t,h=>let ⟨q,vs,O,F,U⟩:=h;⟨q,vs,O,e _ _ (λ z=>by subst z;rw[hp] at F;cases F) F,IsAll.but e hp ds t U⟩
 | .list ds,_,t,h=>by cases t
 | .dict _,_,t,h=>by cases t
theorem IsAll.but {K:b8}{H H':Hp}{p:o7}{xs:List V}(e:But p H H')(hp:H p=some (.lst xs)):∀ (ds:List ubo){vs:List V},tupAll ds=true->IsAll K H ds vs->IsAll K H' ds vs
 | [],_,_,h=>h
 | d::ds,_,t,h=>by
  let t':(tupD d&&tupAll ds)=true:=t;rw[m7] at t';obtain⟨v,r,q,F,z⟩:=h;exact⟨v,r,q,Is.but e hp d t'.1 F,IsAll.but e hp ds t'.2 z⟩
end
def Pot (H:Hp)(p:o7):Prop:=∃ a b:Int,H p=some (.lst [.int a,.int b])/\0<=a/\0<=b/\b<2147483647
theorem Pot.lst {H:Hp}{p:o7}(h:Pot H p):∃ xs,H p=some (.lst xs):=let ⟨a,b,e,_⟩:=h;⟨_,e⟩
inductive spPot_i (K:b8)(vs:List V)(H:Hp)(Q:VK):Prop
 | mk:∀ a k (ns:List Int),(vs=[.ref a,.int k])->(SqL K H a ‹67›)->(0<=k)->(k<=100)->(∀ l H',Same H H'->H l=none->Pot H' l->Q (.ref l) H')->spPot_i K vs H Q
def spPot (K:b8):Sp:=λ vs H Q _=>spPot_i K vs H Q
inductive spTake_i  (vs:List V) (H:Hp) (Q:VK):Prop
 | mk:∀ p m,(vs=[.ref p,.int m])->(Pot H p)->(0<m)->(m<1073741824)->(∀ r H',0<=r->r<m->But p H H'->Pot H' p->Q (.int r) H')->spTake_i vs H Q
def spTake :Sp:=λ vs H Q _=>spTake_i vs H Q
inductive spLength_i  (vs:List V) (H:Hp) (Q:VK):Prop
 | mk:∀ p y,(vs=[.ref p,.int y])->(Pot H p)->(0<=y)->(y<5)->(∀ r H',1<=r->r<=10^18->But p H H'->Pot H' p->Q (.int r) H')->spLength_i vs H Q
def spLength :Sp:=λ vs H Q _=>spLength_i vs H Q
inductive spTied_i  (vs:List V) (H:Hp) (Q:VK):Prop
 | mk:∀ p n y a b,(vs=[.ref p,.int n,.int y,.int a,.int b])->(Pot H p)->(∀ k H',But p H H'->Pot H' p->Q (.bl k) H')->spTied_i vs H Q
def spTied :Sp:=λ vs H Q _=>spTied_i vs H Q
inductive spOrder_i  (vs:List V) (H:Hp) (Q:VK):Prop
 | mk:∀ p m,(vs=[.ref p,.int m])->(Pot H p)->(0<=m)->(m<=1000)->(∀ l H' (ms:List Int),But p H H'->Pot H' p->H l=none->l≠p->H' l=some (.lst (ms.map V.int))->ms.Perm ((d8 m.toNat).map λ i:Nat=>(i:Int))->Q (.ref l) H')->spOrder_i vs H Q
def spOrder :Sp:=λ vs H Q _=>spOrder_i vs H Q
abbrev Tie:=Int × Int × Int
def tieI (t:Tie):List Int:=[t.1,t.2.1,t.2.2]
def tieD (t:Tie):ubo:=.tuple ((tieI t).map .int)
def webD (n:Int)(ties:List Tie):ubo:=.tuple [.int n,.tuple (ties.map tieD)]
def endLt (s t:Tie):Prop:=s.1<t.1\/(s.1=t.1/\s.2.1<t.2.1)
structure WebOk (n:Int)(ties:List Tie):Prop where
 n1:1<=n
 n24:n<=24
 rise:ties.Pairwise endLt
 few:ties.length<=60
 tie:∀ t∈ties,0<=t.1/\t.1<t.2.1/\t.2.1<n/\1<=t.2.2/\t.2.2<=10^18
inductive spWeb_i (K:b8)(vs:List V)(H:Hp)(Q:VK):Prop
 | mk:∀ p m,(vs=[.ref p,.int m])->(Pot H p)->(1<=m)->(m<=24)->(∀ v H' n ties,But p H H'->Pot H' p->WebOk n ties->n<=m->Is K H' (webD n ties) v->Q v H')->spWeb_i K vs H Q
def spWeb (K:b8):Sp:=λ vs H Q _=>spWeb_i K vs H Q
end L3
namespace L3
structure Grown (n:Nat)(ms:List Int)(b a:Nat)(ties:List Tie):Prop where
 few:ties.length<=60
 ok:∀ t∈ties,0<=t.1/\t.1<t.2.1/\t.2.1<(n:Int)/\1<=t.2.2/\t.2.2<=10^18
 of:∀ t∈ties,∃ a' b':Nat,a'<b'/\b'<n/\(b'<b\/(b'=b/\a'<a))/\((t.1=ms.getD a' 0/\t.2.1=ms.getD b' 0)\/(t.1=ms.getD b' 0/\t.2.1=ms.getD a' 0))
 nd:ties.Pairwise λ s t=>¬ (s.1=t.1/\s.2.1=t.2.1)
theorem Grown.start {n:Nat}{ms:List Int}:Grown n ms 0 0 []:=⟨uae _,(λ t h=>by cases h),(λ t h=>by cases h),uhh⟩
theorem Grown.down {n:Nat}{ms:List Int}{b:Nat}{ties:List Tie}(g:Grown n ms b b ties):Grown n ms (b+1) 0 ties :=
 ⟨g.few,g.ok,λ t h=>by
  obtain⟨q,z,h1,h2,h3,F⟩:=g.of t h;exact⟨q,z,h1,h2,.inl (by left),F⟩,g.nd⟩
theorem Grown.skip {n:Nat}{ms:List Int}{b a:Nat}{ties:List Tie}(g:Grown n ms b a ties):Grown n ms b (a+1) ties :=
 ⟨g.few,g.ok,λ t h=>by
  obtain⟨q,z,h1,h2,h3,F⟩:=g.of t h;exact⟨q,z,h1,h2,by left,F⟩,g.nd⟩
structure Perm0 (n:Nat)(ms:List Int):Prop where
 len:ms.length=n
 lo:∀ i,i<n->0<=ms.getD i 0/\ms.getD i 0<(n:Int)
 inj:∀ i j,i<n->j<n->ms.getD i 0=ms.getD j 0->i=j
theorem Perm0.of {n:Nat}{ms:List Int}(h:ms.Perm ((d8 n).map λ i:Nat=>(i:Int))):Perm0 n ms:=by
 let hl:ms.length=n:=by simpa using h.length_eq
 let nd:ms.Nodup:=(h.nodup_iff).mpr (by
  rw[uau,ua1];exact (List.nodup_range (n:=n)).imp λ h z=>h (by left))
 exact⟨hl,λ i hi=>?_,λ i j hi U e=>?_⟩
 ·let e:ms.getD i 0=ms[i]:=by simp [ub2,show i<ms.length by left]
  let m:ms[i]'(by left)∈(d8 n).map λ i:Nat=>(i:Int):=h.mem_iff.mp (udd _);rw[e];obtain⟨k,F,O⟩:=w8.mp m;let:=m8.mp F;left
 ·let q:ms.getD i 0=ms[i]:=by simp [ub2,show i<ms.length by left]
  let e2:ms.getD j 0=ms[j]:=by simp [ub2,show j<ms.length by left]
  rw[q,e2] at e;exact (List.getElem_inj nd).mp e
theorem Grown.add {n:Nat}{ms:List Int}{b a:Nat}{ties:List Tie}{x y l:Int}(g:Grown n ms b a ties)(pm:Perm0 n ms)(ha:a<b)(hb:b<n)(hf:ties.length<60)(hl:1<=l)(hl2:l<=10^18)
  (hxy:(x=ms.getD a 0/\y=ms.getD b 0)\/(x=ms.getD b 0/\y=ms.getD a 0)) (hle:x<=y):Grown n ms b (a+1) (ties++[(x,y,l)]):=by
 let O:=ug0 ha hb;let la:=pm.lo a O;let lb:=pm.lo b hb;let ne:ms.getD a 0≠ms.getD b 0:=λ e=>k8 ha (pm.inj a b O hb e);exact⟨by rw[i7,j6];exact hf,λ t ht=>?_,λ t ht=>?_,?_⟩
 ·rcases uat.mp ht with h | h
  ·exact g.ok t h
  ·let e:t=(x,y,l):=u5.mp h;subst e;exact⟨?_,?_,?_,hl,hl2⟩
   ·show 0<=x;rcases hxy with ⟨q,F⟩ | ⟨q,F⟩
    ·rw[q];exact la.1
    ·rw[q];exact lb.1
   ·show x<y;exact Int.lt_iff_le_and_ne.mpr ⟨hle,λ z=>?_⟩;rcases hxy with ⟨q,F⟩ | ⟨q,F⟩
    ·exact ne (q.symm.trans (z.trans F))
    ·exact ne (F.symm.trans (z.symm.trans q))
   ·show y<(n:Int);rcases hxy with ⟨q,F⟩ | ⟨q,F⟩
    ·rw[F];exact lb.2
    ·rw[F];exact la.2
 ·rcases uat.mp ht with h | h
  ·obtain⟨a',b',h1,h2,h3,h4⟩:=g.of t h;exact⟨a',b',h1,h2,h3.imp id λ z=>⟨z.1,ubf z.2⟩,h4⟩
  ·let e:t=(x,y,l):=u5.mp h;subst e;exact⟨a,b,ha,hb,.inr ⟨rfl,ucq _⟩,hxy⟩
 ·rw[List.pairwise_append];refine⟨g.nd,List.pairwise_singleton _ _,λ t ht u hu=>?_⟩;have e:u=(x,y,l):=u5.mp hu;subst e;rintro ⟨e1,e2⟩;obtain⟨a',b',h1,h2,h3,h4⟩:=g.of t ht;have U:t.1=x:=e1;have ab:t.2.1=y:=e2;have aa:=ug0 h1 h2;have ad:a'=a->b'=b->False:=λ ea eb=>h3.elim (λ z=>k8 z eb) λ z=>k8 z.2 ea;have ac:a'=b->b'=a->False:=λ ea eb=>Nat.lt_asymm ha (by rw[← ea,← eb];exact h1);rcases h4 with ⟨p1,p2⟩ | ⟨p1,p2⟩ <;> rcases hxy with ⟨q,F⟩ | ⟨q,F⟩
  ·exact ad (pm.inj a' a aa O (p1.symm.trans (U.trans q))) (pm.inj b' b h2 hb (p2.symm.trans (ab.trans F)))
  ·exact ac (pm.inj a' b aa hb (p1.symm.trans (U.trans q))) (pm.inj b' a h2 O (p2.symm.trans (ab.trans F)))
  ·exact ac (pm.inj a' b aa hb (p2.symm.trans (ab.trans F))) (pm.inj b' a h2 O (p1.symm.trans (U.trans q)))
  ·exact ad (pm.inj a' a aa O (p2.symm.trans (ab.trans F))) (pm.inj b' b h2 hb (p1.symm.trans (U.trans q)))
theorem zch {ts:List Tie}(h:ts.Pairwise λ a b=>Srt.lexI (tieI b) (tieI a)=false)(nd:ts.Pairwise λ s t=>¬ (s.1=t.1/\s.2.1=t.2.1)):ts.Pairwise endLt:=by
 exact (h.and nd).imp λ {a b} O=>?_;obtain⟨h1,h2⟩:=O;obtain⟨F,a2,a3⟩:=a;obtain⟨z,U,b3⟩:=b;simp only [tieI,Srt.lexI] at h1;show F<z\/(F=z/\a2<U);let aa:¬ (F=z/\a2=U):=h2;by_cases q:z=F
 ·rw[uh2 q] at h1;by_cases e2:U=a2
  ·exact absurd ⟨q.symm,e2.symm⟩ aa
  ·rw[uh3 e2] at h1;let:=of_decide_eq_false h1;exact .inr ⟨q.symm,by left⟩
 ·rw[uh3 q] at h1;let:=of_decide_eq_false h1;exact .inl (by left)
end L3
namespace L3
open PySem PySem.Spec PyProof.Rows L2
section
variable {X:Cx}{pos:Pos}
inductive op_isnotB_i  (x:V) (y:V) (H:Hp) (Q:VK):Prop
 | mk:∀ i j,(x=.bl i)->(y=.bl j)->(Q (.bl (!(i==j))) H)->op_isnotB_i x y H Q
theorem yU:OpR X (compareOp .IsNot) (op_isnotB_i):=by
 intro pins s σ H x y v u Q I F z h;obtain⟨i,j,rfl,rfl,q⟩:=h;cases F;cases z;exact isnot_bool (aX I q rfl)
theorem pV:OpR X (binaryOp .Mult) (rI (λ i j=>IntMulOk i j) λ i j=>.int (i*j)):=opI λ _ _ _ _ _ _ _ z q=>mul_int q z
theorem mulB:IntMulOk ((10:Int)^(60:Int).toNat) ((10:Int)^(60:Int).toNat):=IntMulOk.of_bits (by symm) (by symm)
theorem mulB2:IntMulOk ((10:Int)^(60:Int).toNat*(10:Int)^(60:Int).toNat) ((10:Int)^(60:Int).toNat):=IntMulOk.of_bits (by symm) (by symm)
theorem posB:(0:Int)<(10:Int)^(60:Int).toNat*(10:Int)^(60:Int).toNat*(10:Int)^(60:Int).toNat:=by symm
inductive call_range_i  (xs:List V) (H:Hp) (Q:VK):Prop
 | mk:∀ (j:Int),(xs=[.int j])->(∀ p,H p=none->Q (.ref p) (upd H p (.rng 0 j)))->call_range_i xs H Q
theorem mI:CallR X (.type "range") (call_range_i):=by
 intro pins s σ H xs us Q I r h;obtain⟨j,rfl,q⟩:=h;obtain⟨u,rfl,t,rfl⟩:=vals1 r;exact call_range_1 ⟨.ref ‹128›,_,I.laid (a:=‹128›) (o:=.rng 0 j) (λ b o e=>a9 _ e) (i8 _) ⟨_,_,_,i9 _ rfl⟩,rfl,q _ I.fresh⟩
inductive call_list_rng_i  (xs:List V) (H:Hp) (Q:VK):Prop
 | mk:∀ (p:o7)(j:Int),(xs=[.ref p])->(H p=some (.rng 0 j))->(0<=j)->(j<=1000)->(∀ l,H l=none->Q (.ref l) (upd H l (.lst ((d8 j.toNat).map λ i:Nat=>V.int (i:Int)))))->call_list_rng_i xs H Q
theorem uR (hh:X.calm=true):CallR X (.type "list") (call_list_rng_i):=by
 intro pins s σ H xs us Q I r h;obtain⟨p,j,rfl,hp,ab,hj,q⟩:=h;obtain⟨u,rfl,rx⟩:=vals1 r;cases rx;obtain⟨t,u,v,e⟩:=(show ObjOk X.prog X.w H s.heap p (.rng 0 j) from I.hok p _ hp);exact call_list_range (n:=j.toNat) (I.ok.hd hh) (show IsRange s.heap p 0 j 1 t u v from e) (small_one (by left) (by left) (by left) (by left)) (by rw[rangeSize_one];split <;> left) (by left) λ h' tk U c F hS z=>?_;exact⟨.ref ‹128›,_,I.laid (a:=‹128›) (o:=.lst ((d8 j.toNat).map λ i:Nat=>V.int (i:Int))) (t':=tk) F (i8 _) ⟨?_,U.toList,c,?_,by simpa using hS⟩,rfl,q _ I.fresh⟩
 ·rw[c9,uaa,ubn];left
 ·let go:∀ (n:Nat)(l:List i5),l.length=n->(∀ (k:Nat)(v:i5),l[k]?=some v->∃ t,v=Value.int (0+(k:Int)*1) t)->Vals ((d8 n).map λ i:Nat=>V.int (i:Int)) l:=by
   intro n l hl hv;let aa:∀ (l:List i5)(o:Nat),(∀ (k:Nat)(v:i5),l[k]?=some v->∃ t,v=Value.int ((o+k:Nat):Int) t)->Vals ((List.range' o l.length).map λ i:Nat=>V.int (i:Int)) l:=by
    intro l;induction l with
    | nil=>intro o _;exact .nil
    | cons x r ih =>
     intro o h;rw[uas,List.range'_succ,ubc];obtain⟨t,O⟩:=h 0 x rfl;exact .cons ⟨t,by simpa using O⟩ (ih (o+1) λ k v F=>?_);obtain⟨t,O⟩:=h (k+1) v (by simpa using F);exact⟨t,by rw[O];congr 1;left⟩
   let:=aa l 0 λ k v F=>by
    obtain⟨t,O⟩:=hv k v F;exact⟨t,by rw[O];congr 1;left⟩
   rw[hl] at this;rw[List.range_eq_range'];exact this
  exact go _ _ (by simpa using z.1) λ k v F=>z.2 k v (by simpa using F)
end
theorem mH {α:Type}:∀ (l:List α)(k:Nat)(h:k<l.length),(l[k]::l.eraseIdx k).Perm l
 | [],k,h=>absurd h (ueg _)
 | a::l,0,_=>ue2 _
 | a::l,k+1,h=>by
  let h':k<l.length:=by simpa using h
  show (l[k]::a::l.eraseIdx k).Perm (a::l);exact (List.Perm.swap a l[k] _).trans ((mH l k h').cons a)
theorem mX {α β:Type}(f:α->β):∀ (l:List α)(k:Nat),(l.eraseIdx k).map f=(l.map f).eraseIdx k
 | [],_=>rfl
 | _::_,0=>rfl
 | a::l,k+1=>by
  show f a::(l.eraseIdx k).map f=f a::(l.map f).eraseIdx k;rw[mX f l k]
def TieL (H:Hp)(ys:List V)(ts:List Tie):Prop:=Paired (λ (y:V) (t:Tie)=>∃ a,y=.ref a/\H a=some (.tup ((tieI t).map V.int))) ys ts
theorem TieL.keep {H H':Hp}{ys:List V}{ts:List Tie}(h:TieL H ys ts)(k:∀ a xs,H a=some (.tup xs)->H' a=some (.tup xs)):TieL H' ys ts :=
 Paired.mapP h λ y t ⟨a,q,e2⟩=>⟨a,q,k _ _ e2⟩
theorem TieL.snoc {H:Hp}{ys:List V}{ts:List Tie}{a:o7}{t:Tie}(h:TieL H ys ts)(e:H a=some (.tup ((tieI t).map V.int))):TieL H (ys++[.ref a]) (ts++[t]):=Paired.snoc h ⟨a,rfl,e⟩
theorem lX {α β γ:Type}{F:β->γ->Prop}(f:α->β)(g:α->γ):∀ {l:List α},(∀ x∈l,F (f x) (g x))->Paired F (l.map f) (l.map g)
 | [],_=>.nil
 | x::l,h=>.cons (h x l9) (lX f g λ y q=>h y (j8 _ q))
theorem lW {α β γ:Type}{F:α->β->Prop}{f:β->γ}:∀ {l:List α}{r:List β},Paired F l r->∀ q∈l.zip (r.map f),∃ b,q.2=f b/\F q.1 b
 | _,_,.nil,q,h=>by cases h
 | _,_,.cons (a:=a) (b:=b) x t,q,h=>by
  rw[ubc,ue8] at h;rcases j4.mp h with e | h
  ·subst e;exact⟨b,rfl,x⟩
  ·exact lW t q h
theorem lM {F:V->Tie->Prop}{G:V->List Int->Prop}(h:∀ y t,F y t->G y (tieI t)):∀ {ys:List V}{ts:List Tie},Paired F ys ts->Paired G ys (ts.map tieI)
 | _,_,.nil=>.nil
 | _,_,.cons x t=>.cons (h _ _ x) (lM h t)
def tieOf:List Int->Tie
 | [a,b,c]=>(a,b,c)
 | _=>(0,0,0)
theorem zb7 (t:Tie):tieOf (tieI t)=t:=rfl
theorem zb5 {H:Hp}{ys:List V}{ts:List Tie}(h:TieL H ys ts){qs:List (V × List Int)}(p:qs.Perm (ys.zip (ts.map tieI)))(w:qs.Pairwise λ a b=>Srt.lexI b.2 a.2=false) :
  ∃ ts':List Tie,ts'.Perm ts/\TieL H (qs.map (·.1)) ts'/\ts'.Pairwise λ a b=>Srt.lexI (tieI b) (tieI a)=false:=by
 let O:∀ q∈qs,∃ t,q.2=tieI t/\∃ a,q.1=.ref a/\H a=some (.tup ((tieI t).map V.int)):=λ q F=>lW h q (p.mem_iff.mp F);let back:∀ q∈qs,tieI (tieOf q.2)=q.2:=λ q F=>by
  obtain⟨t,e,_⟩:=O q F;rw[e];rfl
 exact⟨qs.map λ q=>tieOf q.2,?_,lX _ _ λ q F=>?_,?_⟩
 ·let U:(qs.map λ q=>tieOf q.2).Perm ((ys.zip (ts.map tieI)).map λ q=>tieOf q.2):=p.map _;let e2:(ys.zip (ts.map tieI)).map (λ q=>tieOf q.2)=ts:=by
   let l:ys.length=(ts.map tieI).length:=by rw[c9];exact Paired.length h
   let:(ys.zip (ts.map tieI)).map (λ q=>tieOf q.2)=((ys.zip (ts.map tieI)).map (·.2)).map tieOf:=by rw[ua0];rfl
   rw[this,List.map_snd_zip (ugb l.symm),ua0];exact (ua2 λ t _=>zb7 t).trans (uda _)
  rw[e2] at U;exact U
 ·obtain⟨t,e,a,ea,eh⟩:=O q F;exact⟨a,ea,?_⟩;rw[back q F,e];exact eh
 ·rw[ua1];exact w.imp_of_mem λ {a b} ha hb z=>?_;rw[back a ha,back b hb];exact z
theorem TieL.is {K:b8}{H:Hp}:∀ {ys:List V}{ts:List Tie},TieL H ys ts->IsAll K H (ts.map tieD) ys
 | _,_,.nil=>rfl
 | _,_,.cons (a:=y) (b:=t) ⟨a,e1,e2⟩ r=>⟨_,_,rfl,⟨a,_,e1,e2,IsAll.ints _⟩,TieL.is r⟩
theorem wS {x y:Int}{ms:List Int}(p:ms.Perm [x,y])(w:ms.Pairwise (·<=·)):∃ a b,ms=[a,b]/\a<=b/\((a=x/\b=y)\/(a=y/\b=x)):=by
 let hl:=p.length_eq
 match ms,hl,p,w with
 | [a,b],_,p,w =>
  exact⟨a,b,rfl,by simpa using w,?_⟩;let q:a∈[x,y]:=p.mem_iff.mp (by simp);rcases j4.mp q with e | e
  ·subst e;let:=(List.perm_cons a).mp p;let e2:b=y:=by simpa using List.perm_singleton.mp this
   exact .inl ⟨rfl,e2⟩
  ·let z:a=y:=by simpa using e
   subst z;let p2:[a,b].Perm [a,x]:=p.trans (List.Perm.swap a x []);let:=(List.perm_cons a).mp p2;let e2:b=x:=by simpa using List.perm_singleton.mp this
   exact .inr ⟨rfl,e2⟩
def TupKeep (H H':Hp):Prop:=∀ a xs,H a=some (.tup xs)->H' a=some (.tup xs)
section
variable {J:It}{g:TG}{te:TE}{own:List Str}{js:List Nat}{σ:L2.St}{H1:Hp}{Q:VK}
theorem fK (n:Nat)(Sg:L2.St->Prop)(R:Nat->V->Hp->Prop)(hn:n<=1000)(h0:Sg ‹93›)(mono:∀ i v H H',TupKeep H H'->R i v H->R i v H')
  (go:∀ i H',i<n->Same H1 H'->J.go i H') (stop:∀ H',Same H1 H'->J.stop n H')
  (step:∀ i x σ' H' H2,i<n->Same H1 H'->J.yld i H' x H2->Sg σ'->∀ C:L2.St->V->Hp->Prop,(∀ σ3 v H5,Sg σ3->Same H' H5->R i v H5->C σ3 v H5)->g x σ' H2 λ σ3 H3=>te σ3 H3 λ v H5=>C σ3 v H5)
  (fin:∀ D ys H',H1 D=none->Same H1 H'->H' D=some (.lst ys)->ys.length=n->(∀ i v,ys[i]?=some v->R i v H')->Q (.ref D) H'):CompGo own js g tTrue te σ Q J H1:=by
 intro D hD;exact⟨λ i m ys σ' H'=>m=n-i/\i<=n/\Sg σ'/\Same H1 H'/\ys.length=i/\∀ j v,ys[j]?=some v->R j v H',⟨n,rfl,uae _,h0,aU hD,rfl,λ j v e=>by simp at e⟩,?_⟩;rintro i m ys σ' H' ⟨rfl,hi,sg,F,hl,hr⟩ hd;by_cases q:i<n
 ·exact .inr ⟨go i H' q F,λ x H2 hy=>?_⟩;exact step i x σ' H' H2 q F hy sg (λ σ3 v H5=>H5 D=some (.lst ys)/\ys.length<p8/\∃ m',m'<n-i/\(m'=n-(i+1)/\i+1<=n/\Sg σ3/\Same H1 ‹114›/\(ys++[v]).length=i+1/\∀ j u,(ys++[v])[j]?=some u->R j u ‹114›)) λ σ3 v H5 aa s5 r5=>?_;let U:=s5 _ _ hd;exact⟨U,ubv (by left:ys.length<=1000) (by decide),n-(i+1),by left,rfl,q,aa,λ b o e=>?_,by rw[i7,j6,hl],λ j u e=>?_⟩
  ·rw[aL (aW e hD)];exact s5 _ _ (F _ _ e)
  ·let O:TupKeep H5 ‹114›:=λ a xs e=>by rw[aL (λ z=>by rw[z,U] at e;cases e)];exact e
   by_cases hj:j<ys.length
   ·rw[uao hj] at e;exact mono _ _ _ _ O (mono _ _ _ _ (λ a xs z=>s5 _ _ z) (hr j u e))
   ·rw[uab (by left)] at e;let ej:j=ys.length:=by
     let:=(j9.mp e).1;simp at this;left
    subst ej;let eu:v=u:=by simpa using e
    subst eu;rw[hl];exact mono _ _ _ _ O r5
 ·let e:i=n:=by left
  subst e;exact .inl ⟨stop H' F,fin D ys H' hD F hd hl hr⟩
theorem dS {K:b8}{a:o7}{xs:List V}(hx:H1 a=some (.tup xs))(Sg:L2.St->Prop)(R:Nat->V->Hp->Prop)(hn:xs.length<=1000)(h0:Sg ‹93›)(mono:∀ i v H H',TupKeep H H'->R i v H->R i v H')
  (step:∀ i x σ' H',xs[i]?=some x->Same H1 H'->Sg σ'->∀ C:L2.St->V->Hp->Prop,(∀ σ3 v H5,Sg σ3->Same H' H5->R i v H5->C σ3 v H5)->g x σ' H' λ σ3 H3=>te σ3 H3 λ v H5=>C σ3 v H5)
  (fin:∀ D ys H',H1 D=none->Same H1 H'->H' D=some (.lst ys)->ys.length=xs.length->(∀ i v,ys[i]?=some v->R i v H')->Q (.ref D) H'):CompGo own js g tTrue te σ Q (Itt K a) H1:=by
 exact fK xs.length Sg R hn h0 mono (λ i H' hi s=>⟨xs,xs[i],SqT.of (s _ _ hx),by simp [hi]⟩) (λ H' s=>⟨xs,SqT.of (s _ _ hx),i8 _⟩) (λ i x σ' H' H2 hi s q z C F=>?_) fin;obtain⟨rfl,q⟩:=q;exact step i x σ' _ (q xs (SqT.of (s _ _ hx))) s z C F
theorem fL {K:b8}{a:o7}{xs:List V}(hx:H1 a=some (.lst xs))(Sg:L2.St->Prop)(R:Nat->V->Hp->Prop)(hn:xs.length<=1000)(h0:Sg ‹93›)(mono:∀ i v H H',TupKeep H H'->R i v H->R i v H')
  (step:∀ i x σ' H',xs[i]?=some x->Same H1 H'->Sg σ'->∀ C:L2.St->V->Hp->Prop,(∀ σ3 v H5,Sg σ3->Same H' H5->R i v H5->C σ3 v H5)->g x σ' H' λ σ3 H3=>te σ3 H3 λ v H5=>C σ3 v H5)
  (fin:∀ D ys H',H1 D=none->Same H1 H'->H' D=some (.lst ys)->ys.length=xs.length->(∀ i v,ys[i]?=some v->R i v H')->Q (.ref D) H'):CompGo own js g tTrue te σ Q (Itl K a) H1:=by
 exact fK xs.length Sg R hn h0 mono (λ i H' hi s=>⟨xs,xs[i],SqL.of (s _ _ hx),by simp [hi]⟩) (λ H' s=>⟨xs,SqL.of (s _ _ hx),i8 _⟩) (λ i x σ' H' H2 hi s q z C F=>?_) fin;obtain⟨rfl,q⟩:=q;exact step i x σ' _ (q xs (SqL.of (s _ _ hx))) s z C F
theorem SqX.of {t:Bool}{K:b8}{H:Hp}{a:o7}{xs:List V}(h:H a=some (if t=true then .tup xs else .lst xs)):SqX t K H a xs:=by
 cases t with
 | true=>exact SqT.of h
 | false=>exact SqL.of h
theorem oZ {t1 t2:Bool}{K:b8}{a b:o7}{xs zs:List V}(hx:H1 a=some (if t1=true then .tup xs else .lst xs))(hz:H1 b=some (if t2=true then .tup zs else .lst zs))(Sg:L2.St->Prop)(R:Nat->V->Hp->Prop)(hn:xs.length<=1000)
  (h0:Sg ‹93›) (mono:∀ i v H H',TupKeep H H'->R i v H->R i v H')
  (step:∀ i x z T σ' H',xs[i]?=some x->zs[i]?=some z->Same H1 H'->H' T=none->Sg σ'->∀ C:L2.St->V->Hp->Prop,(∀ σ3 v H5,Sg σ3->Same H' H5->R i v H5->C σ3 v H5)->g (.ref T) σ' (upd H' T (.tup [x,z])) λ σ3 H3=>te σ3 H3 λ v H5=>C σ3 v H5)
  (fin:∀ D ys H',H1 D=none->Same H1 H'->H' D=some (.lst ys)->ys.length=min xs.length zs.length->(∀ i v,ys[i]?=some v->R i v H')->Q (.ref D) H'):CompGo own js g tTrue te σ Q (Itz t1 t2 K a b) H1:=by
 let q:∀ H',Same H1 H'->SqX t1 K H' a xs:=λ H' s=>SqX.of (s _ _ hx);let s2:∀ H',Same H1 H'->SqX t2 K H' b zs:=λ H' s=>SqX.of (s _ _ hz);exact fK (min xs.length zs.length) Sg R (by left) h0 mono (λ i H' hi s=>⟨xs,zs,xs[i]'(by left),zs[i]'(by left),q H' s,s2 H' s,by simp [show i<xs.length by left],by simp [show i<zs.length by left]⟩)
  (λ H' s=>⟨xs,zs,q H' s,s2 H' s,by left⟩) (λ i x σ' H' H2 hi s hy sg C hC=>?_) fin
 obtain⟨T,U,z1,O,rfl,rfl,F,e2⟩:=hy;exact step i U z1 T σ' H' (F _ (q H' s)) (e2 _ (s2 H' s)) s O sg C hC
end
theorem dI {f:Nat->Bool}{n:Nat}{ys:List V}(hl:ys.length=n)(h:∀ (i:Nat) (v:V),ys[i]?=some v->v=V.bl (f i)):ys=((d8 n).map f).map V.bl:=by
 exact ucd λ i=>?_;by_cases hi:i<n
 ·obtain⟨v,q⟩:∃ v,ys[i]?=some v:=⟨ys[i],d7 (by left)⟩;rw[q,h i v q];simp [hi]
 ·rw[uag (by left),uag (by simp;left)]
def tyD:ubo->String
 | .none=>"NoneType"
 | .bool _=>"bool"
 | .int _=>"int"
 | .str _=>"str"
 | .tuple _=>"tuple"
 | .list _=>"list"
 | .dict _=>"dict"
theorem kO {K:b8}{H:Hp}:∀ {d:ubo}{v:V},Is K H d v->TyOf K H v (.type (tyD d))
 | .none,_,h=>by rw[show _=V.non from h];exact .non
 | .bool b,_,h=>by rw[show _=V.bl b from h];exact .bl b
 | .int i,_,h=>by rw[show _=V.int i from h];exact .int i
 | .str x,_,h=>by rw[show _=V.str x from h];exact .str x
 | .tuple _,_,⟨p,vs,e,h,_⟩=>by rw[e];exact .tup h
 | .list _,_,⟨p,vs,e,h,_⟩=>by rw[e];exact .lst h
 | .dict _,_,⟨_,p,e,h⟩=>by rw[e];exact .dK h
def wholeB:ubo->Bool
 | .int _=>true
 | _=>false
def wholesB:ubo->Bool
 | .tuple ds=>ds.all wholeB
 | _=>false
def tieB (n:Int):ubo->Bool
 | .tuple [.int a,.int b,.int l]=>decide (0<=a)&&decide (a<b)&&decide (b<n)&&decide (1<=l)&&decide (l<=10^18)
 | _=>false
def few:ubo->Prop
 | .tuple ds=>ds.length<=1000
 | .list ds=>ds.length<=1000
 | _=>True
inductive spD1_i (K:b8)(pre:ubo->Prop)(f:ubo->Bool)(vs:List V)(H:Hp)(Q:VK):Prop
 | mk:∀ d v,(vs=[v])->(Is K H d v)->(pre d)->(∀ H',Same H H'->Q (.bl (f d)) H')->spD1_i K pre f vs H Q
def spD1 (K:b8)(pre:ubo->Prop)(f:ubo->Bool):Sp:=λ vs H Q _=>spD1_i K pre f vs H Q
section
variable {g:TG}{te:TE}{own:List Str}{js:List Nat}{σ:L2.St}{H1:Hp}{Q:VK}
end
def e2 (e:Int × Int):List Int:=[e.1,e.2]
def risingB (es:List (Int × Int)):Bool:=((d8 (min es.length (es.drop 1).length)).map λ i=>HT.lexLt (e2 (es.getD i (0,0))) (e2 ((es.drop 1).getD i (0,0)))).all id
def TwoL (H:Hp)(ys:List V)(es:List (Int × Int)):Prop:=Paired (λ (y:V) (e:Int × Int)=>∃ a,y=.ref a/\H a=some (.tup [.int e.1,.int e.2])) ys es
theorem TwoL.get {H:Hp}:∀ {ys:List V}{es:List (Int × Int)}{i:Nat}{y:V},TwoL H ys es->ys[i]?=some y->∃ a,y=.ref a/\H a=some (.tup ((e2 (es.getD i (0,0))).map V.int))
 | _,_,_,_,.nil,h=>by simp at h
 | _,_,0,y,.cons (a:=y0) r t,h=>by
  let e:y0=y:=by simpa using h
  subst e;exact r
 | _,_,i+1,_,.cons r t,h=>TwoL.get (i:=i) t (by simpa using h)
theorem cut1 (ys:List V):cutV ys (some 1) none=ys.drop 1:=by
 unfold cutV;let q:HT.sIx ys.length ys.length none=ys.length:=rfl;let e2:HT.sIx ys.length 0 (some 1)=min 1 ys.length:=by
  unfold HT.sIx;simp
 rw[q,e2];by_cases h:ys.length=0
 ·let:ys=[]:=uby h;subst this;rfl
 ·let:min 1 ys.length=1:=by left
  rw[this];exact ube (by simp)
section
variable {g:TG}{te:TE}{own:List Str}{js:List Nat}{σ:L2.St}{H1:Hp}{Q:VK}
end
theorem TieL.get {H:Hp}{ys:List V}{us:List Tie}{i:Nat}{x:V}(h:TieL H ys us)(e:ys[i]?=some x):∃ a,x=.ref a/\H a=some (.tup ((tieI (us.getD i (0,0,0))).map V.int)):=by
 induction h generalizing i with
 | nil=>simp at e
 | @cons y0 _ _ _ r t ih =>
  cases i with
  | zero =>
   let q:y0=x:=by simpa using e
   rw[← q];exact r
  | succ i=>exact ih (i:=i) (by simpa using e)
section
variable {X:Cx}{own fr:List Str}{scope:Scope}{fp:List o7}{pins:List (o7 × Obj)}{s3:i6}{H3:Hp}{pos:Pos}
theorem dJ {es:List uc7}{k:Nat}{t:TGs}{n:Nat}(hc:X.calm=true)(h:PGs ‹33› es t)
  (hn:(assignEach es ‹33›.env).length=n:=by rfl) (hst:(assignEach es ‹33›.env).findIdx? (·.1)=none:=by rfl):PG ‹33› (.Tuple es k pos) (gTup X.K n t) :=
 cI (X:=cxComp X own fr scope fp pins s3 H3) hc h hn hst
theorem oU:IxR ‹33› (rIxL X.K):=aY (X:=cxComp X own fr scope fp pins s3 H3)
theorem cH:IxR ‹33› (rIxT X.K):=aR (X:=cxComp X own fr scope fp pins s3 H3)
theorem mC:OpR ‹33› (compareOp .In) (rIn X.K false):=yV (X:=cxComp X own fr scope fp pins s3 H3)
theorem uH:OpR ‹33› (compareOp .NotIn) (rIn X.K true):=uZ (X:=cxComp X own fr scope fp pins s3 H3)
end
def KeepOk (m:Nat)(ks:List Nat):Prop:=ks.Pairwise (·<·)/\∀ k∈ks,k<m
def keepI (ks:List Nat):List Int:=ks.map λ k:Nat=>(k:Int)
def keepD (ks:List Nat):ubo:=.tuple ((keepI ks).map .int)
theorem KeepOk.len {m:Nat}{ks:List Nat}(h:KeepOk m ks):ks.length<=m:=by
 let U:∀ (ks:List Nat)(lo m:Nat),ks.Pairwise (·<·)->(∀ k∈ks,lo<=k/\k<m)->ks.length+lo<=max m lo:=by
  intro ks;induction ks with
  | nil=>intro lo m _ _;simp;left
  | cons k r ih =>
   intro lo m F q;let h1:=q k l9;let:=ih (k+1) m (uea.mp F).2 λ j z=>⟨(uea.mp F).1 j z,(q j (j8 _ z)).2⟩;rw[uas];left
 let:=U ks 0 m h.1 λ k O=>⟨uae _,h.2 k O⟩;left
theorem bY {K:b8}{H:Hp}{n:Int}{ts:List Tie}{v:V}(h:Is K H (webD n ts) v):∃ (p g:o7)(ws:List V),v=.ref p/\H p=some (.tup [.int n,.ref g])/\H g=some (.tup ws)/\IsAll K H (ts.map tieD) ws/\ws.length=ts.length:=by
 obtain⟨p,vs,rfl,hp,v1,r1,rfl,U,v2,r2,rfl,⟨g,ws,rfl,O,q⟩,e3⟩:=h;let F:v1=.int n:=U;let z:r2=[]:=e3;subst F z;exact⟨p,g,ws,rfl,hp,O,q,by let:=q.length;rw[c9] at this;exact this⟩
end L3
namespace Z3
open PySem
section
variable {prog:o9}{w:uaw}{A:uax}{E:i5->i6->Prop}{s:i6}
theorem zbh (t:Bool)(l:o7)(xs:Array i5) :
  Meets (Builtin.«enumerate.__new__» ⟨[.type "enumerate",.ref l],[]⟩) (λ _ R s=>SqAt t s.heap l xs /\
   R (.ok (.ret (.ref ‹125›.objs.size))) { s with heap:=‹125›.push { cls:=.type "enumerate",data:=.fields #[.none,.bool false,.ref ‹128›,rawInt 0,.none,.none] } }) :=
 .of_wp λ prog w A R s h=>by
  obtain⟨z,g,d,tk,os⟩:=s;obtain⟨hl,h⟩:=h;let U:=sub_enumerate;let O:SqAt t (Shared.heap ⟨z,g,d,tk,os⟩) l xs:=hl;obtain⟨o,F⟩:∃ o,z.get? l=some o:=by
   cases t with
   | true=>obtain⟨o,q,_⟩:=(show z.IsTuple l xs from hl);exact⟨o,q⟩
   | false=>obtain⟨o,q,_⟩:=(show z.IsList l xs from hl);exact⟨o,q⟩
  wp_walk using AutoSeq1.wpAny_loadPart' F
  exact wpAny_stack_any λ st=>?_;exact c7 ?_;split
  ·rename_i c _ _ _ _ _;rcases (c==Value.type "enumerate") with _ | _
   ·wp_walk using AutoSeq1.wpAny_loadPart' F,dM O
    exact⟨A,h⟩
   ·wp_walk using AutoSeq1.wpAny_loadPart' F,dM O
    exact⟨A,h⟩
  ·wp_walk using AutoSeq1.wpAny_loadPart' F,dM O
   exact⟨A,h⟩
theorem zaa {t:Bool}{l:o7}{xs:Array i5}{Q:i5->i6->Prop}(hl:SqAt t s.heap l xs)
  (h:∀ h',IsEnum h' ‹66› ‹128› ((0:Nat):Int) .none->ItAt t h' ‹128› l 0->h'.objs.size=‹128›+2->(∀ b o,s.heap.get? b=some o->h'.get? b=some o)->Q (.ref ‹66›) { s with heap:=h' }) :
  j7 (v4 prog w) A (call (.type "enumerate") [.ref l]) Q E s:=by
 exact uhi F.called_enumerate (by decide) (F.typeCall_enumerate_1 _) (F.newCall_enumerate_1 _) (λ obj=>F.args_object_init_2 obj _) F.entry_enumerate_new (zbh t l xs) ⟨hl,?_⟩;let O:‹125›.objs.size=‹128›+1:=uan ..;let U:ItAt t (‹125›.push { cls:=.type "enumerate",data:=.fields #[.none,.bool false,.ref ‹128›,rawInt 0,.none,.none] }) ‹128› l 0:=(ItAt.new (t:=t) (h:=s.heap) (l:=l)).to λ o e=>a9 _ e;let z:(‹125›.push { cls:=.type "enumerate",data:=.fields #[.none,.bool false,.ref ‹128›,rawInt 0,.none,.none] }).get? ‹125›.objs.size=some _:=i9 _ rfl;show _/\_;rw[O] at z ⊢;exact⟨⟨_,z,rfl⟩,h _ z U (by rw[uan,O]) λ b o q=>a9 _ (a9 _ q)⟩
theorem zQ {t:Bool}{e it l:o7}{i:Nat}{xs:Array i5}{x old:i5}{Q:i5->i6->Prop}(he:IsEnum s.heap e it i old)(hi:ItAt t s.heap it l i)(hl:SqAt t s.heap l xs)(hx:xs[i]?=some x)(ne:e≠it)
  (hQ:∀ h',IsEnumOut h' e it ((i:Int)+1) x ‹128›->ItAt t h' it l (i+1)->h'.get? ‹128›=some { cls:=.type "tuple",data:=.seq #[.int i s.toks,x] }->h'.objs.size=‹128›+1 ->
   (∀ b o,b≠e->b≠it->s.heap.get? b=some o->h'.get? b=some o)->Q ‹32› { s with heap:=h',toks:=s.toks+1 }) :
  j7 (v4 prog w) A (Builtin.«enumerate.__next__» ⟨[.ref e],[]⟩) (λ fin s'=>∃ v,fin=.done (.ret v)/\Q v s') E s:=by
 obtain⟨F,g,d,tk,U⟩:=s;show j7 _ _ (field (.ref e) 2 >>= _) _ _ _;exact a7 (v7 he rfl (x:=.ref it) rfl (a7 (cZ hi hl hx λ O i1 s1=>?_)));replace s1:Heap.SameBut it F O:=s1;let q1:IsEnum O e it i old:=(s1.2 e ne).trans he;show j7 _ _ (field (.ref e) 3 >>= _) _ _ ⟨O,g,d,tk,U⟩;exact a7 (v7 q1 rfl (x:=rawInt i) rfl ?_);show j7 _ _ (field (.ref e) 4 >>= _) _ _ ⟨O,g,d,tk,U⟩;exact a7 (v7 q1 rfl (x:=.none) rfl ?_);show j7 _ _ (mkInt i >>= _) _ _ ⟨O,g,d,tk,U⟩;exact a7 (wpAny_mkInt ?_);show j7 _ _ (setField (.ref e) 3 (rawInt ((i:Int)+1)) >>= _) _ _ ⟨O,g,d,tk+1,U⟩;exact a7 (x9 q1 (by simp) λ k2 q2 s2=>?_);replace s2:Heap.SameBut e O k2:=s2;replace q2:IsEnum k2 e it ((i:Int)+1) old:=q2;show j7 _ _ (setField (.ref e) 4 .none >>= _) _ _ ⟨k2,g,d,tk+1,U⟩;exact a7 (x9 q2 (by simp) λ k3 q3 s3=>?_);replace s3:Heap.SameBut e k2 k3:=s3;replace q3:IsEnum k3 e it ((i:Int)+1) old:=q3;show j7 _ _ (newTuple [.int i tk,x] >>= _) _ _ ⟨k3,g,d,tk+1,U⟩;exact a7 (uev ?_);let q4:IsEnum (k3.push { cls:=.type "tuple",data:=.seq #[.int i tk,x] }) e it ((i:Int)+1) old:=a9 _ q3;generalize z:k3.push { cls:=.type "tuple",data:=.seq #[.int i tk,x] }=k4 at q4;let sz:k3.objs.size=F.objs.size:=by rw[s3.1,s2.1,s1.1]
 have lt:e<F.objs.size:=j5 he;have t4:k4.get? F.objs.size=some { cls:=.type "tuple",data:=.seq #[.int i tk,x] }:=by rw[← z,← sz];exact i9 _ rfl
 have z4:k4.objs.size=F.objs.size+1:=by rw[← z,uan,sz]
 let aa:∀ b o,b≠e->b≠it->F.get? b=some o->k4.get? b=some o:=λ b o n1 n2 q=>by
  rw[← z];exact a9 _ (s3.extBut b o n1 (s2.extBut b o n1 (s1.extBut b o n2 q)))
 let i4:ItAt t k4 it l (i+1):=i1.to λ o q=>by
  rw[← z];exact a9 _ (s3.extBut _ _ ne.symm (s2.extBut _ _ ne.symm q))
 show j7 _ _ (Builtin.SmallTypes.ownedTupleIsFree (.ref e) >>= _) _ _ ⟨k4,g,d,tk+1,U⟩;rw[sz];clear z q3 s3 q2 s2 q1 s1 i1 sz k3 k2 O;exact a7 ?_;unfold Builtin.SmallTypes.ownedTupleIsFree;exact a7 (v7 q4 rfl (x:=.none) rfl (c7 ?_));simp only [if_true];exact a7 (uca (a7 (v7 q4 rfl (x:=old) rfl (a7 (x9 q4 (by simp) λ k5 q5 s5=>?_)))));replace s5:Heap.SameBut e k4 k5:=s5;replace q5:IsEnum k5 e it ((i:Int)+1) x:=q5;show j7 _ _ (Builtin.SmallTypes.ownedTupleHandOut (.ref e) (.ref F.objs.size) >>= _) _ _ ⟨k5,g,d,tk+1,U⟩;exact a7 ?_;unfold Builtin.SmallTypes.ownedTupleHandOut;exact a7 (x9 q5 (by simp) λ k6 q6 s6=>?_);replace s6:Heap.SameBut e k5 k6:=s6;replace q6:IsEnumOut k6 e it ((i:Int)+1) x F.objs.size:=q6;exact x9 q6 (by simp) λ k7 q7 s7=>?_;replace s7:Heap.SameBut e k6 k7:=s7;replace q7:IsEnumOut k7 e it ((i:Int)+1) x F.objs.size:=q7;let up:∀ b o,b≠e->k4.get? b=some o->k7.get? b=some o:=λ b o n q=>s7.extBut b o n (s6.extBut b o n (s5.extBut b o n q));exact a7 (udg (c7 ⟨A,hQ k7 q7 (i4.to λ o q=>up _ o ne.symm q) (up _ _ (ub9 lt) t4) (by rw[s7.1,s6.1,s5.1,z4]) λ b o n1 n2 q=>up b o n1 (aa b o n1 n2 q)⟩))
theorem tX {t:Bool}{e it l:o7}{i:Nat}{xs:Array i5}{x old:i5}{Q:Option i5->i6->Prop}(he:IsEnum s.heap e it i old)(hi:ItAt t s.heap it l i)(hl:SqAt t s.heap l xs)(hx:xs[i]?=some x)(ne:e≠it)
  (hQ:∀ h',IsEnumOut h' e it ((i:Int)+1) x ‹128›->ItAt t h' it l (i+1)->h'.get? ‹128›=some { cls:=.type "tuple",data:=.seq #[.int i s.toks,x] }->h'.objs.size=‹128›+1 ->
   (∀ b o,b≠e->b≠it->s.heap.get? b=some o->h'.get? b=some o)->Q (some ‹32›) { s with heap:=h',toks:=s.toks+1 }) :
  j7 (v4 prog w) A (pyNext (.ref e)) Q E s:=by
 let ty:s.TypeIs (.ref e) "enumerate":=⟨_,he,rfl⟩;unfold pyNext;exact a7 (ucm (v9 (name := uai "__next__") ty ueo (uaf ueo ty F.entry_enumerate_next
     (zQ he hi hl hx ne λ h' a b c d k=>c7 (hQ h' a b c d k)) (F.args_enumerate_next_1 _))))
theorem tW {t:Bool}{e it l:o7}{i:Nat}{xs:Array i5}{old:i5}{Q:Option i5->i6->Prop}(hh:A.handled=none)(he:IsEnum s.heap e it i old)(hi:ItAt t s.heap it l i)(hl:SqAt t s.heap l xs)(hx:xs[i]?=none)
  (hQ:∀ h',ugf it s.heap h'->Q none { s with heap:=h' }):j7 (v4 prog w) A (pyNext (.ref e)) Q E s:=by
 let ty:s.TypeIs (.ref e) "enumerate":=⟨_,he,rfl⟩;unfold pyNext;exact a7 (ucm (v9 (name:=uai "__next__") ty ueo (uaf ueo ty F.entry_enumerate_next ?_ (F.args_enumerate_next_1 _))));show j7 _ _ (field (.ref e) 2 >>= _) _ _ _;exact a7 (v7 he rfl (x:=.ref it) rfl (a7 (dW hh hi hl hx λ h' x k ⟨o,q,p2⟩=>?_)));exact a7 (ub3 (T:="StopIteration") (b:=true) ⟨o,q,p2⟩ uew (c7 (hQ _ k)))
end
end Z3
namespace L3
open PySem PySem.Spec PyProof.Rows L2
def Itn (t:Bool)(K:b8)(l:o7):It :=
 ⟨λ i H=>∃ xs x,SqX t K H l xs/\xs[i]?=some x,
  λ i H v H'=>∃ T x,H T=none/\v=.ref T/\H'=upd H T (.tup [.int (i:Nat),x])/\(∀ xs,SqX t K H l xs->xs[i]?=some x),
  λ i H=>∃ xs,SqX t K H l xs/\xs.length<=i⟩
theorem yD {P:o9}{w:uaw}{K:b8}{elts:List uc7}{kk:Nat}{pos:Pos}{t:Bool}{e it l:o7}(n1:e≠it)(n2:l≠e)(n3:l≠it) :
  Turn P w K (.Tuple elts kk pos) (Itn t K l) [e,it] e (λ i h=>(∃ old,IsEnum h e it (i:Int) old)/\Z3.ItAt t h it l i) where
 mem:=by simp
 obj:=λ i h st b F=>by
  obtain⟨⟨old,O⟩,q2⟩:=st;obtain⟨o2,m2,e2,_,d2⟩:=q2.obj;simp only [j4,l7,or_false] at F;rcases F with rfl | rfl
  ·exact⟨_,O,λ v q=>by cases q⟩
  ·exact⟨_,e2,λ v q=>by rw[d2] at q;cases q⟩
 keep:=λ i h h' st k=>by
  obtain⟨⟨old,O⟩,q2⟩:=st;exact⟨⟨old,k e (by simp) _ O⟩,q2.to λ o z=>k it (by simp) o z⟩
 item:=by
  intro X hP hw hK hc i pins s σ H E I hf st hg;subst hP hw hK;obtain⟨xs,x,O,hx⟩:=hg;obtain⟨⟨old,en⟩,ia⟩:=st;obtain⟨aa,r1,p1,z1⟩:=seqX I O;obtain⟨u1,ae,ab⟩:=r1.get hx;exact Z3.tX en ia p1 (x:=u1) (by simpa using ae) n1 λ h' eo ac tp sz kp=>?_;let I1 : Inv X pins σ (upd H ‹128› (.tup [.int (i : Nat), x])) { s with heap := h', toks := s.toks+1 } := turnsTup (ch := [e, it]) (its := [.int i s.toks, u1]) I hf (λ b o F z => by
      simp only [j4,l7,or_false,not_or] at F;exact kp b o F.1 F.2 z) (i8 _) (by show 2<=p8;rw[ubn];decide) (.cons ⟨_,rfl⟩ (.cons ab .nil)) ⟨_,tp,rfl,⟨_,rfl⟩,rfl⟩
  let fr:H ‹128›=none:=I.fresh;let elt:e<‹128›:=j5 en;let ad:it<‹128›:=by obtain⟨o2,m2,e2,_⟩:=ia.obj;exact j5 e2
  let U:∀ b∈[e,it],b≠‹128›:=λ b F=>by
   simp only [j4,l7,or_false] at F;rcases F with rfl | rfl
   ·exact k8 elt
   ·exact k8 ad
  exact⟨A,wpAny_letOwnedTupleGo_enum eo λ h2 af sb=>?_⟩;obtain⟨f0,f1,f2,f3,f4,f5⟩:=hf e (by simp);let I2:Inv X pins σ (upd H ‹128› (.tup [.int (i:Nat),x])) { s with heap:=h2,toks:=s.toks+1 }:=Inv.turned (s:={ s with heap:=h',toks:=s.toks+1 }) (it:=e) (t':=s.toks+1) I1 (λ b o F z=>sb.extBut b o F z) (by rw[aL (U e (by simp))];exact f0) f1 f3 f4 f5;exact⟨.ref ‹128›,_,I2,rfl,⟨_,x,fr,M,λ zs hz=>by rw[fH I hz O];exact hx⟩,?_,λ b F=>by rw[aL (U b F)];exact (hf b F).1⟩;exact⟨⟨_,by simpa using af⟩,ac.to λ o z=>sb.extBut _ _ n1.symm z⟩
 done:=by
  intro X hP hw hK hc i pins s σ H E I hf st hg;subst hP hw hK;obtain⟨xs,O,hx⟩:=hg;obtain⟨⟨old,en⟩,ia⟩:=st;obtain⟨aa,r1,p1,z1⟩:=seqX I O;let l1:=r1.length;exact Z3.tW (I.ok.hd hc) en ia p1 (by simp;left) λ h' kp=>⟨rfl,?_⟩;exact turns (ch:=[e,it]) (t':=s.toks) I hf λ b o F z=>by
   simp only [j4,l7,or_false,not_or] at F;exact kp b o F.2 z
 self:=λ _ _ _ _ _ st h=>by
  obtain⟨⟨old,en⟩,_⟩:=st;exact wpAny_pyIter_enum en h
def iEnum (t:Bool)(K:b8)(ta:TA):TI:=λ σ H R=>ta σ H λ vs H1=>∃ l,vs=[.ref l]/\(∃ xs,SqX t K H1 l xs)/\R (Itn t K l) H1
theorem jW {X:Cx}{elts:List uc7}{kk:Nat}{pos':Pos}(t:Bool){a:uc7}{ta:TA}{p pos:Pos}(hg:Gl X "enumerate")(hm:X.mg "enumerate"=none)(ha:PA X [a] ta)
  (hs:ubi [a] X.env=[(false,eval a X.env)]:=by rfl) (hs2:ubi [] X.env=[]:=by rfl) :
  PI X (.Tuple elts kk pos') (.Call (.Name "enumerate" p) [a] [] pos) (iEnum t X.K ta):=by
 intro pins s σ H R I h;exact Call_ (cW I hg hm boot_enumerate (ubb (thn ‹77› λ us z ⟨vs,H1,O,r1,q1⟩=>?_) (by rw[hs,hs2]) (by rw[hs2];rfl)));obtain⟨l,e,⟨xs,qx⟩,q⟩:=q1;subst e;obtain⟨u,rfl,rx⟩:=vals1 r1;cases rx;obtain⟨aa,r1,U,z1⟩:=seqX O qx;let lt:l<z.heap.objs.size:=by
  cases t with
  | true=>obtain⟨o,e,_⟩:=(show z.heap.IsTuple l _ from U);exact j5 e
  | false=>obtain⟨o,e,_⟩:=(show z.heap.IsList l _ from U);exact j5 e
 exact Z3.zaa U λ h' en ia sz kp=>wpAny_pyIter_enum en ?_;let I2:Inv X pins σ H1 { z with heap:=h',toks:=z.toks }:=O.kept (t':=z.toks) kp;exact⟨z.heap.objs.size+1,[z.heap.objs.size+1,z.heap.objs.size],P,H1,rfl,I2,yD (Nat.succ_ne_self _) (k8 (ubf lt)) (k8 lt),⟨⟨_,en⟩,ia⟩,λ b hb=>?_,q⟩;let F:z.heap.objs.size<=b:=by
  simp only [j4,l7,or_false] at hb;rcases hb with rfl | rfl
  ·exact udc _
  ·exact i8 _
 exact O.fpOk F (O.hok.fresh F)
end L3
namespace HT
open PySem PyProof.Rows
section
variable {prog:o9}{w:uaw}{A:uax}{E:i5->i6->Prop}{s:i6}
theorem vT {t:o7}{items:Array i5}{Q:Bool->i6->Prop}(ht:IsTup s.heap t items)(h:Q true s):j7 (v4 prog w) A (Builtin.Tuple.tupleIsExact (.ref t)) Q E s:=by
 unfold Builtin.Tuple.tupleIsExact;exact a7 (ucx ht.typeIs (c7 h))
theorem rX {t sl:o7}{items:Array i5}{vl vu:i5}{lo hi:Option Int}{Q:i5->i6->Prop}(ht:IsTup s.heap t items)(hs:s.heap.IsSliceOf sl vl vu .none)(pl:IsPart vl lo)(pu:IsPart vu hi)
  (hw:sIx items.size 0 lo=0/\sIx items.size items.size hi=items.size) (h:Q (.ref t) s):j7 (v4 prog w) A (getItem (.ref t) (.ref sl)) Q E s:=by
 obtain⟨O,q,z,U⟩:=id hs;let ty:s.TypeIs (.ref sl) "slice":=⟨O,q,z⟩;unfold getItem
 try with_reducible exact uak ?_
 first | exact a7 (c7 ?_) | skip
 exact a7 (uf1 ht.typeIs (by decide) (a7 (v9 (name:=uai "__getitem__") ht.typeIs uam
  (uaf uam ht.typeIs entry_tuple_getitem ?_ (args_tuple_getitem _ _)))))
 show j7 _ _ ‹102› _ _ s;exact a7 (tupleItemsOf_ ht (a7 (ucx ty ?_)));rw[uh2 (by decide)];exact a7 (lE hs pl pu ?_);let F:‹36›=true:=by
  rw[hw.1,hw.2];simp
 show j7 _ _ (if ‹36›=true then _ else _) _ _ s;rw[uh2 F];exact a7 (vT ht ?_);rw[uh2 rfl];exact a7 (uca (a7 (c7 ‹70›)))
theorem jA (xs:List i5):((d8 xs.length).filterMap λ (m:Nat)=>xs.toArray[((xs.length:Int)-1+(m:Int)*(-1)).toNat]?)=xs.reverse:=by
 exact ucd λ i=>?_;let q:∀ (n:Nat),n<=xs.length->((d8 n).filterMap λ (m:Nat)=>xs.toArray[((xs.length:Int)-1+(m:Int)*(-1)).toNat]?)=xs.reverse.take n:=by
  intro n;induction n with
  | zero=>intro _;simp
  | succ n ih =>
   intro z;rw[ubx,uc4,ih (by left),udo];congr 1;let e:((xs.length:Int)-1+(n:Int)*(-1)).toNat=xs.length-1-n:=by left
   let e2:xs.reverse[n]?=xs[xs.length-1-n]?:=List.getElem?_reverse (by left);let h1:xs.length-1-n<xs.length:=by left
   rw[ucv,e,e2];simp [h1]
 rw[q _ (i8 _),ube (by simp)]
theorem wV {sl:o7}{t:Tok}{n:Nat}{Q:Int × Int × Nat->i6->Prop}(hs:s.heap.IsSliceOf sl .none .none (.int (-1) t))(h:Q ((n:Int)-1,-1,n) s) :
  j7 (v4 prog w) A ‹117› Q E s:=by
 obtain⟨O,q,F,z⟩:=id hs;unfold Builtin.Slice.sliceApplied Builtin.Slice.sliceFields;exact a7 (a7 (v7 q z (x:=.none) rfl (a7 (v7 q z (x:=.none) rfl (a7 (v7 q z (x:=.int (-1) t) rfl (c7 ?_)))))));exact a7 (slicePart_int ?_);show j7 _ _ (if ((-1:Int)==0)=true then _ else _) _ _ s;rw[uh3 (by decide)];exact a7 (slicePart_none (a7 (slicePart_none (a7 (c7 ?_)))));let e:Builtin.Slice.slicePlaces ((n:Int)-1) (-1) (-1)=n:=by
  unfold Builtin.Slice.slicePlaces;rw[uh3 (by decide)];split
  ·let:((n:Int)-1 - -1-1) / (- -1)+1=(n:Int):=by
    rw[show (- -1:Int)=1 by decide,Int.ediv_one];left
   rw[this];exact uav n
  ·let:n=0:=by left
   subst this;rfl
 show j7 _ _ (pure ((n:Int)-1,(-1:Int),Builtin.Slice.slicePlaces ((n:Int)-1) (-1) (-1))) _ _ s;rw[e];exact c7 h
theorem kZ {t sl:o7}{its:List i5}{u:Tok}{Q:i5->i6->Prop}(ht:IsTup s.heap t its.toArray)(hs:s.heap.IsSliceOf sl .none .none (.int (-1) u))
  (h:Q ‹32› { s with heap:=s.heap.push { cls:=.type "tuple",data:=.seq its.reverse.toArray } }) (hsz:its.length<=p8):j7 (v4 prog w) A (getItem (.ref t) (.ref sl)) Q E s:=by
 let q:sizeOk (.seq its.reverse.toArray):=by
  show its.reverse.toArray.size<=p8;rw[k9,ud2];exact hsz
 obtain⟨O,z,F,U⟩:=id hs;let ty:s.TypeIs (.ref sl) "slice":=⟨O,z,F⟩;unfold getItem
 try with_reducible exact uak ?_
 first | exact a7 (c7 ?_) | skip
 exact a7 (uf1 ht.typeIs (by decide) (a7 (v9 (name:=uai "__getitem__") ht.typeIs uam
  (uaf uam ht.typeIs entry_tuple_getitem ?_ (args_tuple_getitem _ _)))))
 show j7 _ _ ‹102› _ _ s;exact a7 (tupleItemsOf_ ht (a7 (ucx ty ?_)));rw[uh2 (by decide)];let en:its.toArray.size=its.length:=k9;rw[en];exact a7 (wV hs ?_);show j7 _ _ (if (((its.length:Int)-1)==0&&(-1:Int)==1&&its.length==its.length)=true then _ else _) _ _ s;rw[uh3 (by simp),jA]
 first
  | exact a7 (m:=Builtin.Tuple.tupleExact _) (uac ‹70› q)
  | exact a7 (m:=Builtin.Tuple.tupleExact _) (uac (a7 (c7 ‹70›)) q)
  | exact a7 (a7 (m:=Builtin.Tuple.tupleExact _) (uac (c7 ‹70›) q))
  | exact a7 (a7 (m:=Builtin.Tuple.tupleExact _) (uac ‹70› q))
theorem zdb {t b:o7}{ws:List i5}{Q:i5->i6->Prop}(ht:IsTup s.heap t ([]:List i5).toArray)(hb:IsTup s.heap b ws.toArray)(h:Q (.ref b) s):j7 (v4 prog w) A (binaryOp .Add (.ref t) (.ref b)) Q E s:=by
 obtain⟨⟨ad,dd,ab,sl⟩,ho,hc,n,hd⟩:=id ht;obtain⟨⟨ac,aa,O,U⟩,F,z,n2,q⟩:=id hb;simp only at hc hd z q;subst hc hd z q;exact concat_meets ⟨_,ho,rfl⟩ ⟨_,F,rfl⟩ uhp seq_tuple_add ufo ufi (ue7 _ _) (tuple_addW0 t b _ ws.toArray n n2 dd aa sl U rfl) ⟨ho,F,h⟩
end
end HT
namespace L3
open PySem PySem.Spec PyProof.Rows L2
section
variable {X:Cx}{pins:List (o7 × Obj)}{σ:L2.St}{H:Hp}{s:i6}{e:uc7}{te:TE}{pos p2:Pos}
theorem zbn {xs:List V}{lo hi:Option Int}(h:HT.sIx xs.length 0 lo=0/\HT.sIx xs.length xs.length hi=xs.length):cutV xs lo hi=xs:=by
 unfold cutV;rw[h.1,h.2];simp
inductive rSlA_i  (x:V) (lo:Option Int) (hi:Option Int) (H:Hp) (Q:VK):Prop
 | mk:∀ a xs,(x=.ref a)->(H a=some (.tup xs))->(∀ p H',Same H H'->H' p=some (.tup (cutV xs lo hi))->Q (.ref p) H')->rSlA_i x lo hi H Q
def rSlA :V->Option Int->Option Int->Hp->VK->Prop:=λ x lo hi H Q=>rSlA_i x lo hi H Q
theorem bG:SlR X rSlA:=by
 intro pins s σ H x v vl vu lo hi sl Q I rx hs U O h;obtain⟨a,xs,rfl,F,q⟩:=h;by_cases c:HT.sIx xs.length 0 lo=0/\HT.sIx xs.length xs.length hi=xs.length
 ·cases rx;obtain⟨its,r,ht,hz⟩:=I.tuple (SqT.of F);let z:its.toArray.size=xs.length:=by rw[k9];exact r.length.symm
  exact⟨"tuple",_,uam.lookup,ht.typeIs,HT.rX ht hs U O (by rw[z];exact c) ⟨.ref a,H,I,rfl,q _ _ (Same.refl H) (by rw[zbn c];exact F)⟩⟩
 ·exact zdo (X:=X) pins s σ H (.ref a) v vl vu lo hi sl Q I rx hs U O ⟨a,xs,rfl,SqT.of F,c,λ p hp=>q p _ (aU hp) aM⟩
inductive rCatA_i  (x:V) (y:V) (H:Hp) (Q:VK):Prop
 | mk:∀ a b xs ys,(x=.ref a)->(y=.ref b)->(H a=some (.tup xs))->(H b=some (.tup ys))->(xs.length+ys.length<=p8)->(∀ p H',Same H H'->H' p=some (.tup (xs++ys))->Q (.ref p) H')->rCatA_i x y H Q
def rCatA :R2:=λ x y H Q=>rCatA_i x y H Q
theorem bZ:OpR X (binaryOp .Add) rCatA:=by
 intro pins s σ H x y v u Q I U O h;obtain⟨a,b,xs,ys,rfl,rfl,F,z,hz,q⟩:=h;by_cases c:xs=[]
 ·subst c;cases U;cases O;obtain⟨its,r1,p1,_⟩:=I.tuple (SqT.of F);obtain⟨aa,r2,p2,_⟩:=I.tuple (SqT.of z);cases r1;exact HT.zdb p1 p2 ⟨.ref b,H,I,rfl,q _ _ (Same.refl H) z⟩
 ·exact zcp (X:=X) pins s σ H _ _ v u Q I U O ⟨a,b,xs,ys,M,SqT.of F,SqT.of z,c,hz,λ e=>q _ _ (Same.refl H) (by rw[e,uc5];exact F),λ _ p hp=>q p _ (aU hp) aM⟩
end
theorem iteB2 {b:Bool}{A B:Prop}(h1:b=true->B)(h2:b=false->A):if (!b)=true then A else B:=by
 cases b with
 | true=>exact h1 rfl
 | false=>exact h2 rfl
def numB (m:Nat):ubo->Bool
 | .int i=>decide (0<=i)&&decide (i<(m:Int))
 | _=>false
def intOf:ubo->Int
 | .int i=>i
 | _=>0
def risI (ns:List Int):Bool:=((d8 (min ns.length (ns.drop 1).length)).map λ i=>decide ‹124›).all id
def keepB (m:Nat):ubo->Bool
 | .tuple ds=>ds.all (numB m)&&risI (ds.map intOf)
 | _=>false
inductive spNum_i (K:b8)(vs:List V)(H:Hp)(Q:VK):Prop
 | mk:∀ (n:Int)(ts:List Tie)(d:ubo)(v u:V),(vs=[v,u])->(Is K H (webD n ts) v)->(Is K H d u)->(∀ H',Same H H'->Q (.bl (numB ts.length d)) H')->spNum_i K vs H Q
def spNum (K:b8):Sp:=λ vs H Q _=>spNum_i K vs H Q
inductive spRisI_i  (vs:List V) (H:Hp) (Q:VK):Prop
 | mk:∀ p ns,(vs=[.ref p])->(H p=some (.tup ‹67›))->(ns.length<=1000)->(∀ H',Same H H'->Q (.bl (risI ns)) H')->spRisI_i vs H Q
def spRisI :Sp:=λ vs H Q _=>spRisI_i vs H Q
inductive spIsKeep_i (K:b8)(vs:List V)(H:Hp)(Q:VK):Prop
 | mk:∀ (n:Int)(ts:List Tie)(d:ubo)(v u:V),(vs=[v,u])->(Is K H (webD n ts) v)->(Is K H d u)->(few d)->(∀ H',Same H H'->Q (.bl (keepB ts.length d)) H')->spIsKeep_i K vs H Q
def spIsKeep (K:b8):Sp:=λ vs H Q _=>spIsKeep_i K vs H Q
theorem oJ (ns:List Int):risI ns=true↔ns.Pairwise (·<·):=by
 let step:risI ns=true↔∀ i (h:i+1<ns.length),ns[i]<ns[i+1]:=by
  unfold risI;rw[uck,v8];constructor
  ·intro h i hi;let:=h i (m8.mpr (by rw[m9];left));let F:ns.getD i 0=ns[i]:=by simp [ub2,show i<ns.length by left]
   let e2:(ns.drop 1).getD i 0=ns[i+1]:=by simp [ub2,hi,ufb 1 i]
   let q:decide ‹124›=true:=this;rw[F,e2] at q;exact uh0 q
  ·intro h i hi;let O:=m8.mp hi;rw[m9] at O;let h1:i+1<ns.length:=by left
   let F:ns.getD i 0=ns[i]:=by simp [ub2,show i<ns.length by left]
   let e2:(ns.drop 1).getD i 0=ns[i+1]:=by simp [ub2,h1,ufb 1 i]
   show decide ‹124›=true;rw[F,e2];exact uhz (h i h1)
 rw[step,ucf];constructor
 ·intro h i j hi hj U;let:∀ k (z:i+1+k<ns.length),ns[i]<ns[i+1+k]:=by
   intro k;induction k with
   | zero=>intro z;exact h i z
   | succ k ih=>intro z;exact Int.lt_trans (ih (by left)) (h (i+1+k) z)
  let:=this (j-i-1) (by left);let e:i+1+(j-i-1)=j:=by left
  simpa only [e] using this
 ·intro h i hi;exact h i (i+1) (by left) hi (by left)
theorem iC {ds:List ubo}(h:∀ d∈ds,∃ i,d=.int i):ds=(ds.map intOf).map .int:=by
 rw[ua0]
 conv=>lhs;rw[← uda ds]
 exact ua2 λ d q=>?_;obtain⟨i,rfl⟩:=h d q;rfl
theorem zcr {m:Nat}{d:ubo}(h:numB m d=true):∃ i,d=.int i/\0<=i/\i<m:=by
 cases d with
 | int i =>
  let h':(decide (0<=i)&&decide (i<(m:Int)))=true:=h;rw[m7] at h';exact⟨i,rfl,uh0 h'.1,uh0 h'.2⟩
 | _=>cases h
structure Pre (m:Nat)(ds:List ubo)(i:Nat)(a:Int):Prop where
 num:∀ d∈ds.take i,numB m d=true
 up:((ds.take i).map intOf).Pairwise (·<·)
 top:∀ x∈(ds.take i).map intOf,x<=a
 at_:a=-1\/a∈(ds.take i).map intOf
theorem mN {α:Type}{ds:List α}{i:Nat}{d:α}(e:ds[i]?=some d):ds.take (i+1)=ds.take i++[d]:=by
 rw[udo,e];rfl
def flatD:V->Bool
 | .non | .bl _ | .int _ | .str _=>true
 | _=>false
theorem Pot.same {H H':Hp}{p:o7}(h:Pot H p)(s:Same H H'):Pot H' p:=let ⟨a,b,e,z⟩:=h;⟨a,b,s _ _ e,z⟩
theorem nZ:∀ ts:List Tie,tupAll (ts.map tieD)=true
 | []=>rfl
 | t::r=>by show (tupD (tieD t)&&tupAll (r.map tieD))=true;rw[nZ r];rfl
theorem fM (n:Int)(ts:List Tie):tupD (webD n ts)=true:=by
 show (true&&(tupAll (ts.map tieD)&&true))=true;rw[nZ ts];rfl
end L3
namespace L3
end L3
namespace L3
open PySem PySem.Spec PyProof.Rows L2
theorem lS {a b:TS}{D:Ends}{σ:L2.St}{H:Hp}(h:let B:=b;let E:=D;let S:=σ;tSeq a B E S H):tSeq a b D σ H:=h
theorem lG {g:TG}{x:V}{σ:L2.St}{H:Hp}{t:TS}{D:Ends}(h:let T:=t;let E:=D;g x σ H λ σ2 H2=>T E σ2 H2):g x σ H λ σ2 H2=>t D σ2 H2:=h
theorem lI {c:TT}{a b:TS}{D:Ends}{σ:L2.St}{H:Hp}(h:let A:=a;let B:=b;let E:=D;let S:=σ;tIfS c A B E S H):tIfS c a b D σ H:=h
end L3
local macro_rules|`(tactic|ext)=>`(tactic|try (with_reducible refine L3.lS ?_;intro _ _ _))
namespace HT
open PySem PyProof.Rows
section
open PySem.SeqAt
open PySem.AutoSeq1 (wpAny_loadPart')
open PySem.MeetsSeq PySem.MeetsSeq2 PySem.MeetsSeq3
end
section
variable {prog:o9}{w:uaw}{A:uax}{E:i5->i6->Prop}{s:i6}
end
end HT
namespace L3
open PySem PySem.Spec PyProof.Rows L2
section
variable {X:Cx}
end
def wide:Nat->ubo->Prop
 | 0,_=>True
 | k+1,.tuple ds=>ds.length<=1000/\∀ d∈ds,wide k d
 | k+1,.list ds=>ds.length<=1000/\∀ d∈ds,wide k d
 | _+1,_=>True
def endsD:ubo->Int × Int
 | .tuple [.int a,.int b,.int _]=>(a,b)
 | _=>(0,0)
def tiesB (n:Int):ubo->Bool
 | .tuple ds=>decide (ds.length<=60)&&ds.all (tieB n)&&risingB (ds.map endsD)
 | _=>false
def Gd (H:Hp):Nat->V->Prop
 | 0,v=>flatD v=true
 | k+1,v=>flatD v=true\/(∃ p vs,v=.ref p/\(H p=some (.tup vs)\/H p=some (.lst vs))/\vs.length<=1000/\∀ u∈vs,Gd H k u)\/(∃ p,v=.ref p/\H p=some (.dK []))
def lt2 (e f:Int × Int):Prop:=e.1<f.1\/(e.1=f.1/\e.2<f.2)
theorem oQ (e f:Int × Int):HT.lexLt (e2 e) (e2 f)=true↔lt2 e f:=by
 show (if e.1=f.1 then (if e.2=f.2 then false else decide (e.2<f.2)) else decide (e.1<f.1))=true↔_;unfold lt2;by_cases h:e.1=f.1
 ·rw[uh2 h];by_cases h2:e.2=f.2
  ·rw[uh2 h2];simp;left
  ·rw[uh3 h2,decide_eq_true_eq];left
 ·rw[uh3 h,decide_eq_true_eq];left
theorem lt2.trans {e f g:Int × Int}(h:lt2 e f)(k:lt2 f g):lt2 e g:=by unfold lt2 at *;left
structure PreT (n:Int)(ds:List ubo)(i:Nat)(a:Int × Int):Prop where
 tie:∀ d∈ds.take i,tieB n d=true
 up:((ds.take i).map endsD).Pairwise lt2
 top:∀ x∈(ds.take i).map endsD,x=a\/lt2 x a
 at_:a=(-1,-1)\/a∈(ds.take i).map endsD
section
variable {X:Cx}{es:List uc7}{t:TA}{pos:Pos}
def tTupG (t:TA):TE:=λ σ H Q=>t σ H λ xs H1=>xs.length<=1000/\∀ p H',Same H1 H'->H1 p=none->H' p=some (.tup xs)->Q (.ref p) H'
def tLstG (t:TA):TE:=λ σ H Q=>t σ H λ xs H1=>xs.length<=1000/\∀ p H',Same H1 H'->H1 p=none->H' p=some (.lst xs)->Q (.ref p) H'
theorem bC {x1} (h:PA X es t):PE X (.Tuple es x1 pos) (tTupG t):=by
 intro pins s σ H Q I hq;refine wpAny_Tuple_spliced (thn (h pos pins s σ H _ I hq) λ us F ⟨xs,J,O,r,z,q⟩=>?_);have U:xs.length<=p8:=uaj z (by decide);have fr:J F.heap.objs.size=none:=O.hok.fresh (i8 _);refine⟨by rw[← r.length];exact U,.ref F.heap.objs.size,upd J F.heap.objs.size (.tup xs),O.laid (t':=F.toks) (λ b u e=>a9 _ e) (i8 _) ⟨U,us,r,⟨_,i9 _ rfl,rfl,⟨_,rfl⟩,rfl⟩⟩,rfl,q _ _ (aU fr) fr aM⟩
theorem bP (h:PA X es t):PE X (.List es pos) (tLstG t):=by
 intro pins s σ H Q I hq;refine wpAny_List_spliced (thn (h pos pins s σ H _ I hq) λ us F ⟨xs,J,O,r,z,q⟩=>?_);have U:xs.length<=p8:=uaj z (by decide);have fr:J F.heap.objs.size=none:=O.hok.fresh (i8 _);refine⟨by rw[← r.length];exact U,.ref F.heap.objs.size,upd J F.heap.objs.size (.lst xs),O.laid (t':=F.toks) (λ b u e=>a9 _ e) (i8 _) ⟨U,us,0,r,i9 _ rfl⟩,rfl,q _ _ (aU fr) fr aM⟩
inductive rAppendG_i  (x:V) (vs:List V) (H:Hp) (Q:VK):Prop
 | mk:∀ l xs y,(x=.ref l)->(vs=[y])->(H l=some (.lst xs))->(xs.length<1000)->(∀ H',But l H H'->H' l=some (.lst (xs++[y]))->Q .non H')->rAppendG_i x vs H Q
def rAppendG :V->List V->Hp->VK->Prop:=λ x vs H Q=>rAppendG_i x vs H Q
theorem gN:MtM X "list.append" rAppendG:=by
 intro pins s σ H x vs v us Q I O z h;obtain⟨l,xs,y,rfl,rfl,F,U,q⟩:=h;exact gR (X:=X) pins s σ H _ _ v us Q I O z ⟨l,xs,y,M,F,u7 U (by decide),q _ But.upd aM⟩
end
def Sm (H:Hp)(t:o7):Prop:=∃ vs:List V,(H t=some (.tup vs)\/H t=some (.lst vs))/\vs.length<=1000/\vs.all flatD=true
def GdF (H:Hp)(xs:List V):Prop:=∀ u∈xs,∃ t,u=.ref t/\Sm H t
def GdL (l:o7)(H:Hp)(xs:List V):Prop:=∀ u∈xs,∃ t,u=.ref t/\t≠l/\Sm H t
section
variable {g:TG}{te:TE}{own:List Str}{js:List Nat}{σ:L2.St}{H1:Hp}{Q:VK}
end
inductive call_tupleG_i  (xs:List V) (H:Hp) (Q:VK):Prop
 | mk:∀ p ys,(xs=[.ref p])->(H p=some (.lst ys))->(∀ l H',Same H H'->H l=none->H' l=some (.tup ys)->Q (.ref l) H')->call_tupleG_i xs H Q
theorem cK {X:Cx}:CallR X (.type "tuple") (call_tupleG_i):=by
 intro pins s σ H xs us Q I r h;obtain⟨p,ys,rfl,z,q⟩:=h;exact lH (X:=X) pins s σ H _ us Q I r ⟨p,ys,rfl,.inl ⟨SqL.of z,λ l hl=>q l _ (aU hl) hl aM⟩⟩
def Row3 (H:Hp)(v:V):Prop:=∃ (t:o7)(x y z:Int),v=.ref t/\H t=some (.tup [.int x,.int y,.int z])
section
variable {X:Cx}
end
end L3
namespace Ts
open PySem PySem.W PyProof.Rows
def gallop':Bool->Keyed->Array Keyed->Nat->Nat->Nat->StateT SortSt Sem (Option Nat):=sortPriv% PySem.Builtin.gallop
section
variable {prog:o9}{w:uaw}{A:uax}{E:i5->i6->Prop}{s:i6}{κ:SortKind}{it:Array Keyed}{N:Nat}{r:Nat->Int}
end
end Ts
namespace Ts
open PySem PySem.W PyProof.Rows
def setMg (g:Nat):StateT SortSt Sem Unit:=modify λ s=>SortSt.mk' (kindOf s) (arrOf s) (pendingOf s) g (failedOf s)
abbrev KA:=Array Keyed
abbrev GS:=Option KA × KA × Nat × Nat × Nat × Nat × Nat
abbrev PS:=Option KA × KA × Nat × Nat × Nat × Nat
abbrev SM:=StateT SortSt Sem
def dn (a b out:KA)(ia ib:Nat):KA:=out++a.extract ia a.size++b.extract ib b.size
def lA (a b out:KA)(ia ib:Nat):KA:=out++b.extract ib b.size++a.extract ia a.size
def j3 (a b:KA)(mg ac bc ia:Nat)(out:KA)(ib:Nat):SM (ForInStep GS):=do
 let x ← elem' a ia
 if (ia+1+1==a.size)=true then pure (.done (some (lA a b (out.push x) (ia+1) ib),out.push x,ia+1,ib,mg,ac,bc))
 else if (decide (ac<7)&&decide (bc<7))=true then pure (.done (none,out.push x,ia+1,ib,mg,ac,bc))
 else pure (.yield (none,out.push x,ia+1,ib,mg,ac,bc))
def j2 (a b:KA)(mg ac bc ib:Nat)(out:KA)(ia:Nat):SM (ForInStep GS):=do
 let x ← elem' b ib
 if (ib+1==b.size)=true then pure (.done (some (dn a b (out.push x) ia (ib+1)),out.push x,ia,ib+1,mg,ac,bc))
 else do
  let y ← elem' a ia;let z ← gallop' true y b (ib+1) (b.size-(ib+1)) 0
  match z with
  | some k => if k>0 then (if (ib+1+k==b.size) = true then pure (.done (some (dn a b (out.push x ++ b.extract (ib+1) (ib+1+k)) ia (ib+1+k)), out.push x ++ b.extract (ib+1) (ib+1+k), ia, ib+1+k, mg, ac, k))
      else j3 a b mg ac k ia (out.push x++b.extract (ib+1) (ib+1+k)) (ib+1+k)) else j3 a b mg ac k ia (out.push x) (ib+1)
  | _=>pure (.done (some (dn a b (out.push x) ia (ib+1)),out.push x,ia,ib+1,mg,ac,bc))
def j1 (a b:KA)(out:KA)(ia ib ac bc mg:Nat):SM (ForInStep GS):=do
 setMg mg
 let x ← elem' b ib;let z ← gallop' false x a ia (a.size-ia) 0
 match z with
 | some k => if k>0 then (if (ia+k+1==a.size) = true then pure (.done (some (lA a b (out ++ a.extract ia (ia+k)) (ia+k) ib), out ++ a.extract ia (ia+k), ia+k, ib, mg, k, bc))
     else if (ia+k==a.size)=true then pure (.done (some (dn a b (out++a.extract ia (ia+k)) (ia+k) ib),out++a.extract ia (ia+k),ia+k,ib,mg,k,bc))
     else j2 a b mg k bc ib (out++a.extract ia (ia+k)) (ia+k)) else j2 a b mg k bc ib out ia
 | _=>pure (.done (some (dn a b out ia ib),out,ia,ib,mg,ac,bc))
def pA (a b:KA)(mg:Nat)(s:PS):SM (ForInStep PS):=do
 let y ← elem' a s.2.2.1
 if (s.2.2.1+1+1==a.size)=true then pure (.done (some (lA a b (s.2.1.push y) (s.2.2.1+1) s.2.2.2.1),s.2.1.push y,s.2.2.1+1,s.2.2.2.1,s.2.2.2.2.1+1,0))
 else if s.2.2.2.2.1+1 ≥ mg then pure (.done (none,s.2.1.push y,s.2.2.1+1,s.2.2.2.1,s.2.2.2.2.1+1,0)) else pure (.yield (none,s.2.1.push y,s.2.2.1+1,s.2.2.2.1,s.2.2.2.2.1+1,0))
end Ts
namespace Ts
open PySem PySem.W PyProof.Rows
def arr (it:KA)(l:List Nat):KA:=l.toArray.map (kas_item it)
section
variable {it:KA}{l m:List Nat}{i j x:Nat}
end
abbrev Sd (r:Nat->Int)(l:List Nat):Prop:=l.Pairwise λ x y=>r x<=r y
structure Mg (r:Nat->Int)(la lb L:List Nat)(ia ib:Nat):Prop where
 ha:ia<=la.length
 hb:ib<=lb.length
 perm:L.Perm (la.take ia++lb.take ib)
 sd:Sd r L
 la:∀ x∈L,∀ y∈la.drop ia,r x<=r y
 lb:∀ x∈L,∀ y∈lb.drop ib,r x<=r y
def Gm (r:Nat->Int)(la lb X:List Nat):Prop:=X.Perm (la++lb)/\Sd r X
section
variable {r:Nat->Int}{la lb L:List Nat}{ia ib k:Nat}
theorem Mg.symm (m:Mg r la lb L ia ib):Mg r lb la L ib ia:=⟨m.hb,m.ha,m.perm.trans List.perm_append_comm,m.sd,m.lb,m.la⟩
theorem Gm.symm {X:List Nat}(g:Gm r lb la X):Gm r la lb X:=⟨g.1.trans List.perm_append_comm,g.2⟩
end
end Ts
namespace Ts
open PySem PySem.W PyProof.Rows
section
variable {prog:o9}{w:uaw}{A:uax}{E:i5->i6->Prop}{s:i6}{κ:SortKind}{it:Array Keyed}{N:Nat}{r:Nat->Int}{la lb:List Nat}{P0:KA}{pd:Array (Nat × Nat × Nat)}
structure Two (N:Nat)(r:Nat->Int)(la lb:List Nat):Prop where
 a1:0<la.length
 b1:0<lb.length
 na:∀ x∈la,x<N
 nb:∀ x∈lb,x<N
 sa:Sd r la
 sb:Sd r lb
 first:r (lb.getD 0 0)<=r (la.getD 0 0)
 last:∀ x∈lb,r x<=r (la.getD (la.length-1) 0)
abbrev SS (κ:SortKind)(P0:KA)(pd:Array (Nat × Nat × Nat))(g:Nat):SortSt:=SortSt.mk' κ P0 pd g none
def Rs (r:Nat->Int)(it:KA)(κ:SortKind)(P0:KA)(pd:Array (Nat × Nat × Nat))(la lb:List Nat)(o:KA)(st:SortSt):Prop:=∃ X g,Gm r la lb X/\o=arr it X/\st=SS κ P0 pd g
variable (t:Two N r la lb)
include t
end
end Ts
namespace Ts
open PySem PySem.W PyProof.Rows
def dH (a b out:KA)(na nb:Nat):KA:=a.extract 0 na++b.extract 0 nb++out.reverse
def fB (a b out:KA)(na nb:Nat):KA:=b.extract 0 nb++a.extract 0 na++out.reverse
abbrev HG:=Option KA × Nat × Nat × KA × Nat × Nat × Nat
def h3 (a b:KA)(mg ac bc na:Nat)(out:KA)(nb:Nat):SM (ForInStep HG):=do
 let x ← elem' a (na-1)
 if (na-1==0)=true then pure (.done (some (dH a b (out.push x) (na-1) nb),na-1,nb,out.push x,mg,ac,bc))
 else if (decide (ac<7)&&decide (bc<7))=true then pure (.done (none,na-1,nb,out.push x,mg,ac,bc))
 else pure (.yield (none,na-1,nb,out.push x,mg,ac,bc))
def h2 (a b:KA)(mg ac bc nb:Nat)(out:KA)(na:Nat):SM (ForInStep HG):=do
 let x ← elem' b (nb-1)
 if (nb-1==1)=true then pure (.done (some (fB a b (out.push x) na (nb-1)),na,nb-1,out.push x,mg,ac,bc))
 else do
  let y ← elem' a (na-1);let z ← gallop' true y b 0 (nb-1) (nb-1-1)
  match z with
  | some k => if nb-1-k>0 then (if (k==1) = true then pure (.done (some (fB a b (out.push x ++ (b.extract k (nb-1)).reverse) na k), na, k, out.push x ++ (b.extract k (nb-1)).reverse, mg, ac, nb-1-k))
      else if (k==0)=true then pure (.done (some (dH a b (out.push x++(b.extract k (nb-1)).reverse) na k),na,k,out.push x++(b.extract k (nb-1)).reverse,mg,ac,nb-1-k))
      else h3 a b mg ac (nb-1-k) na (out.push x++(b.extract k (nb-1)).reverse) k) else h3 a b mg ac (nb-1-k) na (out.push x) (nb-1)
  | _=>pure (.done (some (dH a b (out.push x) na (nb-1)),na,nb-1,out.push x,mg,ac,bc))
def h1 (a b:KA)(na nb:Nat)(out:KA)(ac bc mg:Nat):SM (ForInStep HG):=do
 setMg mg
 let x ← elem' b (nb-1);let z ← gallop' false x a 0 na (na-1)
 match z with
 | some k => if na-k>0 then (if (k==0) = true then pure (.done (some (dH a b (out ++ (a.extract k na).reverse) k nb), k, nb, out ++ (a.extract k na).reverse, mg, na-k, bc))
     else h2 a b mg (na-k) bc nb (out++(a.extract k na).reverse) k) else h2 a b mg (na-k) bc nb out na
 | _=>pure (.done (some (dH a b out na nb),na,nb,out,mg,ac,bc))
section
variable {prog:o9}{w:uaw}{A:uax}{E:i5->i6->Prop}{s:i6}{κ:SortKind}{it:Array Keyed}{N:Nat}{r:Nat->Int}{la lb:List Nat}{P0:KA}{pd:Array (Nat × Nat × Nat)}
abbrev ng (r:Nat->Int)(i:Nat):Int:=- r i
end
end Ts
namespace Ts
open PySem PySem.W PyProof.Rows
section
variable {prog:o9}{w:uaw}{A:uax}{E:i5->i6->Prop}{s:i6}{κ:SortKind}{it:Array Keyed}{N:Nat}{r:Nat->Int}{la lb:List Nat}{P0:KA}{pd:Array (Nat × Nat × Nat)}
structure Wh (r:Nat->Int)(la lb:List Nat)(L:List Nat)(na nb:Nat):Prop where
 m:Mg (ng r) lb.reverse la.reverse L (lb.length-nb) (la.length-na)
 hna:na<=la.length
 hnb:nb<=lb.length
 a0:1<=na
 b0:2<=nb
variable (t:Two N r la lb)
include t
end
end Ts
namespace Ts
open PySem PySem.W PyProof.Rows
end Ts
namespace Ts
open PySem PySem.W PyProof.Rows Srt
section
variable {prog:o9}{w:uaw}{A:uax}{E:i5->i6->Prop}{s:i6}{κ:SortKind}{it:Array Keyed}{N:Nat}{r:Nat->Int}{p p' p'':Array Nat}{pd:Array (Nat × Nat × Nat)}{gl:Nat}
abbrev SP (κ:SortKind)(it:KA)(p:Array Nat)(pd:Array (Nat × Nat × Nat))(g:Nat):SortSt:=SS κ (p.map (kas_item it)) pd g
def Rn (r:Nat->Int)(p:Array Nat)(s n:Nat):Prop:=∀ i j,s<=i->i<=j->j<s+n->ky r p i<=ky r p j
def Fl (r:Nat->Int)(p:Array Nat)(s n:Nat):Prop:=∀ i j,s<=i->i<=j->j<s+n->ky r p j<=ky r p i
def Ag (p p':Array Nat)(x y:Nat):Prop:=∀ i,(i<x\/y<=i)->p'.getD i 0=p.getD i 0
theorem Ag.trans {x y:Nat}(a:Ag p p' x y)(b:Ag p' p'' x y):Ag p p'' x y:=λ i h=>(b i h).trans (a i h)
end
end Ts
namespace Ts
open PySem PySem.W PyProof.Rows Srt
theorem nC {a:Array Nat}{k:Nat}:a.getD k 0=(a[k]?).getD 0:=by by_cases q:k<a.size <;> simp [uez,q]
section
variable {prog:o9}{w:uaw}{A:uax}{E:i5->i6->Prop}{s:i6}{κ:SortKind}{it:Array Keyed}{N:Nat}{r:Nat->Int}{p p' p'':Array Nat}{pd:Array (Nat × Nat × Nat)}{gl:Nat}
end
end Ts
namespace Ts
open PySem PySem.W PyProof.Rows Srt
abbrev PD:=Array (Nat × Nat × Nat)
def Cov (r:Nat->Int)(p:Array Nat):List (Nat × Nat × Nat)->Nat->Nat->Prop
 | [],a,b=>a=b
 | x::t,a,b=>x.1=a/\1<=x.2.1/\Rn r p a x.2.1/\Cov r p t (a+x.2.1) b
section
variable {r:Nat->Int}{p p':Array Nat}
end
section
variable {prog:o9}{w:uaw}{A:uax}{E:i5->i6->Prop}{s:i6}{κ:SortKind}{it:Array Keyed}{N:Nat}{r:Nat->Int}{p p' p'':Array Nat}{pd:PD}{gl lo:Nat}
end
end Ts
namespace Srt
open PySem PySem.W PyProof.Rows
section
variable {prog:o9}{w:uaw}{A:uax}{E:i5->i6->Prop}{s:i6}{κ:SortKind}{it:Array Keyed}
end
end Srt
namespace L3
open PySem PySem.Spec PyProof.Rows L2
end L3
namespace Far
inductive Walk (A:List (Nat × Nat × Int))(s:Nat):Nat->Int->Prop
 | nil:Walk A s s 0
 | snoc {u v:Nat} {l x:Int}:Walk A s u x->(u,v,l)∈A->Walk A s v (x+l)
variable {A:List (Nat × Nat × Int)}{s:Nat}
def Pos (A:List ‹49›):Prop:=∀ u v l,(u,v,l)∈A->1<=l
theorem Walk.nonneg (P:Pos A){v:Nat}{x:Int}(h:Walk A s v x):0<=x:=by
 induction h with
 | nil=>exact ubl 0
 | snoc _ m ih=>have:=P _ _ _ m;left
def Dst (A:List ‹49›)(s v:Nat)(o:Option Int):Prop:=(∀ y,o=some y->Walk A s v y)/\∀ L,Walk A s v L->∃ y,o=some y/\y<=L
theorem Dst.unique {v:Nat}{o p:Option Int}(h:Dst A s v o)(k:Dst A s v p):o=p:=by
 cases o with
 | none =>
  cases p with
  | none=>rfl
  | some y=>obtain⟨_,e,_⟩:=h.2 y (k.1 y rfl);cases e
 | some x =>
  obtain⟨y,rfl,q⟩:=k.2 x (h.1 x rfl);obtain⟨z,e,F⟩:=h.2 y (k.1 y rfl);cases e;rw[show x=y by left]
theorem least {P:Nat->Prop}:∀ n,P n->∃ m,P m/\∀ k,P k->m<=k:=by
 intro n;induction n using uf8 with
 | ind n ih =>
  intro h;by_cases c:∃ k,k<n/\P k
  ·obtain⟨k,F,q⟩:=c;exact ih k F q
  ·exact⟨n,h,λ k q=>by
    by_cases z:k<n
    ·exact absurd ⟨k,z,q⟩ c
    ·left⟩
theorem xH (P:Pos A)(s v:Nat):∃ o,Dst A s v o:=by
 by_cases c:∃ x,Walk A s v x
 ·obtain⟨x,z⟩:=c;let nn:=z.nonneg P;obtain⟨m,U,O⟩:=least (P:=λ k=>Walk A s v (k:Int)) x.toNat (by rw[ua4 nn];exact z);exact⟨some m,λ y e=>by cases e;exact U,λ L q=>⟨m,rfl,?_⟩⟩;let F:=q.nonneg P;let:=O L.toNat (by rw[ua4 F];exact q);left
 ·exact⟨none,⟨λ y e=>(by cases e),λ L q=>absurd ⟨L,q⟩ c⟩⟩
theorem Walk.cons {u v:Nat}{l:Int}(m:(u,v,l)∈A){w:Nat}{x:Int}(h:Walk A v w x):Walk A u w (x+l):=by
 induction h with
 | nil=>exact .snoc .nil m
 | snoc _ m' ih=>rw[ugs];exact .snoc ih m'
def Sym (A:List ‹49›):Prop:=∀ u v l,(u,v,l)∈A->(v,u,l)∈A
theorem Walk.back (S:Sym A){v:Nat}{x:Int}(h:Walk A s v x):Walk A v s x:=by
 induction h with
 | nil=>exact .nil
 | snoc _ m ih=>exact ih.cons (S _ _ _ m)
theorem Dst.back (S:Sym A){v:Nat}{o:Option Int}(h:Dst A s v o):Dst A v s o:=⟨λ y e=>(h.1 y e).back S,λ L q=>h.2 L (q.back S)⟩
def lt2 (e f:Int × Int):Prop:=e.1<f.1\/(e.1=f.1/\e.2<f.2)
def get {α:Type}(cs:List (Option α))(v:Nat):Option α:=cs.getD v none
theorem bM {α:Type}{cs:List (Option α)}{v i:Nat}{x:Option α}(h:v<cs.length):get (cs.set v x) i=if i=v then x else get cs i:=by
 unfold get;rw[c8,List.getElem?_set,c8];by_cases c:v=i
 ·subst c;simp [h]
 ·simp [c,Ne.symm c]
def ct {α:Type}:List (Option α)->Nat
 | []=>0
 | none::r=>ct r
 | some _::r=>ct r+1
theorem gI {α:Type}:∀ cs:List (Option α),ct cs<=cs.length
 | []=>i8 0
 | none::r=>Nat.le_succ_of_le (gI r)
 | some _::r=>ufz (gI r)
theorem iK {α:Type}{c:α}:∀ {cs:List (Option α)}{v:Nat},v<cs.length->ct (cs.set v (some c))=ct cs+(if (get cs v).isSome then 0 else 1)
 | none::r,0,_=>rfl
 | some _::r,0,_=>rfl
 | none::r,v+1,h=>iK (cs:=r) (v:=v) (by simpa using h)
 | some _::r,v+1,h=>by
  let:=iK (c:=c) (cs:=r) (v:=v) (by simpa using h);show ct (r.set v (some c))+1=ct r+1+_;rw[this];show _=ct r+1+(if (get r v).isSome then 0 else 1);left
theorem rD {α:Type}:∀ {cs:List (Option α)}{v:Nat}{c:α},get cs v=some c->1<=ct cs
 | [],v,c,h=>by cases h
 | some _::r,_,_,_=>ufz (uae _)
 | none::r,0,c,h=>by cases h
 | none::r,v+1,c,h=>rD (cs:=r) (v:=v) (c:=c) h
def WM:Int:=2^130
def mW:Option (Int × Int)->Nat
 | none=>(2^250)
 | some c=>(c.1*WM+c.2).toNat
def mu:List ‹37›->Nat
 | []=>0
 | c::r=>mW c+mu r
theorem qS {x:Option (Int × Int)}:∀ {cs:List ‹37›}{v:Nat},v<cs.length->mW x<mW (get cs v)->mu (cs.set v x)<mu cs
 | c::r,0,_,h=>Nat.add_lt_add_right (k:=mu r) h
 | c::r,v+1,hl,h=>Nat.add_lt_add_left (k:=mW c) (qS (cs:=r) (v:=v) (by simpa using hl) h)
structure Good (A:List (Nat × Nat × Int))(n s:Nat)(cs:List (Option (Int × Int))):Prop where
 len:cs.length=n
 walk:∀ v c,get cs v=some c->Walk A s v c.1
 w0:∀ v c,get cs v=some c->0<=c.2/\c.2<=c.1*2^60
 top:∀ v c,get cs v=some c->c.1<=((ct cs:Nat)-1:Int)*10^18
 start:∃ c,get cs s=some c/\c.1<=0
theorem Good.step {n u v:Nat}{l w:Int}{cs:List ‹37›}{c:Int × Int}(P:Pos A)(n24:n<=24)(g:Good A n s cs)(arc:(u,v,l)∈A)(l1:l<=10^18)(w0:0<=w)(w1:w<=2^60)(hv:v<n)(hu:get cs u=some c)
  (h:get cs v=none\/∃ c',get cs v=some c'/\lt2 (c.1+l,c.2+w) c'):Good A n s ‹81›/\mu ‹81›<mu cs:=by
 let F:v<cs.length:=by rw[g.len];exact hv
 let l0:=P _ _ _ arc;let wk:=Walk.snoc (g.walk _ _ hu) arc;let c0:=(g.walk _ _ hu).nonneg P;obtain⟨ad,ak⟩:=g.w0 _ _ hu;let ac:ct cs<=24:=by let:=gI cs;rw[g.len] at this;left
 let ae:=rD hu;let es:=iK (c:=(c.1+l,c.2+w)) F;let ab:=g.top _ _ hu;let O:c.2+w<=(c.1+l)*2^60:=by rw[Int.add_mul];left
 let big:c.1+l<=((ct ‹81›:Nat)-1:Int)*10^18:=by
  rw[es];rcases h with h | ⟨c',h,q⟩
  ·rw[h];show _<=(((ct cs+1:Nat):Int)-1)*10^18;left
  ·rw[h];show _<=(((ct cs+0:Nat):Int)-1)*10^18;let:=g.top _ _ h;unfold lt2 at q;simp only at q;left
 let ai:ct cs<=ct ‹81›:=by rw[es];exact ua5 _ _
 exact⟨⟨by rw[ucu];exact g.len,λ v' d e=>?_,λ v' d e=>?_,λ v' d e=>?_,?_⟩,?_⟩
 ·rw[bM F] at e;split at e
  ·rename_i z;subst z;cases e;exact wk
  ·exact g.walk _ _ e
 ·rw[bM F] at e;split at e
  ·cases e;exact⟨by show 0<=c.2+w;left,O⟩
  ·exact g.w0 _ _ e
 ·rw[bM F] at e;split at e
  ·cases e;exact big
  ·let:=g.top _ _ e;left
 ·obtain⟨d,hd,aa⟩:=g.start;rw[bM F];split
  ·rename_i z;subst z;exact⟨A,?_⟩;rcases h with h | ⟨c',h,q⟩
   ·rw[h] at hd;cases hd
   ·rw[h] at hd;cases hd;unfold lt2 at q;simp only at q;show c.1+l<=0;left
  ·exact⟨d,hd,aa⟩
 ·exact qS F ?_;let ah:ct ‹81›<=24:=by let:=gI ‹81›;rw[ucu,g.len] at this;left
  let af:c.1+l<=23*10^18:=by left
  let aj:c.2+w<=23*10^18*2^60:=by left
  let U:WM=1361129467683753853853498429727072845824:=by decide
  rcases h with h | ⟨c',h,q⟩
  ·rw[h];show ((c.1+l)*WM+(c.2+w)).toNat<2^250;let:(c.1+l)*WM+(c.2+w)<2^250:=by rw[U];left
   left
  ·rw[h];obtain⟨d0,d1⟩:=g.w0 _ _ h;let t0:=(g.walk _ _ h).nonneg P;let tt:=g.top _ _ h;show ((c.1+l)*WM+(c.2+w)).toNat<(c'.1*WM+c'.2).toNat;unfold lt2 at q;simp only at q;let:(c.1+l)*WM+(c.2+w)<c'.1*WM+c'.2:=by
    rw[U];rcases q with z | ⟨z,z'⟩
    ·left
    ·rw[z];left
   let p0:0<=(c.1+l)*WM+(c.2+w):=by rw[U];left
   left
def Stab (A:List ‹49›)(cs:List ‹37›):Prop:=∀ u v l c,(u,v,l)∈A->get cs u=some c->∃ c',get cs v=some c'/\c'.1<=c.1+l
theorem Good.dst {n:Nat}{cs:List ‹37›}(g:Good A n s cs)(st:Stab A cs)(v:Nat):Dst A s v ((get cs v).map (·.1)):=by
 exact⟨λ y e=>?_,λ L U=>?_⟩
 ·cases h:get cs v with
  | none=>rw[h] at e;cases e
  | some c=>rw[h] at e;cases e;exact g.walk _ _ h
 ·let:∃ c,get cs v=some c/\c.1<=L:=by
   induction U with
   | nil=>exact g.start
   | snoc _ m ih =>
    obtain⟨c,z,q⟩:=ih;obtain⟨c',F,O⟩:=st _ _ _ _ m z;exact⟨c',F,by left⟩
  obtain⟨c,z,q⟩:=this;exact⟨c.1,by rw[z];rfl,q⟩
structure Snd (A:List (Nat × Nat × Int))(n s:Nat)(D:List (Option Int)):Prop where
 len:D.length=n
 walk:∀ v x,get D v=some x->Walk A s v x
 start:∃ x,get D s=some x/\x<=0
structure Rnd (A:List (Nat × Nat × Int))(n s:Nat)(δ:Nat->Option Int)(D0:List (Option Int))(B:(Nat × Nat × Int)->Prop)(D:List (Option Int)):Prop where
 snd:Snd A n s D
 keep:∀ v,get D0 v=δ v->get D v=δ v
 arc:∀ u v l x,B (u,v,l)->get D0 u=δ u->δ u=some x->∃ y,get D v=some y/\y<=x+l
section
variable {n:Nat}{δ:Nat->Option Int}{D0 D:List (Option Int)}{B:(Nat × Nat × Int)->Prop}{u v:Nat}{l:Int}
def plus (B:‹49›->Prop)(a:Nat × Nat × Int):‹49›->Prop:=λ b=>B b\/b=a
end
theorem eZ {α:Type}{p q:α->Bool}:∀ {xs:List α},(∀ x∈xs,p x=true->q x=true)->(∃ x∈xs,q x=true/\p x=false)->xs.countP p<xs.countP q
 | [],_,⟨x,h,_⟩=>by cases h
 | a::r,h,⟨x,z,e1,e2⟩=>by
  rw[ufx,ufx];let O:r.countP p<=r.countP q:=uf5 λ x z=>h x (j8 _ z);rcases j4.mp z with rfl | z
  ·rw[e1,e2];simp;left
  ·let:=eZ (xs:=r) (λ x z=>h x (j8 _ z)) ⟨x,z,e1,e2⟩;let:=h a l9;cases e:p a <;> cases F:q a <;> simp_all <;> left
def cnt (n:Nat)(δ:Nat->Option Int)(D:List (Option Int)):Nat:=(d8 n).countP λ v=>decide (get D v=δ v)
def Done (n:Nat)(δ:Nat->Option Int)(D:List (Option Int))(k:Nat):Prop:=(∀ v,v<n->get D v=δ v)\/k+1<=cnt n δ D
def PSt (c0:List ‹37›)(B:‹49›->Prop)(cs:List ‹37›)(ag:Bool):Prop :=
 (ag=false/\cs=c0/\∀ u v l c,B (u,v,l)->get c0 u=some c->∃ c',get c0 v=some c'/\c'.1<=c.1+l)\/(ag=true/\mu cs<mu c0)
section
variable {c0 cs:List (Option (Int × Int))}{B B':(Nat × Nat × Int)->Prop}{ag:Bool}{u v:Nat}{l w:Int}
end
theorem eO {α:Type}(n v:Nat):get (v6 n (none:Option α)) v=none:=by
 unfold get;rw[c8,ued];split <;> rfl
theorem rC {α:Type}:∀ n:Nat,ct (v6 n (none:Option α))=0
 | 0=>rfl
 | n+1=>rC n
theorem Good.first {n:Nat}(hs:s<n):Good A n s ((v6 n none).set s (some (0,0))):=by
 let hl:s<(v6 n (none:Option (Int × Int))).length:=by rw[ubg];exact hs
 let q:∀ v c,get ((v6 n (none:Option (Int × Int))).set s (some (0,0))) v=some c->v=s/\c=(0,0):=λ v c e=>by
  rw[bM hl,eO] at e;split at e
  ·rename_i z;cases e;exact⟨z,rfl⟩
  ·cases e
 exact⟨by rw[ucu,ubg],λ v c e=>?_,λ v c e=>?_,λ v c e=>?_,⟨(0,0),?_,ubl _⟩⟩
 ·obtain⟨rfl,rfl⟩:=q _ _ e;exact .nil
 ·obtain⟨rfl,rfl⟩:=q _ _ e;exact⟨ubl _,by decide⟩
 ·obtain⟨rfl,rfl⟩:=q _ _ e;rw[iK hl,rC,eO];decide
 ·rw[bM hl,uh2 rfl]
end Far
namespace Far
variable {A:List (Nat × Nat × Int)}{s:Nat}
structure Ahd (A:List (Nat × Nat × Int))(s:Nat)(cs:List (Option (Int × Int)))(as:List (Option Nat)):Prop where
 len:as.length=cs.length
 root:get as s=none
 has:∀ v c,get cs v=some c->v≠s->get as v≠none
 arc:∀ v u,get as v=some u->∃ l cu cv,(u,v,l)∈A/\get cs u=some cu/\get cs v=some cv/\cu.1+l<=cv.1
inductive Tr (A:List (Nat × Nat × Int))(a:Nat):List Nat->Nat->Int->Prop
 | one:Tr A a [a] a 0
 | snoc {ws:List Nat} {u v:Nat} {x l:Int}:Tr A a ws u x->(u,v,l)∈A->Tr A a (ws++[v]) v (x+l)
def beyond (n:Nat)(cs:List ‹37›)(d:Int):Nat:=(d8 n).countP λ v=>match get cs v with | none=>false | some c=>decide (d<=c.1)
theorem zab {n u:Nat}{cs:List ‹37›}{cu:Int × Int}{d:Int}(hu:u<n)(e:get cs u=some cu)(h:cu.1<d):beyond n cs d<beyond n cs cu.1:=by
 exact eZ (λ v _ q=>?_) ⟨u,m8.mpr hu,?_,?_⟩
 ·cases e2:get cs v with
  | none=>rw[e2] at q;cases q
  | some c=>rw[e2] at q;let:=uh0 q;exact uhz (by left)
 ·rw[e];exact uhz (ubl _)
 ·rw[e];exact uh1 (by left)
theorem nP (n:Nat)(cs:List ‹37›)(d:Int):beyond n cs d<=n:=by
 let:=List.countP_le_length (p:=λ v=>match get cs v with | none=>false | some c=>decide (d<=c.1)) (l:=d8 n);rw[uaa] at this;exact this
theorem xM {n u:Nat}{cs:List ‹37›}{cu:Int × Int}(hu:u<n)(e:get cs u=some cu):1<=beyond n cs cu.1 :=
 List.countP_pos_iff.mpr ⟨u,m8.mpr hu,by rw[e];exact uhz (ubl _)⟩
end Far
namespace Far
def sumP:List Nat->Nat
 | []=>0
 | k::r=>2^k+sumP r
theorem gQ {S S':List Nat}(h:S.Perm S'):sumP S=sumP S':=by
 induction h with
 | nil=>rfl
 | cons x _ ih=>show _+_=_+_;rw[ih]
 | swap x y l=>show 2^y+(2^x+sumP l)=2^x+(2^y+sumP l);left
 | trans _ _ h1 h2=>exact h1.trans h2
theorem vU (S:List Nat):∀ T:List Nat,sumP (S++T)=sumP S+sumP T:=by
 intro T;induction S with
 | nil=>show sumP T=0+sumP T;left
 | cons k r ih=>show 2^k+sumP (r++T)=2^k+sumP r+sumP T;rw[ih];left
theorem hZ:∀ (m:Nat){S:List Nat},S.Nodup->(∀ k∈S,k<m)->sumP S<2^m
 | 0,S,_,h=>by
  cases S with
  | nil=>exact Nat.zero_lt_one
  | cons k r=>exact absurd (h k l9) (ueg _)
 | m+1,S,nd,h=>by
  let e:2^(m+1)=2^m+2^m:=by rw[Nat.pow_succ];left
  by_cases c:m∈S
  ·let p:=uds c;let q:(m::S.erase m).Nodup:=p.nodup_iff.mp nd;let:=hZ m (S:=S.erase m) (uba.mp q).2 λ k F=>by
    let h1:=h k (uf2 F);let h2:k≠m:=λ z=>(uba.mp q).1 (z ▸ F);left
   rw[gQ p,e];show 2^m+sumP (S.erase m)<_;left
  ·let:=hZ m nd λ k F=>by
    let h1:=h k F;let h2:k≠m:=λ z=>c (z ▸ F);left
   left
theorem jJ:∀ (m:Nat){S S':List Nat},S.Nodup->S'.Nodup->(∀ k∈S,k<m)->(∀ k∈S',k<m)->sumP S=sumP S'->∀ k,k∈S->k∈S'
 | 0,S,S',_,_,h,_,_,k,hk=>absurd (h k hk) (ueg _)
 | m+1,S,S',nd,nd',h,h',e,k,hk=>by
  let q:∀ {T:List Nat},T.Nodup->(∀ k∈T,k<m+1)->m∉T->sumP T<2^m:=λ {T} n1 n2 n3=>hZ m n1 λ j F=>by
   let h1:=n2 j F;let h2:j≠m:=λ z=>n3 (z ▸ F);left
  by_cases c:m∈S
  ·let p:=uds c;let aa:(m::S.erase m).Nodup:=p.nodup_iff.mp nd;let e1:sumP S=2^m+sumP (S.erase m):=gQ p;by_cases U:m∈S'
   ·let p':=uds U;let O:(m::S'.erase m).Nodup:=p'.nodup_iff.mp nd';let e2:sumP S'=2^m+sumP (S'.erase m):=gQ p';by_cases z:k=m
    ·rw[z];exact U
    ·let lt:∀ {T:List Nat},(m::T.erase m).Nodup->(∀ k∈T,k<m+1)->∀ j∈T.erase m,j<m:=λ {T} n1 n2 j F=>by
      let h1:=n2 j (uf2 F);let h2:j≠m:=λ y=>(uba.mp n1).1 (y ▸ F);left
     let:=jJ m (uba.mp aa).2 (uba.mp O).2 (lt aa h) (lt O h') (by left) k ((uet z).mpr hk);exact uf2 this
   ·let:=q nd' h' U;left
  ·by_cases U:m∈S'
   ·let e2:sumP S'=2^m+sumP (S'.erase m):=gQ (uds U);let:=q nd h c;left
   ·let lt:∀ {T:List Nat},(∀ k∈T,k<m+1)->m∉T->∀ j∈T,j<m:=λ {T} n1 n2 j F=>by
     let h1:=n1 j F;let h2:j≠m:=λ y=>n2 (y ▸ F);left
    exact jJ m nd nd' (lt h c) (lt h' U) e k hk
abbrev Arc:=Nat × Nat × Int × Nat
inductive Rt (B:List Arc)(a:Nat):List Nat->List Nat->Nat->Int->Int->Prop
 | one:Rt B a [a] [] a 0 0
 | snoc {ws S:List Nat} {u v:Nat} {x y l:Int} {k:Nat}:Rt B a ws S u x y->(u,v,l,k)∈B->v∉ws->Rt B a (ws++[v]) (S++[k]) v (x+l) (y+2^k)
structure Keys (B:List Arc):Prop where
 sym:∀ u v l k,(u,v,l,k)∈B->(v,u,l,k)∈B
 key:∀ u v l u' v' l' k,(u,v,l,k)∈B->(u',v',l',k)∈B->l'=l/\((u'=u/\v'=v)\/(u'=v/\v'=u))
 ne:∀ u v l k,(u,v,l,k)∈B->u≠v
 pos:∀ u v l k,(u,v,l,k)∈B->1<=l
 few:∀ u v l k,(u,v,l,k)∈B->k<60
variable {B:List Arc}{a b:Nat}{ws S:List Nat}{x y:Int}
theorem Rt.last (h:Rt B a ws S b x y):b∈ws:=by
 cases h with
 | one=>exact u5.mpr rfl
 | snoc _ _ _=>exact z0 _ (u5.mpr rfl)
theorem Rt.ends (K:Keys B)(h:Rt B a ws S b x y):∀ k∈S,∃ u v l,(u,v,l,k)∈B/\u∈ws/\v∈ws:=by
 induction h with
 | one=>intro k F;cases F
 | @snoc ws S u v x y l k r m nv ih =>
  intro j z;rcases uat.mp z with z | z
  ·obtain⟨p,q,O,h1,h2,h3⟩:=ih j z;exact⟨p,q,O,h1,ubj _ h2,ubj _ h3⟩
  ·rw[u5.mp z];exact⟨u,v,l,m,ubj _ r.last,z0 _ (u5.mpr rfl)⟩
theorem Rt.fresh (K:Keys B)(h:Rt B a ws S b x y){u v:Nat}{l:Int}{k:Nat}(m:(u,v,l,k)∈B)(nv:v∉ws):k∉S:=λ O=>by
 obtain⟨p,q,l',F,U,hq⟩:=h.ends K k O;rcases (K.key _ _ _ _ _ _ _ m F).2 with ⟨z,e2⟩ | ⟨z,e2⟩
 ·exact nv (e2 ▸ hq)
 ·exact nv (z ▸ U)
theorem Rt.nodup (K:Keys B)(h:Rt B a ws S b x y):S.Nodup:=by
 induction h with
 | one=>exact ufc
 | @snoc ws S u v x y l k r m nv ih =>
  exact udp.mpr ⟨ih,by simp,λ p F q O z=>?_⟩;rw[u5.mp O] at z;exact r.fresh K m nv (z ▸ F)
theorem Rt.small (K:Keys B)(h:Rt B a ws S b x y):∀ k∈S,k<60:=λ k q=>let ⟨u,v,l,m,_⟩:=h.ends K k q;K.few u v l k m
theorem Rt.sum (h:Rt B a ws S b x y):y=(sumP S:Nat):=by
 induction h with
 | one=>rfl
 | @snoc ws S u v x y l k r m nv ih =>
  rw[vU,ih];show ((sumP S:Nat):Int)+2^k=((sumP S+(2^k+0):Nat):Int);let:((2^k:Nat):Int)=(2:Int)^k:=by norm_cast
  left
theorem Rt.lt (K:Keys B)(h:Rt B a ws S b x y):0<=y/\y<2^60:=by
 let e:=h.sum;let:=hZ 60 (h.nodup K) (h.small K);let e2:((2^60:Nat):Int)=(2:Int)^60:=by norm_cast
 left
theorem Rt.unique (K:Keys B)(h:Rt B a ws S b x y):∀ {ws' S':List Nat}{x':Int},Rt B a ws' S' b x' y->ws'=ws/\x'=x:=by
 induction h with
 | one =>
  intro ws' S' x' r;generalize ey:(0:Int)=yy at r;cases r with
  | one=>exact⟨M⟩
  | @snoc ws0 S0 u _ x0 y0 l k r m nv =>
   let p:=r.lt K;let:(0:Int)<2^k:=Int.pow_pos (by decide);left
 | @snoc ws0 S0 u v x0 y0 l k r m nv ih =>
  intro ws' S' x' F;let q:Rt B a (ws0++[v]) (S0++[k]) v (x0+l) (y0+2^k):=.snoc r m nv;let se:sumP S'=sumP (S0++[k]):=by
   let e1:=F.sum;let e2:=q.sum;left
  let ab:=jJ 60 (F.nodup K) (q.nodup K) (F.small K) (q.small K) se;generalize ey:y0+2^k=yy at F;cases F with
  | one =>
   let p:=r.lt K;let:(0:Int)<2^k:=Int.pow_pos (by decide);left
  | @snoc ws1 S1 u1 _ x1 y1 l1 k1 r1 m1 nv1 =>
   let U:=ab k1 (z0 _ (u5.mpr rfl));let aa:k1=k:=by
    rcases uat.mp U with z | z
    ·exact absurd z (r.fresh K m1 nv)
    ·exact u5.mp z
   subst aa;obtain⟨el,eu⟩:=K.key _ _ _ _ _ _ _ m m1;let uu:u1=u:=by
    rcases eu with ⟨e,_⟩ | ⟨e,e'⟩
    ·exact e
    ·exact absurd e' (K.ne _ _ _ _ m).symm
   subst uu;let O:y1=y0:=by left
   subst O;obtain⟨e1,e2⟩:=ih r1;exact⟨by rw[e1],by rw[e2,el]⟩
theorem Rt.cons (K:Keys B){u:Nat}{l:Int}{k:Nat}(m:(u,a,l,k)∈B)(h:Rt B a ws S b x y):u∉ws->Rt B u (u::ws) (k::S) b (x+l) (y+2^k):=by
 induction h with
 | one =>
  intro q;let:Rt B u ([u]++[a]) ([]++[k]) a (0+l) (0+2^k):=.snoc .one m (λ z=>q (by rw[u5] at z ⊢;exact z.symm));exact this
 | @snoc ws S w v x y l' k' r m' nv ih =>
  intro q;let r2:=ih λ z=>q (ubj _ z);let:Rt B u ((u::ws)++[v]) ((k::S)++[k']) v (x+l+l') (y+2^k+2^k'):=.snoc r2 m' λ z=>by
   rcases j4.mp z with z | z
   ·exact q (z0 _ (u5.mpr z.symm))
   ·exact nv z
  rw[ugs x l l',ugs y] at this;exact this
theorem Rt.back (K:Keys B)(h:Rt B a ws S b x y):Rt B b ws.reverse S.reverse a x y:=by
 induction h with
 | one=>exact .one
 | @snoc ws S u v x y l k r m nv ih =>
  rw[ue3,ue3];exact ih.cons K (K.sym _ _ _ _ m) (λ z=>nv (List.mem_reverse.mp z))
end Far
namespace Far
structure Best (B:List Arc)(n s:Nat)(cs:List (Option (Int × Int)))(as:List (Option Nat)):Prop where
 len:cs.length=n
 alen:as.length=n
 start:get cs s=some (0,0)
 root:get as s=none
 has:∀ v c,get cs v=some c->v≠s->get as v≠none
 nn:∀ v c,get cs v=some c->0<=c.1
 stab:∀ u v l k c,(u,v,l,k)∈B->get cs u=some c->∃ c',get cs v=some c'/\¬ lt2 (c.1+l,c.2+2^k) c'
 arc:∀ v u,get as v=some u->∃ l k cu,(u,v,l,k)∈B/\get cs u=some cu/\get cs v=some (cu.1+l,cu.2+2^k)
inductive TPw (as:List (Option Nat))(s:Nat):List Nat->Nat->Prop
 | root:TPw as s [s] s
 | step {ws:List Nat} {u v:Nat}:get as v=some u->TPw as s ws u->TPw as s (ws++[v]) v
section
variable {B:List Arc}{n s:Nat}{cs:List (Option (Int × Int))}{as:List (Option Nat)}
theorem Best.route (K:Keys B)(h:Best B n s cs as):∀ (m:Nat)(v:Nat)(c:Int × Int),get cs v=some c->c.1.toNat<=m->∃ ws S,Rt B s ws S v c.1 c.2/\TPw as s ws v/\∀ w∈ws,∃ cw,get cs w=some cw/\cw.1<=c.1:=by
 intro m;induction m using uf8 with
 | ind m ih =>
  intro v c e hm;by_cases vs:v=s
  ·subst vs;rw[h.start] at e;cases e;exact⟨[v],[],.one,.root,λ w q=>by rw[u5.mp q];exact⟨_,h.start,ubl _⟩⟩
  ·cases U:get as v with
   | none=>exact absurd U (h.has v c e vs)
   | some u =>
    obtain⟨l,k,O,ma,eu,ev⟩:=h.arc v u U;rw[e] at ev;cases ev;let l1:=K.pos _ _ _ _ ma;let c0:=h.nn _ _ eu;simp only at hm;obtain⟨ws,S,r,tp,all⟩:=ih O.1.toNat (by left) u O eu (i8 _);let nv:v∉ws:=λ z=>by
     obtain⟨cw,F,h1⟩:=all v z;rw[e] at F;cases F;simp only at h1;left
    exact⟨ws++[v],S++[k],.snoc r ma nv,.step U tp,λ w q=>?_⟩;rcases uat.mp q with q | q
    ·obtain⟨cw,F,h1⟩:=all w q;exact⟨cw,F,by show cw.1<=O.1+l;left⟩
    ·rw[u5.mp q];exact⟨_,e,ubl _⟩
theorem Best.small (K:Keys B)(h:Best B n s cs as){v:Nat}{c:Int × Int}(e:get cs v=some c):0<=c.2/\c.2<2^60:=by
 obtain⟨ws,S,r,_⟩:=h.route K _ v c e (i8 _);exact r.lt K
theorem Best.least (h:Best B n s cs as){ws S:List Nat}{v:Nat}{x y:Int}(r:Rt B s ws S v x y):∃ c,get cs v=some c/\¬ lt2 (x,y) c:=by
 induction r with
 | one=>exact⟨_,h.start,λ z=>by unfold lt2 at z;simp only at z;left⟩
 | @snoc ws S u v x y l k r m nv ih =>
  obtain⟨c,e,U⟩:=ih;obtain⟨O,q,F⟩:=h.stab _ _ _ _ _ m e;exact⟨O,q,λ z=>?_⟩;unfold lt2 at *;simp only at *;left
end
def comb (c:Int × Int):Int:=c.1*2^61+c.2
def arcsC (B:List Arc):List ‹49›:=B.map λ b=>(b.1,b.2.1,b.2.2.1*2^61+2^b.2.2.2)
theorem arcsC_mem {B:List Arc}{u v:Nat}{L:Int}:(u,v,L)∈arcsC B↔∃ l k,(u,v,l,k)∈B/\L=l*2^61+2^k:=by
 unfold arcsC;rw[w8];constructor
 ·rintro ⟨⟨a,b,l,k⟩,h,e⟩;cases e;exact⟨l,k,h,rfl⟩
 ·rintro ⟨l,k,h,rfl⟩;exact⟨(u,v,l,k),h,rfl⟩
section
variable {B:List Arc}{n s:Nat}{cs:List (Option (Int × Int))}{as:List (Option Nat)}
theorem pK (k:Nat):(1:Int)<=2^k:=Int.pow_pos (by decide)
theorem nQ (K:Keys B):Sym (arcsC B):=λ u v L h=>by
 obtain⟨l,k,m,rfl⟩:=arcsC_mem.mp h;exact arcsC_mem.mpr ⟨l,k,K.sym _ _ _ _ m,rfl⟩
theorem Best.dst (K:Keys B)(h:Best B n s cs as)(v:Nat):Dst (arcsC B) s v ((get cs v).map comb):=by
 exact⟨λ y e=>?_,λ L w=>?_⟩
 ·cases z:get cs v with
  | none=>rw[z] at e;cases e
  | some c =>
   rw[z] at e;cases e;obtain⟨ws,S,r,_⟩:=h.route K _ v c z (i8 _);let U:∀ {ws S:List Nat}{v:Nat}{x y:Int},Rt B s ws S v x y->Walk (arcsC B) s v (comb (x,y)):=by
    intro ws S v x y r;induction r with
    | one=>exact .nil
    | @snoc ws S u v x y l k r m nv ih =>
     let:=Walk.snoc ih (arcsC_mem.mpr ⟨l,k,m,rfl⟩);let e:comb (x+l,y+2^k)=comb (x,y)+(l*2^61+2^k):=by unfold comb;simp only;left
     rw[e];exact this
   exact U r
 ·let:∃ c,get cs v=some c/\comb c<=L:=by
   induction w with
   | nil=>exact⟨_,h.start,by decide⟩
   | @snoc u v l x w m ih =>
    obtain⟨c,e,O⟩:=ih;obtain⟨l',k,m',rfl⟩:=arcsC_mem.mp m;obtain⟨c',F,q⟩:=h.stab _ _ _ _ _ m' e;exact⟨c',F,?_⟩;let s1:=h.small K e;let s2:=h.small K F;let:=pK k;unfold comb at *;unfold lt2 at q;simp only at q;left
  obtain⟨c,e,O⟩:=this;exact⟨comb c,by rw[e];rfl,O⟩
theorem zbp {c d:Int × Int}(hc:0<=c.2/\c.2<2^61)(hd:0<=d.2/\d.2<2^61)(e:comb c=comb d):c=d:=by
 unfold comb at e;exact Prod.ext (by left) (by left)
end
end Far
namespace Far
def arcsF (B:List Arc):List ‹49›:=B.map λ b=>(b.1,b.2.1,b.2.2.1)
theorem arcsF_mem {B:List Arc}{u v:Nat}{l:Int}:(u,v,l)∈arcsF B↔∃ k,(u,v,l,k)∈B:=by
 unfold arcsF;rw[w8];constructor
 ·rintro ⟨⟨a,b,q,k⟩,h,e⟩;cases e;exact⟨k,h⟩
 ·rintro ⟨k,h⟩;exact⟨(u,v,l,k),h,rfl⟩
section
variable {B:List Arc}{n s:Nat}{cs:List (Option (Int × Int))}{as:List (Option Nat)}{a b:Nat}{ws S:List Nat}{x y:Int}
theorem yE {v:Nat}{ws ws':List Nat}(hr:get as s=none)(t:TPw as s ws v):TPw as s ws' v->ws'=ws:=by
 induction t generalizing ws' with
 | root =>
  intro t';cases t' with
  | root=>rfl
  | step e _=>rw[hr] at e;cases e
 | step e t ih =>
  intro t';cases t' with
  | root=>rw[hr] at e;cases e
  | step e' t'=>rw[e] at e';cases e';rw[ih t']
theorem Best.rt (K:Keys B)(h:Best B n s cs as){v:Nat}{c:Int × Int}(t:TPw as s ws v)(e:get cs v=some c):∃ S,Rt B s ws S v c.1 c.2:=by
 obtain⟨F,q,r1,z,_⟩:=h.route K _ v c e (i8 _);rw[yE h.root z t];exact⟨q,r1⟩
theorem Rt.walk (r:Rt B a ws S b x y):Walk (arcsF B) a b x:=by
 induction r with
 | one=>exact .nil
 | snoc r m nv ih=>exact .snoc ih (arcsF_mem.mpr ⟨_,m⟩)
theorem Rt.tr (r:Rt B a ws S b x y):Tr (arcsF B) a ws b x:=by
 induction r with
 | one=>exact .one
 | snoc r m nv ih=>exact .snoc ih (arcsF_mem.mpr ⟨_,m⟩)
theorem Best.dst1 (K:Keys B)(h:Best B n s cs as)(v:Nat):Dst (arcsF B) s v ((get cs v).map (·.1)):=by
 exact⟨λ y e=>?_,λ L w=>?_⟩
 ·cases z:get cs v with
  | none=>rw[z] at e;cases e
  | some c =>
   rw[z] at e;cases e;obtain⟨ws,S,r,_⟩:=h.route K _ v c z (i8 _);exact r.walk
 ·let:∃ c,get cs v=some c/\c.1<=L:=by
   induction w with
   | nil=>exact⟨_,h.start,ubl _⟩
   | @snoc u v l x w m ih =>
    obtain⟨c,e,F⟩:=ih;obtain⟨k,O⟩:=arcsF_mem.mp m;obtain⟨c',U,q⟩:=h.stab _ _ _ _ _ O e;exact⟨c',U,?_⟩;unfold lt2 at q;simp only at q;left
  obtain⟨c,e,F⟩:=this;exact⟨c.1,by rw[e];rfl,F⟩
theorem Rt.len (r:Rt B a ws S b x y):ws.length=S.length+1:=by
 induction r with
 | one=>rfl
 | snoc r m nv ih=>rw[i7,i7,ih];rfl
theorem Rt.unlike (r:Rt B a ws S b x y):ws.Nodup:=by
 induction r with
 | one=>simp
 | snoc r m nv ih =>
  exact udp.mpr ⟨ih,by simp,λ p F q O z=>?_⟩;rw[u5.mp O] at z;exact nv (z ▸ F)
theorem Rt.foot (r:Rt B a ws S b x y):∃ q,ws=q++[b]:=by
 cases r with
 | one=>exact⟨[],rfl⟩
 | snoc r m nv=>exact⟨A⟩
theorem Rt.step (r:Rt B a ws S b x y):∀ {i k:Nat},S[i]?=some k->∃ u v l,ws[i]?=some u/\ws[i+1]?=some v/\(u,v,l,k)∈B:=by
 induction r with
 | one=>intro i k h;cases h
 | @snoc ws S u v x y l k r m nv ih =>
  intro i j h;let len:=r.len;by_cases c:i<S.length
  ·rw[uao c] at h;obtain⟨p,q,z,h1,h2,h3⟩:=ih h;exact⟨p,q,z,by rw[uao (by left)];exact h1,by rw[uao (by left)];exact h2,h3⟩
  ·let hi:i<(S++[k]).length:=(j9.mp h).1;rw[i7,j6] at hi;let e:i=S.length:=by left
   subst e;rw[uab (i8 _),Nat.sub_self] at h;cases h;obtain⟨q,rfl⟩:=r.foot;rw[i7,j6] at len;exact⟨u,v,l,?_,?_,m⟩
   ·rw[uao (by rw[i7,j6];left),uab (by left)];rw[show S.length-q.length=0 by left];rfl
   ·rw[uab (by rw[i7,j6];left),i7,j6];rw[show S.length+1-(q.length+1)=0 by left];rfl
structure Uni (B:List Arc)(a b:Nat)(ws S:List Nat)(x y:Int):Prop where
 rt:Rt B a ws S b x y
 least:∀ ws' S' x' y',Rt B a ws' S' b x' y'->¬ lt2 (x',y') (x,y)
theorem Best.uni (K:Keys B)(h:Best B n s cs as){v:Nat}{c:Int × Int}(t:TPw as s ws.reverse v)(e:get cs v=some c):∃ S,Uni B v s ws S c.1 c.2:=by
 obtain⟨S,r⟩:=h.rt K t e;let q:=r.back K;rw[ugc] at q;exact⟨_,q,λ aa S' x' y' U z=>?_⟩;obtain⟨c',F,O⟩:=h.least (U.back K);rw[e] at F;cases F;exact O z
end
end Far
namespace Far
variable {A:List (Nat × Nat × Int)}{s:Nat}
theorem Walk.trans {u v:Nat}{x y:Int}(h:Walk A s u x)(k:Walk A u v y):Walk A s v (x+y):=by
 induction k with
 | nil=>rw[Int.add_zero];exact h
 | snoc _ m ih=>rw[← Int.add_assoc];exact .snoc ih m
def Con (A:List ‹49›)(s v:Nat):Prop:=∃ x,Walk A s v x
noncomputable def rB (A:List ‹49›)(s v:Nat):Bool:=@decide (Con A s v) ‹97›
theorem Con.symm (S:Sym A){v:Nat}(h:Con A s v):Con A v s:=let ⟨x,w⟩:=h;⟨x,w.back S⟩
theorem Con.trans {u v:Nat}(h:Con A s u)(k:Con A u v):Con A s v:=let ⟨_,w⟩:=h;let ⟨_,z⟩:=k;⟨_,w.trans z⟩
noncomputable def rN (A:List ‹49›)(n s:Nat):List Nat:=(d8 n).filter (rB A s)
noncomputable def isHd (A:List ‹49›)(n p:Nat):Bool:=decide ((rN A n p).head?=some p)
noncomputable def pcs (A:List ‹49›)(n:Nat):List (List Nat):=((d8 n).filter (isHd A n)).map (rN A n)
end Far
namespace Far
section
variable {B:List Arc}{n s a b:Nat}{ws S:List Nat}{x y:Int}{cs:List (Option (Int × Int))}{as:List (Option Nat)}
theorem Rt.walkC (r:Rt B a ws S b x y):Walk (arcsC B) a b (comb (x,y)):=by
 induction r with
 | one=>exact .nil
 | @snoc ws S u v x y l k r m nv ih =>
  let:=Walk.snoc ih (arcsC_mem.mpr ⟨l,k,m,rfl⟩);let e:comb (x+l,y+2^k)=comb (x,y)+(l*2^61+2^k):=by unfold comb;simp only;left
  rw[e];exact this
def MinW (B:List Arc)(a b:Nat)(ws:List Nat):Prop:=∃ S x y,Rt B a ws S b x y/\∀ L,Walk (arcsC B) a b L->comb (x,y)<=L
theorem MinW.unique (K:Keys B){ws':List Nat}(h:MinW B a b ws)(h':MinW B a b ws'):ws'=ws:=by
 obtain⟨S,x,y,r,l⟩:=h;obtain⟨S',x',O,q,U⟩:=h';let e1:=l _ q.walkC;let e2:=U _ r.walkC;let z:=r.lt K;let F:=q.lt K;let e:=zbp (c:=(x,y)) (d:=(x',O)) ⟨z.1,Int.lt_trans z.2 (by decide)⟩ ⟨F.1,Int.lt_trans F.2 (by decide)⟩ (by left);injection e with ex ey;subst ey;exact (r.unique K q).1
theorem MinW.back (K:Keys B)(h:MinW B a b ws):MinW B b a ws.reverse:=by
 obtain⟨S,x,y,r,l⟩:=h;exact⟨S.reverse,x,y,r.back K,λ L w=>l L (w.back (nQ K))⟩
theorem Best.minw (K:Keys B)(h:Best B n s cs as){v:Nat}{c:Int × Int}(t:TPw as s ws.reverse v)(e:get cs v=some c):MinW B v s ws:=by
 obtain⟨S,r⟩:=h.rt K t e;let F:=r.back K;rw[ugc] at F;exact⟨P,_,F,λ L w=>?_⟩;obtain⟨z,q,O⟩:=(h.dst K v).2 L (w.back (nQ K));rw[e] at q;cases q;exact O
theorem MinW.nodup (h:MinW B a b ws):ws.Nodup:=by
 obtain⟨S,x,y,r,l⟩:=h;exact r.unlike
end
end Far
namespace Far
inductive W2 (B:List Arc)(s:Nat):Nat->Int->Int->Prop
 | nil:W2 B s s 0 0
 | snoc {u v:Nat} {x y l:Int} {k:Nat}:W2 B s u x y->(u,v,l,k)∈B->W2 B s v (x+l) (y+2^k)
theorem W2.nonneg {B:List Arc}(K:Keys B){s v:Nat}{x y:Int}(h:W2 B s v x y):0<=x/\0<=y:=by
 induction h with
 | nil=>exact⟨ubl _,ubl _⟩
 | @snoc u v x y l k h m ih =>
  let h1:=K.pos _ _ _ _ m;let h2:=pK k;left
theorem mZ {P:Nat->Prop}:∀ n,P n->∃ m,P m/\∀ i,P i->m<=i:=by
 intro n;induction n using uf8 with
 | ind n ih =>
  intro h;by_cases c:∃ i,P i/\i<n
  ·obtain⟨i,hi,lt⟩:=c;exact ih i lt hi
  ·exact⟨n,h,λ i hi=>Nat.le_of_not_lt λ z=>c ⟨i,hi,z⟩⟩
theorem zE {P:Int->Int->Prop}(nn:∀ x y,P x y->0<=x/\0<=y){x y:Int}(h:P x y):∃ x y,P x y/\∀ x' y',P x' y'->¬ lt2 (x',y') (x,y):=by
 obtain⟨m,⟨U,F⟩,O⟩:=mZ (P:=λ m=>∃ y,P (m:Int) y) x.toNat ⟨y,by rw[ua4 (nn x y h).1];exact h⟩;obtain⟨k,hk,lk⟩:=mZ (P:=λ k=>P (m:Int) (k:Int)) U.toNat (by rw[ua4 (nn _ _ F).2];exact F);exact⟨m,k,hk,λ x' y' h' z=>?_⟩;let q:=nn x' y' h';let h1:=O x'.toNat ⟨y',by rw[ua4 q.1];exact h'⟩;unfold lt2 at z;simp only at z;rcases z with z | ⟨z1,z2⟩
 ·left
 ·have h2:=lk y'.toNat (by rw[← z1,ua4 q.2];exact h');left
theorem wK {B:List Arc}(K:Keys B){n s:Nat}(inn:∀ u v l k,(u,v,l,k)∈B->u<n/\v<n)(hs:s<n):∃ cs as,Best B n s cs as:=by
 let ex:∀ v,∃ o:Option (Int × Int),(o=none->∀ x y,¬ W2 B s v x y)/\∀ c,o=some c->W2 B s v c.1 c.2/\∀ x' y',W2 B s v x' y'->¬ lt2 (x',y') c:=λ v=>by
  by_cases c:∃ x y,W2 B s v x y
  ·obtain⟨x,y,h⟩:=c;obtain⟨x,y,h,l⟩:=zE (P:=W2 B s v) (λ x y h=>h.nonneg K) h;exact⟨some (x,y),(λ e=>by cases e),λ c e=>by cases e;exact⟨h,l⟩⟩
  ·exact⟨none,λ _ x y h=>c ⟨x,y,h⟩,λ c e=>by cases e⟩
 letI f:Nat->Option (Int × Int):=λ v=>Classical.choose (ex v);let U:∀ v,(f v=none->∀ x y,¬ W2 B s v x y)/\∀ c,f v=some c->W2 B s v c.1 c.2/\∀ x' y',W2 B s v x' y'->¬ lt2 (x',y') c:=λ v=>Classical.choose_spec (ex v);let eA:∀ v,∃ o:Option Nat,(v=s->o=none)/\(v≠s->f v≠none->o≠none)/\∀ u,o=some u->∃ l k F,(u,v,l,k)∈B/\f u=some F/\f v=some (F.1+l,F.2+2^k):=λ v=>by
  by_cases c1:v=s
  ·exact⟨none,λ _=>rfl,λ z=>absurd c1 z,λ u e=>by cases e⟩
  ·cases ev:f v with
   | none=>exact⟨none,λ z=>absurd z c1,λ _ z=>absurd rfl z,λ u e=>by cases e⟩
   | some c =>
    obtain⟨w,lw⟩:=(U v).2 c ev;obtain⟨cx,cy⟩:=c;let w':W2 B s v cx cy:=w;cases w' with
    | nil=>exact absurd rfl c1
    | @snoc u _ x y l k w1 m =>
     cases eu:f u with
     | none=>exact absurd w1 ((U u).1 eu x y)
     | some F =>
      obtain⟨wu,lu⟩:=(U u).2 F eu;let n1:=lu x y w1;let n2:=lw _ _ (wu.snoc m);exact⟨some u,λ z=>absurd z c1,(λ _ _ z=>by cases z),λ u' e=>?_⟩;cases e;exact⟨l,k,F,m,eu,?_⟩;unfold lt2 at n1 n2;simp only at n1 n2;let:F=(x,y):=Prod.ext (by simp only;left) (by simp only;left);rw[this]
 letI g:Nat->Option Nat:=λ v=>Classical.choose (eA v);let hg:∀ v,(v=s->g v=none)/\(v≠s->f v≠none->g v≠none)/\∀ u,g v=some u->∃ l k F,(u,v,l,k)∈B/\f u=some F/\f v=some (F.1+l,F.2+2^k):=λ v=>Classical.choose_spec (eA v);let wn:∀ {v x y},W2 B s v x y->v<n:=λ {v x y} h=>by
  cases h with
  | nil=>exact hs
  | snoc _ m=>exact (inn _ _ _ _ m).2
 let fo:∀ v,n<=v->f v=none:=λ v hv=>by
  cases e:f v with
  | none=>rfl
  | some c=>exact absurd (wn ((U v).2 c e).1) (by left)
 let q:∀ v,get ((d8 n).map f) v=f v:=λ v=>by
  unfold get;by_cases hv:v<n
  ·simp [hv]
  ·rw[fo v (by left)];simp [hv]
 let go:∀ v,n<=v->g v=none:=λ v hv=>by
  cases e:g v with
  | none=>rfl
  | some u =>
   obtain⟨l,k,F,m,_⟩:=(hg v).2.2 u e;exact absurd (inn _ _ _ _ m).2 (by left)
 let O:∀ v,get ((d8 n).map g) v=g v:=λ v=>by
  unfold get;by_cases hv:v<n
  ·simp [hv]
  ·rw[go v (by left)];simp [hv]
 exact⟨(d8 n).map f,(d8 n).map g,by simp,by simp,?_,?_,?_,?_,?_,?_⟩
 ·rw[q];cases e:f s with
  | none=>exact absurd W2.nil ((U s).1 e 0 0)
  | some c =>
   obtain⟨w,l⟩:=(U s).2 c e;let nn:=w.nonneg K;let:=l 0 0 .nil;unfold lt2 at this;simp only at this;let:c=(0,0):=Prod.ext (by simp only;left) (by simp only;left);rw[this]
 ·rw[O];exact (hg s).1 rfl
 ·intro v c e ne;rw[q] at e;rw[O];exact (hg v).2.1 ne (by rw[e];exact λ z=>by cases z)
 ·intro v c e;rw[q] at e;exact (((U v).2 c e).1.nonneg K).1
 ·intro u v l k c m e;rw[q] at e;let w:=((U u).2 c e).1.snoc m;cases ev:f v with
  | none=>exact absurd w ((U v).1 ev _ _)
  | some c' =>
   exact⟨c',by rw[q,ev],((U v).2 c' ev).2 _ _ w⟩
 ·intro v u e;rw[O] at e;obtain⟨l,k,F,m,e1,e2⟩:=(hg v).2.2 u e;exact⟨l,k,F,m,by rw[q];exact e1,by rw[q];exact e2⟩
end Far
namespace Stb
open PySem
def Asc (xs:Array Nat):Prop:=∀ i j,i<j->j<xs.size->xs.getD i 0<xs.getD j 0
theorem kD (xs:Array Nat)(j:Nat)(asc:Asc xs):∀ (fuel lo hi:Nat),lo<=hi->hi<=xs.size->hi-lo<=fuel->(∀ i,i<lo->xs.getD i 0<j)->(∀ i,hi<=i->i<xs.size->j<=xs.getD i 0) ->
  (∀ i,i<SetTable.below.go xs j fuel lo hi->xs.getD i 0<j)/\(∀ i,SetTable.below.go xs j fuel lo hi<=i->i<xs.size->j<=xs.getD i 0)/\SetTable.below.go xs j fuel lo hi<=xs.size
 | 0,lo,hi,h1,h2,h3,a,b=>by
  let e:lo=hi:=by left
  subst e;exact⟨a,b,h2⟩
 | fuel+1,lo,hi,h1,h2,h3,a,b=>by
  unfold SetTable.below.go;by_cases c:lo<hi
  ·rw[uh2 c];let F:(lo+hi) / 2<xs.size:=by left
   let O:xs.getD ((lo+hi) / 2) j=xs.getD ((lo+hi) / 2) 0:=by rw[ubd,ubd,ubh F];rfl
   by_cases d:xs.getD ((lo+hi) / 2) j<j
   ·simp only [uh2 d];exact kD xs j asc fuel _ hi (by left) h2 (by left) (λ i q=>?_) b;rcases ugq (Nat.le_of_lt_succ q) with z | z
    ·let:=asc i _ z F;left
    ·rw[z];left
   ·simp only [uh3 d];exact kD xs j asc fuel lo _ (by left) (by left) (by left) a (λ i q hs=>?_);rcases ugq q with z | z
    ·let:=asc _ i z hs;left
    ·rw[← z];left
  ·rw[uh3 c];let e:lo=hi:=by left
   subst e;exact⟨a,b,h2⟩
theorem iY (xs:Array Nat)(j:Nat)(asc:Asc xs):(∀ i,i<SetTable.below xs j->xs.getD i 0<j)/\(∀ i,SetTable.below xs j<=i->i<xs.size->j<=xs.getD i 0)/\SetTable.below xs j<=xs.size:=by
 unfold SetTable.below;exact kD xs j asc _ 0 xs.size (uae _) (i8 _) (by left) (λ i h=>by left) (λ i h1 h2=>by left)
theorem xO (xs:Array Nat)(asc:Asc xs){i p:Nat}(h:xs[i]?=some p):SetTable.below xs (p+1)=i+1:=by
 obtain⟨hi,e⟩:=uhb.mp h;let q:xs.getD i 0=p:=by rw[ubd,h];rfl
 obtain⟨h1,h2,h3⟩:=iY xs (p+1) asc;rcases ufq (SetTable.below xs (p+1)) (i+1) with z | z | z
 ·let:=h2 i (by left) hi;left
 ·exact z
 ·let a:=h1 (i+1) z;let b:=asc i (i+1) (by left) (by left);left
theorem xN (xs:Array Nat)(asc:Asc xs):SetTable.below xs 0=0:=by
 obtain⟨h1,_,_⟩:=iY xs 0 asc;rcases ugr (SetTable.below xs 0) with z | z
 ·exact z
 ·let:=h1 0 z;left
theorem Asc.list {xs:Array Nat}:Asc xs↔xs.toList.Pairwise (·<·):=by
 rw[ucf];let g:∀ i (h:i<xs.toList.length),xs.getD i 0=xs.toList[i]:=λ i h=>by
  let h':i<xs.size:=by simpa using h
  rw[ubd,ubh h'];simp
 constructor
 ·intro a i j hi z F;let:=a i j F (by simpa using z);rw[g i hi,g j z] at this;exact this
 ·intro a i j F z;let q:j<xs.toList.length:=by simpa using z
  let:=a i j (by left) q F;rw[g i (by left),g j q];exact this
theorem xR {xs:Array Nat}{j:Nat}(asc:Asc xs)(new:xs[SetTable.below xs j]?≠some j):Asc (SetTable.insertAt xs (SetTable.below xs j) j):=by
 obtain⟨h1,h2,h3⟩:=iY xs j asc;rw[Asc.list,SetTable.toList_insertAt];let U:=Asc.list.mp asc;let g:∀ i (h:i<xs.size),xs.getD i 0=xs[i]:=λ i h=>by rw[ubd,ubh h];rfl
 let lo:∀ x∈xs.toList.take (SetTable.below xs j),x<j:=λ x q=>by
  obtain⟨i,hi,e⟩:=ugh q;rw[o8] at hi;let hs:i<xs.size:=by simp at hi;left
  let:=h1 i (by left);rw[g i hs] at this;rw[List.getElem_take] at e;let e':xs[i]=x:=by simpa using e
  left
 let hi:∀ x∈xs.toList.drop (SetTable.below xs j),j<x:=λ x q=>by
  obtain⟨i,hi,e⟩:=ugh q;rw[m9] at hi;let hs:SetTable.below xs j+i<xs.size:=by simp at hi;left
  let:=h2 (SetTable.below xs j+i) (by left) hs;rw[g _ hs] at this;rw[List.getElem_drop] at e;let e':xs[SetTable.below xs j+i]=x:=by simpa using e
  rcases ugq this with z | z
  ·left
  ·exfalso;rcases ugr i with F | F
   ·subst F;apply new;rw[ubh (by left)];simp at z;rw[← z]
   ·let b0:SetTable.below xs j<xs.size:=by left
    let q1:=h2 (SetTable.below xs j) (i8 _) b0;let q2:=asc (SetTable.below xs j) (SetTable.below xs j+i) (by left) hs;rw[g _ hs] at q2;left
 exact List.pairwise_append.mpr ⟨U.sublist (List.take_sublist _ _),uea.mpr ⟨λ x q=>hi x q,U.sublist (List.drop_sublist _ _)⟩,λ a O b hb=>?_⟩;rcases j4.mp hb with z | z
 ·rw[z];exact lo a O
 ·let:=lo a O;let:=hi b z;left
theorem zad (n:Nat):Asc (Array.range n):=by
 rw[Asc.list];simpa using ubw
def TI (b:Bool)(t:SetTable):Prop:=Asc t.place/\t.led=b
theorem zar (b:Bool):TI b (.fresh 0 0 b):=⟨λ i j _ h=>by simp [SetTable.fresh] at h,rfl⟩
theorem gL {b:Bool}{t:SetTable}(h:TI b t)(n:Nat):TI b (t.standIn n):=⟨zad n,h.2⟩
theorem zem {b:Bool}{t:SetTable}(h:TI b t)(n:Nat):TI b (t.orStandIn n):=by
 unfold SetTable.orStandIn;split
 ·exact h
 ·exact gL h n
theorem zaq {b:Bool}{t:SetTable}(h:TI b t):TI b { t with plain:=false }:=h
theorem oH {t:SetTable}{j:Nat}(h:t.slot j=.empty\/t.slot j=.dummy):t.place[SetTable.below t.place j]?≠some j:=λ e=>by
 unfold SetTable.slot at h;let c:(t.place[SetTable.below t.place j]?==some j)=true:=by rw[e];simp
 simp only [c,if_true] at h;rcases h with h | h <;> cases h
theorem iR (t:SetTable)(hashAt:Nat->Int)(h:Int):∀ (f:Nat)(p:SetTable.Probe),(∀ d,p.dummy=some d->t.slot d=.dummy)->∀ j dm,SetTable.probe.go t hashAt h f p=some (.empty j dm)->t.slot j=.empty/\∀ d,dm=some d->t.slot d=.dummy
 | 0,p,_,j,dm,e=>by cases e
 | f+1,p,hp,j,dm,e=>by
  let z:∀ q:SetTable.Probe,(t.advance q).dummy=q.dummy:=λ q=>by
   unfold SetTable.advance;split <;> rfl
  unfold SetTable.probe.go at e;split at e
  ·rename_i hs;injection e with e;injection e with e1 e2;subst e1;subst e2;exact⟨hs,hp⟩
  ·rename_i hs;exact iR t hashAt h f _ (λ d F=>?_) j dm e;rw[z] at F;let:p.j=d:=by simpa using F
   rw[← this];exact hs
  ·split at e
   ·cases e
   ·exact iR t hashAt h f _ (λ d F=>?_) j dm e;rw[z] at F;exact hp d F
theorem zbb {t:SetTable}{h:Int}{s:Nat}{w:Bool}(e:t.freeSlot h=some (s,w)):t.place[SetTable.below t.place s]?≠some s:=by
 unfold SetTable.freeSlot at e;split at e
 ·rename_i j q z;unfold SetTable.probe at z;obtain⟨h1,h2⟩:=iR t _ h _ _ (λ d F=>by cases F) j q z;injection e with e;injection e with e1 _;cases q with
  | none=>exact oH (.inl (by rw[← e1];exact h1))
  | some d=>exact oH (.inr (by rw[← e1];exact h2 d rfl))
 ·cases e
theorem yG {b:Bool}{t:SetTable}(h:TI b t)(es:Array (Int × i5))(k:Int)(x:i5):TI b (layNew t es k x).2.1:=by
 unfold layNew;split
 ·rename_i s w e;exact zem (t:=(t.put s).1) ⟨xR h.1 (zbb e),h.2⟩ _
 ·exact gL h _
theorem kK {f:Nat->Option Nat}(hf:∀ j y,f j=some y->y=j):∀ l:List Nat,(l.filterMap f).Sublist l
 | []=>.slnil
 | j::l=>by
  rw[ucv];cases e:f j with
  | none=>exact (kK hf l).cons j
  | some y=>rw[hf j y e];exact (kK hf l).cons₂ j
theorem zap {b:Bool}{t:SetTable}(h:TI b t)(es:Array (Int × i5))(wanted:Nat):TI b (relayAll t es wanted).2.1:=by
 unfold relayAll;split
 ·rename_i t' O e;dsimp only;split
  ·unfold SetTable.relaid SetTable.laid at e;simp only [Option.bind_eq_bind,ufl] at e;obtain⟨q,_,e⟩:=e;injection e with e;injection e with e1 _;rw[← e1];refine⟨?_,h.2⟩;rw[Asc.list];simp only [udi];refine ubw.sublist (kK (λ j y F=>?_) _);cases c:q.getD j none with
   | none=>rw[c] at F;cases F
   | some z=>rw[c] at F;exact (uaz F).symm
  ·exact gL h _
 ·exact gL h _
end Stb
namespace Stb
open PySem PyProof.Rows
def ledOf (w:uaw):Bool:=!w.params.followText "set-order"
def TIat (w:uaw)(h:Heap)(a:o7):Prop:=∃ o es ep t,h.get? a=some o/\o.data=.set es ep t/\TI (ledOf w) t
abbrev SetT (P:o9)(w:uaw)(h:Heap)(a:o7)(S:Int->Bool)(n:Nat):Prop:=h.SetOf (intKind P w) a S n/\TIat w h a
section
variable {prog:o9}{w:uaw}{A:uax}{E:i5->i6->Prop}{s:i6}
theorem SetT.keep {h h':Heap}{a:o7}{S:Int->Bool}{n:Nat}(x:SetT prog w h a S n)(k:∀ o,h.get? a=some o->h'.get? a=some o):SetT prog w h' a S n:=by
 obtain⟨⟨o,es,ep,t,U,r⟩,o',z,F,t',q,O⟩:=x;exact⟨⟨o,es,ep,t,k _ U,r⟩,o',z,F,t',k _ q,O⟩
theorem oR {g:Bool->Sem Unit}(gp:∀ (b:Bool) (z:i6) (U:Unit->i6->Prop),U () z->j7 (v4 prog w) A (g b) U E z){S':Int->Bool}
  {a:o7} {o:Obj} {es es1:Array (Int × i5)} {ep:Nat} {t t2:SetTable} (ho:s.heap.get? a=some o) (ox:o.ExactSet) (od:o.data=.set es ep t)
  (el:ElemsOf ‹44› es1.toList) (me:∀ k,S' k=true↔∃ e∈es1.toList,‹44›.is k e.2=true) (small:es1.size<scanBound) (fit:t2.fits es1.size=true) (ti:TI (ledOf w) t2) {dum:Bool} {R:Option Bool->i6->Prop}
  (fin:∀ h',Heap.SameBut a s.heap h'->SetT prog w h' a S' es1.size->R (some true) { s with heap:=h' }) :
  j7 (v4 prog w) A (do
      storeSet a es1 t2
      if (!dum&&t2.tooFull) = true then do
          g (relayAll t2 es1 ‹105›).2.2
          storeSet a (relayAll t2 es1 ‹105›).1 (relayAll t2 es1 ‹105›).2.1
          pure (some true)
        else pure (some true)) R E s:=by
 exact a7 (ucz ho od ?_ (uc0 small));obtain⟨g1,s1⟩:=ufg (knd:=intKind prog w) ho ox od el me small fit;let sb:=ua8 s.heap a (Obj.putSet es1 t2);split
 ·have F:=relayAll_perm t2 es1 ‹105›;have fr:=relayAll_fits t2 es1 ‹105›;have tr:=zap ti es1 ‹105›;generalize relayAll t2 es1 ‹105›=Rl at F fr tr ⊢;obtain⟨O,t3,gv⟩:=Rl;dsimp only at F fr tr ⊢;have sz:O.size=es1.size:=by rw[← r8,F.length_eq,r8]
  let aa:O.size<scanBound:=sz ▸ small;exact a7 (gp _ _ _ (a7 (ucz g1 rfl ?_ (uc0 aa))));obtain⟨g2,s2⟩:=ufg (knd:=intKind prog w) g1 ox rfl (el.perm F) (λ k=>(me k).trans ⟨λ ⟨e,he,q⟩=>⟨e,F.mem_iff.mpr he,q⟩,λ ⟨e,he,q⟩=>⟨e,F.mem_iff.mp he,q⟩⟩) aa fr;rw[sz] at s2;exact c7 (fin _ (sb.trans (ua8 _ a _)) ⟨s2,P,P,g2,rfl,tr⟩)
 ·exact c7 (fin _ sb ⟨s1,P,P,g1,rfl,ti⟩)
theorem kX {a:o7}{S:Int->Bool}{n:Nat}{k:Int}{x:i5}{Q:Bool->i6->Prop}(kx:‹44›.is k x=true)(sx:x.scannable=true)(st:SetT prog w s.heap a S n)(room:n+1<scanBound)
  (fin:∀ h',Heap.SameBut a s.heap h'->SetT prog w h' a (λ y=>S y||decide (y=k)) (if S k then n else n+1)->Q (!S k) { s with heap:=h' }) :
  j7 (v4 prog w) A (setAddHashed a x (‹44›.hash k)) Q E s:=by
 obtain⟨⟨o,es,ep,t,ho,ox,od,el,me,small,ab,en⟩,o',ai,aj,t',ae,af,ti⟩:=st;rw[ho] at ae;cases ae;rw[od] at af;cases af;let aa:es.size+1<scanBound:=en ▸ room;unfold setAddHashed setAddHashedIn;exact uak (a7 (uar ho od ab ?_));dsimp only;rw[byScan_of sx small el,uh2 rfl];unfold setAddByScan;exact a7 (a7 (uca (a7 (wpAny_setScan_of kx ho od ab el ?_))));cases fd:List.findIdx? (λ e=>‹44›.is k e.2) es.toList with
 | some j =>
  dsimp only;obtain⟨jl,jp,_⟩:=ugn.mp fd;let sk:S k=true:=(me k).mpr ⟨es.toList[j],udd jl,jp⟩;exact c7 (c7 ?_);let ah:s={ s with heap:=s.heap }:=by cases s;rfl
  let q:=fin s.heap (ubq a s.heap) ⟨⟨o,es,ep,t,ho,ox,od,el,λ y=>by
   rw[uc6,decide_eq_true_eq,← me y];exact⟨λ z=>z.elim id (λ e=>e ▸ sk),.inl⟩,small,ab,by rw[sk];exact en⟩,o,es,ep,t,ho,od,ti⟩
  rw[sk] at q;rw[ah];exact q
 | none =>
  dsimp only;let sk:S k=false:=by
   cases c:S k with
   | false=>rfl
   | true=>obtain⟨e,he,hp⟩:=(me k).mp c;let:=uhl.mp fd e he;rw[hp] at this;cases this
  have pm:=layNew_perm t es (‹44›.hash k) x;have ft:=layNew_fits t es (‹44›.hash k) x;have tl:=yG ti es (‹44›.hash k) x;generalize layNew t es (‹44›.hash k) x=L at pm ft tl ⊢;obtain⟨O,t1,ak,gv⟩:=L;dsimp only at pm ft tl ⊢;rw[Array.toList_push] at pm;have ad:ElemsOf ‹44› O.toList:=(el.push kx sx).perm pm;have ac:∀ y,(S y||decide (y=k))=true↔∃ e∈O.toList,‹44›.is y e.2=true:=mem_push_iff kx me pm;have ez:O.size=es.size+1:=by rw[← r8,pm.length_eq,i7,r8];rfl
  let F:O.size<scanBound:=ez ▸ aa;let gw:∀ (b:Bool)(z:i6)(U:Unit->i6->Prop),U () z->j7 (v4 prog w) A (match b with | true=>rule "set.scan.the-table-gave-way" | false=>pure ()) U E z :=
   λ b z U hq=>by cases b <;> first | exact c7 hq | exact uca hq
  exact a7 (gw _ _ _ ?_);let last:∀ h',Heap.SameBut a s.heap h'->SetT prog w h' a (λ y=>S y||decide (y=k)) O.size->Q true { s with heap:=h' }:=λ h' sb z=>by
   let q:=fin h' sb;rw[sk] at q;rw[ez,en] at z;exact q z
  split
  ·exact a7 ?_;rw[hashByValue_scannable 8 sx];exact c7 (oR (λ b z U hq=>?_) ho ox od ad ac F ?_ ?_ λ h' sb z=>?_)
   ·cases b <;> first | exact c7 hq | exact uca hq
   ·split
    ·exact ft
    ·exact SetTable.fits_plain_off ft
   ·split
    ·exact tl
    ·exact zaq tl
   ·dsimp only;exact c7 (last h' sb z)
  ·exact a7 (c7 ?_);simp only [↓reduceIte];exact oR (λ b z U hq=>?_) ho ox od ad ac F ft tl λ h' sb z=>?_
   ·cases b <;> first | exact c7 hq | exact uca hq
   ·dsimp only;exact c7 (last h' sb z)
theorem qY {R:Result->i6->Prop}{I:o7}{fp wr:List o7}{G:Array GenState->Array GenState->Prop}{n:Nat}{P:Nat->i5->Prop}{St:Nat->i6->Prop}(W:WalksS prog w A.in1 I fp wr G n P St)(a:o7)(af:a∉fp)
  (val:Nat->Int) (hv:∀ i v,P i v->∃ t,v=.int (val i) t) (hb:n+1<scanBound) :
  ∀ (k i:Nat)(s:i6),n-i=k->i<=n->St i s->SetT prog w s.heap a (λ y=>(firstMet val i).any (·==y)) (firstMet val i).length ->
   (∀ s',Moved (a::wr) G s s'->SetT prog w s'.heap a (λ y=>(firstMet val n).any (·==y)) (firstMet val n).length->R (.ok (.ret .none)) s') ->
   codeAny (v4 prog w) A (.builtin "set.update.loop" ⟨[.ref a,.ref I],[]⟩) R s:=by
 let aw:a∉wr:=λ h=>af (W.sub _ h);let up:∀ b∈wr,b∈a::wr:=λ b hb=>j8 _ hb;intro k;induction k with
 | zero =>
  intro i s hk hi st x q;obtain rfl:i=n:=by left
  exact ubp ufk ?_;rw[Around.under_plainId udf _];show j7 _ A.in1 (pyNext (.ref I) >>= _) _ _ s;exact a7 (W.done s _ _ st λ s' z=>?_);show j7 _ A.in1 (ret Value.none) _ _ s';exact c7 (q s' (z.mono up) (x.keep λ o e=>z.heap a o aw e))
 | succ k ih =>
  intro i s hk hi st x q;let lt:i<n:=by left
  exact ubp ufk ?_;rw[Around.under_plainId udf _];show j7 _ A.in1 (pyNext (.ref I) >>= _) _ _ s;exact a7 (W.item i s _ _ lt st λ v s' hP F z=>?_);obtain⟨t,rfl⟩:=hv i v hP;let x':=x.keep (prog:=prog) λ o e=>z.heap a o aw e;show j7 _ A.in1 (holding [Value.int (val i) t] (setAdd a (.int (val i) t)) >>= _) _ _ s';exact a7 (uak ?_);unfold setAdd;exact uak (a7 (‹44›.pyHash (k:=val i) (intKind_is _ _ _ _) ?_));exact kX (s:={ s' with toks:=s'.toks+1 }) (intKind_is _ _ _ _) rfl x' (by let:=firstMet_length_le val i;left) λ h' sb x2=>?_;let x3:SetT prog w h' a (λ y=>(firstMet val (i+1)).any (·==y)) (firstMet val (i+1)).length :=
   ⟨SetOf_congr x2.1 (λ y=>by rw[firstMet_succ,step_any]) (by rw[firstMet_succ,step_length]),x2.2⟩
  exact c7 ⟨udh udf _,ih (i+1) _ (by left) lt (W.frame _ s' _ _ F (udc _) λ b hb o e=>?_) x3 λ O U x4=>?_⟩
  ·rw[sb.2 b (λ h:b=a=>af (by rw[← h];exact hb))];exact e
  ·exact q O (Moved.trans W.gtrans ((z.mono up).then_heap (udc _) λ b o hb e=>?_) U) x4;rw[sb.2 b (λ h:b=a=>hb (by rw[h];exact l9))];exact e
end
end Stb
namespace HT
open PySem PyProof.Rows
section
variable {prog:o9}{w:uaw}{A:uax}{E:i5->i6->Prop}{s:i6}
abbrev setS (ns:List Int)(m:Nat):Int->Bool:=λ x=>(firstMet ‹42› m).any λ y=>y==x
abbrev setN (ns:List Int)(m:Nat):Nat:=(firstMet ‹42› m).length
theorem oA {h:Heap}{t:o7}{xs:Array i5}(it:h.IsTuple t xs)(o:Obj):(h.push o).IsTuple t xs:=let ⟨q,e,r⟩:=it;⟨q,a9 _ e,r⟩
abbrev seto (led:Bool):Obj:={ cls:=.type "set",dict:=none,data:=.set #[] 0 (.fresh 0 0 led) }
theorem vJ {t:o7}{xs:Array i5}{ns:List Int}{Q:i5->i6->Prop}(hh:A.handled=none)(ht:s.heap.IsTuple t xs)(hi:IntsAre xs.toList ns)(hb:xs.size+1<scanBound)
  (h:∀ (h':Heap)(tk:Nat),h'.SetOf ‹44› ‹128› (setS ns xs.size) (setN ns xs.size)->(∀ b o,b<‹128›->s.heap.get? b=some o->h'.get? b=some o)->Q ‹32› { s with heap:=h',toks:=tk }) :
  j7 (v4 prog w) A (call (.type "set") [.ref t]) Q E s:=by
 obtain⟨c,tl,ar⟩:=v5.mro;let ak:=v5.made;let au:=v5.sub;exact wpAny_call (ugk ?_);show j7 _ _ (callAny (.type "set") _) _ _ _;exact c7 ⟨Code.quiet_builtin _ (by symm),ubp ufh ?_⟩;rw[Around.under_plain (ue0 "set" [.ref t] []) rfl];let h1:=v5.notType;let h2:=v5.canCreate;let ax:=ufn (.ref t)
 repeat (any_goals (first | assumption | wp_step))
 exact ude (PySem.code_set_new_1 (.ref t) (E:=E) (Q₁:=λ obj U=>∃ z:Bool,obj=.ref ‹128›/\U={ s with heap:=s.heap.push (seto z) }) λ z=>⟨z,rfl,rfl⟩) λ r U hr=>?_
 match r,hr with
 | .error e,hr=>exact hr
 | .ok .next,hr=>exact hr.elim
 | .ok .brk,hr=>exact hr.elim
 | .ok .cont,hr=>exact hr.elim
 | .ok (.ret obj),hr =>
  obtain⟨z,rfl,rfl⟩:=hr;let gS:(s.heap.push (seto z)).get? ‹128›=some (seto z):=i9 _ rfl;let hT:Shared.TypeIs { s with heap:=s.heap.push (seto z) } ‹32› "set":=⟨_,gS,rfl⟩;let aw:=v5.init.lookup;let av:=v5.init.bind ‹32›
  repeat (any_goals (first | assumption | wp_step))
  exact ude (ugo (R:=wants (λ r O=>r=.none/\∃ h' tk,O={ s with heap:=h',toks:=tk }/\h'.SetOf ‹44› ‹128› (setS ns xs.size) (setN ns xs.size)/\(∀ b o,b<‹128›->s.heap.get? b=some o->h'.get? b=some o)) E) v5.init.plain ufp (ufv hT ?_)) λ ae O q=>?_
  ·obtain⟨ot,ho,hc,m,hd⟩:=id ht;obtain⟨aq,ab,ai,F⟩:=ot;simp only at hc hd;subst hc hd;let al:(s.heap.push (seto z)).get? t=some { cls:=.type "tuple",dict:=ab,data:=.seq xs m,slots:=F }:=a9 _ ho;let f1:=uhq;let f2:=ugy;let f3:(Value.type "tuple"==Value.type "dict")=false:=by decide
   let af:(s.heap.push (seto z)).IsTuple t xs:=⟨_,al,rfl,m,rfl⟩;unfold Builtin.«set.__init__» noKeywords Builtin.Frozenset.updateFrom;generalize an:pyIter=PI
   wp_walk;subst an
   exact ufs af (a7 (ueu ?_));let lt:t<‹128›:=j5 ho;let ao:A.in1.in1.in1.handled=none:=by simp [hh]
   let aa:(s.heap.push (seto z)).objs.size=‹128›+1:=uan ..;let tI:t≠(s.heap.push (seto z)).objs.size:=by rw[aa];exact k8 (ubf lt)
   let am:‹128›∉[(s.heap.push (seto z)).objs.size,t]:=by
    rw[aa];simp only [j4,l7,or_false,not_or];exact⟨k8 (ucq _),(k8 lt).symm⟩
   let ad:∀ (i:Nat)(v:i5),xs[i]?=some v->∃ u,v=.int (‹42› i) u:=λ i v hv=>IntsAre.int_at hi i v (by rw[ub1];exact hv);exact codeAny_set_update_loopS ((Walks.tuple ao _ t tI xs).toS) ‹128› am ‹42› ad hb (xs.size-0) 0 _ (by left) (uae _) ?st ?s0 ?fin
   case st=>exact⟨⟨_,i9 _ rfl,M⟩,oA af _⟩
   case s0=>exact SetOf_congr ((setObjOf_fresh (knd:=intKind prog w) z).setOf (a9 _ gS) (by unfold scanBound;left)) (λ _=>rfl) rfl
   case fin =>
    rintro ⟨h',g',d',aj,ap⟩ hm ac;obtain rfl:g'=s.gens:=hm.gens;obtain rfl:d'=s.drawn:=hm.drawn;obtain rfl:ap=s.os:=hm.os;exact c7 (c7 ⟨rfl,h',aj,rfl,ac,λ b o ah e=>hm.heap b o ?_ (a9 _ (a9 _ e))⟩);rw[aa];simp only [j4,l7,or_false,not_or];exact⟨k8 ah,k8 (ubf ah)⟩
  ·match ae,q with
   | .error e,q=>exact q
   | .ok .next,q=>exact q.elim
   | .ok .brk,q=>exact q.elim
   | .ok .cont,q=>exact q.elim
   | .ok (.ret v),q =>
    obtain⟨rfl,h',tk,rfl,ac,hk⟩:=q
    repeat (any_goals (first | assumption | wp_step))
    exact h h' tk ac hk
end
end HT
namespace Stb
open PySem PyProof.Rows
section
variable {prog:o9}{w:uaw}{A:uax}{E:i5->i6->Prop}{s:i6}
abbrev emp (w:uaw):Obj:={ cls:=.type "set",dict:=none,data:=.set #[] 0 (.fresh 0 0 (ledOf w)) }
theorem rL (x:i5){U:i5->i6->Prop}(fin:U ‹32› { s with heap:=s.heap.push (emp w) }) :
  codeAny (v4 prog w) A (.call (.builtin "set.__new__") ⟨[.type "set",x],[]⟩) (wants U E) s:=by
 exact ugk ?_;show j7 _ A.in1 (checkBuiltinCall "set.__new__" ⟨[.type "set",x],[]⟩ >>= λ _=>again (.builtin "set.__new__" ⟨[.type "set",x],[]⟩)) _ _ s;exact a7 (wpAny_of_eq (PySem.F.newCall_set_1 x) (c7 ⟨udh uhs _,ubp PySem.F.entry_set_new ?_⟩));rw[Around.under_plainId uhs _];unfold Builtin.«set.__new__» Builtin.Frozenset.newClass;let q:=PySem.sub_set_self;obtain⟨O,g,d,tk,z⟩:=s;dsimp only
 wp_walk
 exact ub4 (c7 ?_);simp only [newObj];exact a7 (wpAny_alloc (c7 (c7 fin)))
theorem rP (h:Heap):SetT prog w (h.push (emp w)) h.objs.size (λ y=>(firstMet (λ i=>([]:List Int).getD i 0) 0).any (·==y)) 0 :=
 ⟨SetOf_congr ((setObjOf_fresh (knd:=intKind prog w) (ledOf w)).setOf (i9 _ rfl) (by unfold scanBound;left)) (λ _=>rfl) rfl,_,_,_,_,i9 _ rfl,rfl,zar _⟩
theorem zd3 {t:o7}{xs:Array i5}{ns:List Int}{Q:i5->i6->Prop}(hh:A.handled=none)(ht:s.heap.IsTuple t xs)(hi:IntsAre xs.toList ns)(hb:xs.size+1<scanBound)
  (fin:∀ (h':Heap)(tk:Nat),SetT prog w h' ‹128› (HT.setS ns xs.size) (HT.setN ns xs.size)->(∀ b o,b<‹128›->s.heap.get? b=some o->h'.get? b=some o)->Q ‹32› { s with heap:=h',toks:=tk }) :
  j7 (v4 prog w) A (call (.type "set") [.ref t]) Q E s:=by
 obtain⟨c,tl,ar⟩:=v5.mro;let am:=v5.made;let au:=v5.sub;exact wpAny_call (ugk ?_);show j7 _ _ (callAny (.type "set") _) _ _ _;exact c7 ⟨Code.quiet_builtin _ (by symm),ubp ufh ?_⟩;rw[Around.under_plain (ue0 "set" [.ref t] []) rfl];let h1:=v5.notType;let h2:=v5.canCreate;let ax:=ufn (.ref t)
 repeat (any_goals (first | assumption | wp_step))
 exact ude (rL (.ref t) (E:=E) (U:=λ obj O=>obj=.ref ‹128›/\O={ s with heap:=s.heap.push (emp w) }) ⟨rfl,rfl⟩) λ r O hr=>?_
 match r,hr with
 | .error e,hr=>exact hr
 | .ok .next,hr=>exact hr.elim
 | .ok .brk,hr=>exact hr.elim
 | .ok .cont,hr=>exact hr.elim
 | .ok (.ret obj),hr =>
  obtain⟨rfl,rfl⟩:=hr;let gS:‹79›.get? ‹128›=some (emp w):=i9 _ rfl;let hT:Shared.TypeIs { s with heap:=s.heap.push (emp w) } ‹32› "set":=⟨_,gS,rfl⟩;let av:=v5.init.lookup;let aw:=v5.init.bind ‹32›
  repeat (any_goals (first | assumption | wp_step))
  exact ude (ugo (R:=wants (λ r F=>r=.none/\∃ h' tk,F={ s with heap:=h',toks:=tk }/\SetT prog w h' ‹128› (HT.setS ns xs.size) (HT.setN ns xs.size)/\(∀ b o,b<‹128›->s.heap.get? b=some o->h'.get? b=some o)) E) v5.init.plain ufp (ufv hT ?_)) λ ad F q=>?_
  ·obtain⟨ot,ho,hc,m,hd⟩:=id ht;obtain⟨aq,aa,al,z⟩:=ot;simp only at hc hd;subst hc hd;let an:‹79›.get? t=some { cls:=.type "tuple",dict:=aa,data:=.seq xs m,slots:=z }:=a9 _ ho;let f1:=uhq;let f2:=ugy;let f3:(Value.type "tuple"==Value.type "dict")=false:=by decide
   let af:‹79›.IsTuple t xs:=⟨_,an,rfl,m,rfl⟩;unfold Builtin.«set.__init__» noKeywords Builtin.Frozenset.updateFrom;generalize ap:pyIter=PI
   wp_walk;subst ap
   exact ufs af (a7 (ueu ?_));let lt:t<‹128›:=j5 ho;let aj:A.in1.in1.in1.handled=none:=by simp [hh]
   let ab:‹79›.objs.size=‹128›+1:=uan ..;let tI:t≠‹79›.objs.size:=by rw[ab];exact k8 (ubf lt)
   let ao:‹128›∉[‹79›.objs.size,t]:=by
    rw[ab];simp only [j4,l7,or_false,not_or];exact⟨k8 (ucq _),(k8 lt).symm⟩
   let ae:∀ (i:Nat)(v:i5),xs[i]?=some v->∃ u,v=.int (‹42› i) u:=λ i v hv=>IntsAre.int_at hi i v (by rw[ub1];exact hv);exact qY ((Walks.tuple aj _ t tI xs).toS) ‹128› ao ‹42› ae hb (xs.size-0) 0 _ (by left) (uae _) ?st ?s0 ?fin
   case st=>exact⟨⟨_,i9 _ rfl,M⟩,HT.oA af _⟩
   case s0=>exact (rP s.heap).keep λ o e=>a9 _ e
   case fin =>
    rintro ⟨h',g',d',ai,ak⟩ hm ac;obtain rfl:g'=s.gens:=hm.gens;obtain rfl:d'=s.drawn:=hm.drawn;obtain rfl:ak=s.os:=hm.os;exact c7 (c7 ⟨rfl,h',ai,rfl,ac,λ b o ah e=>hm.heap b o ?_ (a9 _ (a9 _ e))⟩);rw[ab];simp only [j4,l7,or_false,not_or];exact⟨k8 ah,k8 (ubf ah)⟩
  ·match ad,q with
   | .error e,q=>exact q
   | .ok .next,q=>exact q.elim
   | .ok .brk,q=>exact q.elim
   | .ok .cont,q=>exact q.elim
   | .ok (.ret v),q =>
    obtain⟨rfl,h',tk,rfl,ac,hk⟩:=q
    repeat (any_goals (first | assumption | wp_step))
    exact fin h' tk ac hk
end
end Stb
namespace Stb
open PySem PyProof.Rows
theorem sl_next:Slot "set_iterator" "__next__" "set_iterator.__next__":=.of (owner:="set_iterator") (n:="__next__") (by rw[ugj,ue1];kernel_rfl) (by symm) (by symm) (by symm) (by first | exact .inl (by symm) | exact .inr (by symm)) (by rw[ud7];kernel_rfl)
theorem iE:entryFor table "set_iterator.__next__"=some Builtin.«set_iterator.__next__»:=entryFor_of_tree ‹113›
theorem pS:Manifest.owners.lookup (String.ofList ['r','o','t','a','r','e','t','i','_','t','e','s'].reverse)=some Manifest.sig_set_iterator:=by kernel_rfl
theorem iH (a:i5):argsOk "set_iterator.__next__" ⟨[a],[]⟩:=by
 unfold argsOk;rw[signature?_of (id:="set_iterator.__next__") (n:=['_','_','t','x','e','n','_','_']) (o:=['r','o','t','a','r','e','t','i','_','t','e','s']) ‹113› pS];kernel_rfl
theorem zc6:entryFor table "set.__iter__"=some Builtin.«frozenset.__iter__»:=ugu (id':="frozenset.__iter__") ‹113› rfl (by symm) ‹113›
theorem qQ {α:Type}{l:List α}{i:Nat}(h:i<l.length):(l[i]::l.eraseIdx i).Perm l:=by
 rw[List.eraseIdx_eq_take_drop_succ];refine ug2.symm.trans ?_;rw[← ufe h,uen]
theorem pQ {α:Type}(next:Nat->Nat):∀ (f k:Nat)(left:List α)(out:Array α),left.length=f->(pickOrder.go next f k left out).toList.Perm (out.toList++left)
 | 0,k,left,out,h=>by
  let:left=[]:=ufu.mp h;subst this;unfold pickOrder.go;simp
 | f+1,k,left,out,h=>by
  let lt:next k%left.length<left.length:=uhw _ (by left)
  unfold pickOrder.go;rw[d7 lt];dsimp only;exact (pQ next f (k+1) _ _ (by rw[uhf lt];left)).trans ?_;rw[Array.toList_push,ufm];exact uhg _ ?_;exact qQ lt
theorem mR {α:Type}(next:Nat->Nat)(xs:Array α):(pickOrder next xs).toList.Perm xs.toList:=by
 unfold pickOrder;simpa using pQ next xs.size 0 xs.toList #[] (by simp)
section
variable {prog:o9}{w:uaw}{A:uax}{E:i5->i6->Prop}{s:i6}
theorem xY {M:Model}{src:Source}{n:Nat}{Q:Nat->i6->Prop}(hn:n≠0)(h:∀ i,i<n->Q i { s with drawn:=s.drawn.bump src }):j7 M A (choose src n) Q E s:=λ Γ p q=>by
 unfold choose;rw[Sem.wp_choose];exact⟨hn,by exact h _ (uhw _ (Nat.pos_of_ne_zero hn))⟩
theorem lJ {α:Type}{M:Model}(n:Nat):∀ (xs:List α)(s:i6)(Q:List α->i6->Prop),xs.length=n->(∀ ys d',ys.Perm xs->Q ys { s with drawn:=d' })->j7 M A (drawOrder n xs) Q E s:=by
 induction n with
 | zero =>
  intro xs s Q h q;let:xs=[]:=ufu.mp h;subst this;unfold drawOrder;exact c7 (q [] s.drawn .nil)
 | succ n ih =>
  intro xs s Q h q;cases xs with
  | nil=>cases h
  | cons x xs =>
   unfold drawOrder;exact a7 (xY (by simp) λ i hi=>?_);rw[d7 hi];exact a7 (ih _ _ _ (by rw[uhf hi];simp at h ⊢;left) λ ys d' z=>c7 (q _ d' ?_));exact (List.Perm.cons _ z).trans (qQ hi)
end
end Stb
namespace Stb
open PySem PyProof.Rows
inductive Knd where
 | text
 | drawn (p:o7) (pl:List Nat)
 | places
def First (w:uaw)(a:o7)(es:Array (Int × i5))(ep:Nat)(t:SetTable)(ord:List (Int × i5))(i:Nat)(h:Heap)(first:i5):Knd->Prop
 | .text=>ledOf w=false/\ord=‹115›.toList/\∃ z:Nat,first=.int z 0
 | .drawn p pl=>first=.ref p/\h.IsTuple p ‹122›.toArray/\ord.length=pl.length/\∀ j k:Nat,pl[j]?=some k->∃ e,es[k]?=some e/\ord[j]?=some e
 | .places=>ledOf w=true/\(t.plain=true\/es.size<=1)/\ord=es.toList/\∃ z:Nat,first=.int z 0/\SetTable.below t.place z=i
def IsSet (h:Heap)(a:o7)(es:Array (Int × i5))(ep:Nat)(t:SetTable):Prop:=∃ o,h.get? a=some o/\o.cls=.type "set"/\o.data=.set es ep t
def IsIt (h:Heap)(I a:o7)(n ep i:Nat)(first:i5):Prop:=∃ o,h.get? I=some o/\o.cls=.type "set_iterator"/\o.data=.fields #[first,.int i 0,.ref a,.int n 0,.int ep 0]
section
variable {prog:o9}{w:uaw}{A:uax}{E:i5->i6->Prop}{s:i6}{a I:o7}{es:Array (Int × i5)}{ep:Nat}{t:SetTable}
theorem mV {Q:Option (i5 × Nat)->i6->Prop}{z i:Nat}(hs:IsSet s.heap a es ep t)(fit:t.fits es.size=true)(hl:ledOf w=false)
  (h:Q ((‹115›[i]?).map λ e=>(e.2,z)) s):j7 (v4 prog w) A (setNext a z i ep) Q E s:=by
 obtain⟨o,O,_,q⟩:=hs;let F:w.params.followText "set-order"=true:=by simpa [ledOf] using hl
 unfold setNext setsByText;exact a7 (uar O q fit ?_);exact a7 (a7 (ub4 (c7 ?_)));show j7 _ _ ‹111› _ _ _;rw[uh2 F];dsimp only;rw[uh3 (by simp)];exact a7 ?_;unfold setWalk setsByText;exact a7 (uar O q fit ?_);exact a7 (a7 (ub4 (c7 ?_)));show j7 _ _ ‹111› _ _ _;rw[uh2 F];exact a7 (ub4 (c7 (c7 h)))
theorem lN {Q:Option (i5 × Nat)->i6->Prop}{z i:Nat}(hs:IsSet s.heap a es ep t)(fit:t.fits es.size=true)(ti:TI (ledOf w) t)(hl:ledOf w=true)(hp:t.plain=true\/es.size<=1)
  (h:Q (match es[SetTable.below t.place z]?,t.place[SetTable.below t.place z]? with | some (_,x),some j=>some (x,j+1) | _,_=>none) s):j7 (v4 prog w) A (setNext a z i ep) Q E s:=by
 obtain⟨o,O,_,q⟩:=hs;let F:w.params.followText "set-order"=false:=by simpa [ledOf] using hl
 unfold setNext setsByText;exact a7 (uar O q fit ?_);exact a7 (a7 (ub4 (c7 ?_)));show j7 _ _ ‹111› _ _ _;rw[uh3 (by rw[F];exact p6)];dsimp only;show j7 _ _ (if (!t.plain&&decide (es.size>1))=true then _ else _) _ _ _;rw[uh3 (by rcases hp with z | z <;> simp [z])];show j7 _ _ ((if (!t.led&&!es.isEmpty)=true then unsupported "set:maker-not-led" else pure ()) >>= _) _ _ _;rw[uh3 (by rw[ti.2,hl];simp)];exact a7 (c7 (c7 h))
theorem IsIt.set0 {h:Heap}{n ep i:Nat}{first:i5}(x:IsIt h I a n ep i first)(v:i5):IsIt (h.update I (Obj.mapFields (·.setIfInBounds 0 v))) I a n ep i v:=by
 obtain⟨o,F,z,q⟩:=x;exact⟨_,ua7 _ F (Obj.isFreed_of_fields (Obj.data_mapFields q _)),(Obj.cls_mapFields ..).trans z,by rw[Obj.data_mapFields q];simp⟩
theorem IsIt.set1 {h:Heap}{n ep i:Nat}{first:i5}(x:IsIt h I a n ep i first):IsIt (h.update I (Obj.mapFields (·.setIfInBounds 1 (rawInt ((i:Int)+1))))) I a n ep (i+1) first:=by
 obtain⟨o,F,z,q⟩:=x;exact⟨_,ua7 _ F (Obj.isFreed_of_fields (Obj.data_mapFields q _)),(Obj.cls_mapFields ..).trans z,by rw[Obj.data_mapFields q];simp [rawInt]⟩
theorem oG {Q:PySem.Fin->i6->Prop}(hh:A.handled=none)(hE:∀ (e:i5) (h':Heap),(∀ b o,s.heap.get? b=some o->h'.get? b=some o)->Shared.TypeIs { s with heap:=h' } e "StopIteration"->E e { s with heap:=h' }) :
  j7 (v4 prog w) A (newExc (.type "StopIteration") [] >>= λ e=>raiseNew e) Q E s:=by
 exact a7 ?_;simp only [newExc,newTuple];exact a7 (uac ?_ (by size_fits));exact a7 (m:=firstArgMember _ _) (wpAny_of_eq (a:=Value.none) (by first | rfl | (simp only [firstArgMember];rfl)) (uac ?_ (by size_fits)));simp only [raiseNew];exact a7 (wpAny_handled ?_);rw[hh];exact a7 (c7 (wpAny_throw ?_));exact hE _ _ (λ b o e=>a9 _ (a9 _ e)) ?_;exact⟨_,i9 _ rfl,rfl⟩
section
variable {Q:Option i5->i6->Prop}{i:Nat}
theorem oV {x:i5}{z nx:Nat}(hs:IsSet s.heap a es ep t)(fit:t.fits es.size=true)(hit:IsIt s.heap I a es.size ep i (.int z 0))
  (hn:∀ (A':uax)(Q':Option (i5 × Nat)->i6->Prop)(E':i5->i6->Prop),Q' (some (x,nx)) s->j7 (v4 prog w) A' (setNext a z i ep) Q' E' s)
  (hQ:∀ h',IsIt h' I a es.size ep (i+1) (.int nx 0)->Heap.SameBut I s.heap h'->Q (some x) { s with heap:=h' }):j7 (v4 prog w) A (pyNext (.ref I)) Q E s:=by
 obtain⟨U,hi,O,di⟩:=id hit;obtain⟨o,ho,_,od⟩:=hs;unfold pyNext;exact a7 (ucm (v9 (name:=uai "__next__") ⟨U,hi,O⟩ sl_next (uaf sl_next ⟨U,hi,O⟩ iE ?_ (iH _))));show j7 _ _ (fieldsOf (.ref I) >>= _) _ _ s;exact a7 (ugt hi di ?_);show j7 _ _ (setEntries a >>= _) _ _ s;exact a7 (uc3 ho od fit ?_);dsimp only;rw[uh3 (by simp)];show j7 _ _ (setNext a z i ep >>= _) _ _ s;exact a7 (hn _ _ _ ?_);dsimp only;exact a7 (udk hi di (by simp) ?_);obtain⟨o1,q,aa,F⟩:=id (hit.set0 (rawInt nx));exact a7 (udk q F (by simp) (c7 ⟨x,rfl,c7 (hQ _ ?_ ((ua8 ..).trans (ua8 ..)))⟩));exact (hit.set0 (rawInt nx)).set1
theorem qA {z:Nat}(hh:A.handled=none)(hs:IsSet s.heap a es ep t)(fit:t.fits es.size=true)(hit:IsIt s.heap I a es.size ep i (.int z 0))
  (hn:∀ (A':uax)(Q':Option (i5 × Nat)->i6->Prop)(E':i5->i6->Prop),Q' none s->j7 (v4 prog w) A' (setNext a z i ep) Q' E' s)
  (hQ:∀ h',(∀ b o,b≠I->s.heap.get? b=some o->h'.get? b=some o)->Q none { s with heap:=h' }):j7 (v4 prog w) A (pyNext (.ref I)) Q E s:=by
 obtain⟨F,hi,q,O⟩:=id hit;obtain⟨o,ho,_,od⟩:=hs;unfold pyNext;exact a7 (ucm (v9 (name:=uai "__next__") ⟨F,hi,q⟩ sl_next (uaf sl_next ⟨F,hi,q⟩ iE ?_ (iH _))));show j7 _ _ (fieldsOf (.ref I) >>= _) _ _ s;exact a7 (ugt hi O ?_);show j7 _ _ (setEntries a >>= _) _ _ s;exact a7 (uc3 ho od fit ?_);dsimp only;rw[uh3 (by simp)];show j7 _ _ (setNext a z i ep >>= _) _ _ s;exact a7 (hn _ _ _ ?_);dsimp only;exact a7 (udk hi O (by simp) (oG hh λ e h' hk ty=>?_));exact a7 (ub3 (T:="StopIteration") (b:=true) ty uew (c7 (hQ _ λ b o U e=>hk b o ?_)));exact (uap _ _ (Ne.symm U)).trans e
theorem zav {x:i5}{p:o7}{pl:List Nat}{k:Nat}{hx:Int}(hs:IsSet s.heap a es ep t)(fit:t.fits es.size=true)(hit:IsIt s.heap I a es.size ep i (.ref p))(hp:s.heap.IsTuple p ‹122›.toArray)
  (hk:pl[i]?=some k) (he:es[k]?=some (hx,x)) (hQ:∀ h',IsIt h' I a es.size ep (i+1) (.ref p)->Heap.SameBut I s.heap h'->Q (some x) { s with heap:=h' }):j7 (v4 prog w) A (pyNext (.ref I)) Q E s:=by
 obtain⟨U,hi,F,di⟩:=id hit;obtain⟨o,ho,_,O⟩:=hs;obtain⟨ol,q,_,nl,z⟩:=hp;unfold pyNext;exact a7 (ucm (v9 (name:=uai "__next__") ⟨U,hi,F⟩ sl_next (uaf sl_next ⟨U,hi,F⟩ iE ?_ (iH _))));show j7 _ _ (fieldsOf (.ref I) >>= _) _ _ s;exact a7 (ugt hi di ?_);show j7 _ _ (setEntries a >>= _) _ _ s;exact a7 (uc3 ho O fit ?_);dsimp only;rw[uh3 (by simp)];show j7 _ _ (seqItems? (.ref p) >>= _) _ _ s;exact a7 (uay q z ?_);let ek:‹122›.toArray[i]?=some (.int k 0):=by rw[uf4,j0,hk];rfl
 simp only [uav,ek];show j7 _ _ (setNextDrawn a k ep >>= _) _ _ s;exact a7 ?_;unfold setNextDrawn;exact a7 (uar ho O fit ?_);dsimp only;rw[uh3 (by simp),he];exact c7 (a7 (udk hi di (by simp) (c7 ⟨x,rfl,c7 (hQ _ hit.set1 (ua8 ..))⟩)))
theorem zcj {p:o7}{pl:List Nat}(hh:A.handled=none)(hs:IsSet s.heap a es ep t)(fit:t.fits es.size=true)(hit:IsIt s.heap I a es.size ep i (.ref p))(hp:s.heap.IsTuple p ‹122›.toArray)
  (hk:pl[i]?=none) (hQ:∀ h',(∀ b o,b≠I->s.heap.get? b=some o->h'.get? b=some o)->Q none { s with heap:=h' }):j7 (v4 prog w) A (pyNext (.ref I)) Q E s:=by
 obtain⟨oi,hi,U,di⟩:=id hit;obtain⟨o,ho,_,od⟩:=hs;obtain⟨ol,O,_,nl,F⟩:=hp;unfold pyNext;exact a7 (ucm (v9 (name:=uai "__next__") ⟨oi,hi,U⟩ sl_next (uaf sl_next ⟨oi,hi,U⟩ iE ?_ (iH _))));show j7 _ _ (fieldsOf (.ref I) >>= _) _ _ s;exact a7 (ugt hi di ?_);show j7 _ _ (setEntries a >>= _) _ _ s;exact a7 (uc3 ho od fit ?_);dsimp only;rw[uh3 (by simp)];show j7 _ _ (seqItems? (.ref p) >>= _) _ _ s;exact a7 (uay O F ?_);let ek:‹122›.toArray[i]?=none:=by rw[uf4,j0,hk];rfl
 simp only [uav,ek];exact a7 (udk hi di (by simp) ?_);obtain⟨o1,q,aa,z⟩:=id (hit.set0 (rawInt 0));exact a7 (udk q z (by simp) (oG hh λ e h' hk ty=>?_));exact a7 (ub3 (T:="StopIteration") (b:=true) ty uew (c7 (hQ _ λ b o hb e=>hk b o ?_)));exact (uap _ _ (Ne.symm hb)).trans ((uap _ _ (Ne.symm hb)).trans e)
end
end
end Stb
namespace Stb
open PySem PyProof.Rows
theorem pM:Slot "set_iterator" "__iter__" "set_iterator.__iter__":=.of (owner:="set_iterator") (n:="__iter__") (by rw[ugj,ue1];kernel_rfl) (by symm) (by symm) (by symm) (by first | exact .inl (by symm) | exact .inr (by symm)) (by rw[ud7];kernel_rfl)
theorem zbj:entryFor table "set_iterator.__iter__"=some Builtin.«dict_keyiterator.__iter__»:=ugu (id':="dict_keyiterator.__iter__") ‹113› (by first | rfl | decide +kernel | (unfold String.splitOn;simp +decide [String.splitOnAux])) (by symm) ‹113›
theorem zdf (a:i5):argsOk "set_iterator.__iter__" ⟨[a],[]⟩:=by
 unfold argsOk;rw[signature?_of (id:="set_iterator.__iter__") (n:=['_','_','r','e','t','i','_','_']) (o:=['r','o','t','a','r','e','t','i','_','t','e','s']) ‹113› pS];kernel_rfl
section
variable {prog:o9}{w:uaw}{A:uax}{E:i5->i6->Prop}{s:i6}{a I:o7}{es:Array (Int × i5)}{ep:Nat}{t:SetTable}
theorem zI {Q:i5->i6->Prop}{n i:Nat}{f:i5}(hit:IsIt s.heap I a n ep i f)(h:Q (.ref I) s):j7 (v4 prog w) A (pyIter (.ref I)) Q E s:=by
 obtain⟨q,hi,z,F⟩:=id hit;exact uhc ⟨q,hi,z⟩ pM (uaf pM ⟨q,hi,z⟩ zbj ?_ (zdf _));show j7 _ _ (ret (.ref I)) _ _ s;exact c7 ⟨A,"set_iterator",_,⟨q,hi,z⟩,sl_next.lookup,h⟩
def fpK (I a:o7):Knd->List o7
 | .drawn p _=>[I,a,p]
 | _=>[I,a]
def StK (w:uaw)(a I:o7)(es:Array (Int × i5))(ep:Nat)(t:SetTable)(ord:List (Int × i5))(kd:Knd)(i:Nat)(h:Heap):Prop :=
 IsSet h a es ep t/\∃ first,IsIt h I a es.size ep i first/\First w a es ep t ord i h first kd
theorem kY (I a:o7):∀ kd,I∈fpK I a kd/\a∈fpK I a kd
 | .text=>by simp [fpK]
 | .drawn _ _=>by simp [fpK]
 | .places=>by simp [fpK]
theorem zaj {ord:List (Int × i5)}{kd:Knd}(hh:A.handled=none)(aI:a≠I)(fit:t.fits es.size=true)(ti:TI (ledOf w) t)(hpI:∀ p pl,kd=.drawn p pl->p≠I)(pm:ord.Perm es.toList) :
  Walks prog w A I (fpK I a kd) [I] ord.length (λ i v=>∃ e,ord[i]?=some e/\v=e.2) (StK w a I es ep t ord kd) where
 sub:=λ b hb=>by simp at hb;rw[hb];exact (kY I a kd).1
 frame:=λ i h h' st hk=>by
  obtain⟨⟨o,ho,r⟩,f,⟨oi,hi,ri⟩,fk⟩:=st;exact⟨⟨o,hk a (kY I a kd).2 o ho,r⟩,f,⟨oi,hk I (kY I a kd).1 oi hi,ri⟩,?_⟩;cases kd with
  | text=>exact fk
  | places=>exact fk
  | drawn p pl =>
   obtain⟨e,⟨op,U,rp⟩,rest⟩:=fk;exact⟨e,⟨op,hk p (by simp [fpK]) op U,rp⟩,rest⟩
 self:=λ i s Q E st hQ=>by
  obtain⟨_,f,hit,_⟩:=st;exact zI hit hQ
 item:=λ i s Q E hi st hQ=>by
  obtain⟨hs,f,hit,fk⟩:=st;let aa:∀ h',Heap.SameBut I s.heap h'->IsSet h' a es ep t:=λ h' O=>by
   obtain⟨o,ho,r⟩:=hs;exact⟨o,O.extBut a o aI ho,r⟩
  let kp:∀ h',Heap.SameBut I s.heap h'->∀ b o,b∉[I]->s.heap.get? b=some o->h'.get? b=some o:=λ h' O b o hb e=>O.extBut b o (λ z=>hb (by simp [z])) e;let oi:ord[i]?=some ord[i]:=d7 hi;cases kd with
  | text =>
   obtain⟨hl,eo,z,rfl⟩:=fk;have ei:‹115›[i]?=some ord[i]:=by rw[← ub1,← eo];exact oi
   exact oV (x:=ord[i].2) (nx:=z) hs fit hit (λ A' Q' E' q=>mV hs fit hl ?_) λ h' F O=>hQ _ h' s.toks ⟨_,oi,rfl⟩ ⟨aa h' O,_,F,hl,eo,z,rfl⟩ (kp h' O);rw[ei];exact q
  | places =>
   obtain⟨hl,U,eo,z,rfl,eb⟩:=fk;have ei:es[i]?=some ord[i]:=by rw[← ub1,← eo];exact oi
   let ac:t.place.size=es.size:=by
    simp only [SetTable.fits,m7,beq_iff_eq] at fit;exact fit.1
   let il:i<t.place.size:=by rw[ac];exact (uhb.mp ei).1
   let ab:t.place[i]?=some t.place[i]:=ubh il;exact oV (x:=ord[i].2) (nx:=t.place[i]+1) hs fit hit (λ A' Q' E' q=>lN hs fit ti hl U ?_) λ h' F O=>hQ _ h' s.toks ⟨_,oi,rfl⟩ ⟨aa h' O,_,F,hl,U,eo,_,rfl,xO _ ti.1 ab⟩ (kp h' O);rw[eb,ei,ab];exact q
  | drawn p pl =>
   obtain⟨rfl,U,el,hj⟩:=fk;let il:i<pl.length:=el ▸ hi;obtain⟨e,ek,eo⟩:=hj i _ (d7 il);obtain⟨hx,x⟩:=e;exact zav (x:=x) hs fit hit U (d7 il) ek λ h' F O=>hQ _ h' s.toks ⟨_,eo,rfl⟩ ⟨aa h' O,_,F,rfl,?_,el,hj⟩ (kp h' O);obtain⟨op,ad,rp⟩:=U;exact⟨op,O.extBut p op (hpI p pl rfl) ad,rp⟩
 done:=λ s Q E st hQ=>by
  obtain⟨hs,f,hit,fk⟩:=st;let lo:ord.length=es.size:=by rw[pm.length_eq,r8]
  let kp:∀ h':Heap,(∀ b o,b≠I->s.heap.get? b=some o->h'.get? b=some o)->∀ b o,b∉[I]->s.heap.get? b=some o->h'.get? b=some o:=λ h' k b o hb e=>k b o (λ z=>hb (by simp [z])) e;cases kd with
  | text =>
   obtain⟨hl,eo,z,rfl⟩:=fk;refine qA hh hs fit hit (λ A' Q' E' q=>mV hs fit hl ?_) λ h' k=>hQ h' s.toks (kp h' k);have:‹115›[ord.length]?=none:=by rw[← ub1,← eo,uag (i8 _)]
   rw[this];exact q
  | places =>
   obtain⟨hl,U,eo,z,rfl,eb⟩:=fk;exact qA hh hs fit hit (λ A' Q' E' q=>lN hs fit ti hl U ?_) λ h' k=>hQ h' s.toks (kp h' k);let:es[ord.length]?=none:=by rw[lo];simp
   rw[eb,this];exact q
  | drawn p pl =>
   obtain⟨rfl,U,el,hj⟩:=fk;exact zcj hh hs fit hit U (by rw[el,uag (i8 _)]) λ h' k=>hQ h' s.toks (kp h' k)
end
end Stb
namespace Stb
open PySem PyProof.Rows
section
variable {prog:o9}{w:uaw}{A:uax}{E:i5->i6->Prop}{s:i6}{a:o7}{es:Array (Int × i5)}{ep:Nat}{t:SetTable}
theorem za6 {Q:Bool->i6->Prop}(hs:IsSet s.heap a es ep t)(fit:t.fits es.size=true)(h:Q (ledOf w&&(!t.plain&&decide (es.size>1))) s):j7 (v4 prog w) A (setDrawn a) Q E s:=by
 obtain⟨o,z,_,q⟩:=hs;unfold setDrawn setsByText;exact a7 (uar z q fit ?_);exact a7 (a7 (ub4 (c7 (c7 h))))
theorem za5 {Q:i5->i6->Prop}(hs:IsSet s.heap a es ep t)(fit:t.fits es.size=true)(ti:TI (ledOf w) t)(small:es.size<=4096)
  (h:∀ (I:o7)(h':Heap)(d':Drawn)(ord:List (Int × i5))(kd:Knd),(∀ b o,s.heap.get? b=some o->h'.get? b=some o)->‹128›<=I->(∀ p pl,kd=.drawn p pl->p≠I/\‹128›<=p)->ord.Perm es.toList->StK w a I es ep t ord kd 0 h' ->
   Q (.ref I) { s with heap:=h',drawn:=d' }):j7 (v4 prog w) A (pyIter (.ref a)) Q E s:=by
 obtain⟨o,ho,oc,od⟩:=id hs;exact uhc ⟨o,ho,oc⟩ uhr (uaf uhr ⟨o,ho,oc⟩ zc6 ?_ (PySem.F.args_set_iter_1 _));unfold Builtin.«frozenset.__iter__» Builtin.Frozenset.sizeOf;show j7 _ _ ((setEntries a >>= λ x=>pure x.size) >>= _) _ _ s;exact a7 (a7 (uc3 ho od fit (c7 (a7 (za6 hs fit ?_)))));let q : ∀ (h1 : Heap)(first : i5)(d' : Drawn)(ord : List (Int × i5))(kd : Knd), (∀ b o, s.heap.get? b = some o → h1.get? b = some o) → ‹128› <= h1.objs.size → (∀ p pl, kd = .drawn p pl → p<h1.objs.size /\ ‹128› <= p) → ord.Perm es.toList → (∀ h', (∀ b o, h1.get? b = some o → h'.get? b = some o) → First w a es ep t ord 0 h' first kd) →
     j7 (v4 prog w) A.in1 (setEpoch a >>= λ e=>newFields "set_iterator" [first,rawInt 0,.ref a,rawInt es.size,rawInt e] >>= λ v=>ret v) (λ ab s'=>∃ v,ab=.done (.ret v)/\∃ T' r,s'.TypeIs v T'/\typeLookup (.type T') (uai "__next__")=pure (some r)/\Q v s') E { s with heap:=h1,drawn:=d' }:=λ h1 first d' ord kd z sz hp pm hf=>by
  exact a7 (udx (z a o ho) od fit (a7 (uac (c7 ⟨A,"set_iterator",_,⟨_,i9 _ rfl,rfl⟩,sl_next.lookup,?_⟩))));exact h _ _ d' ord kd (λ b o e=>a9 _ (z b o e)) sz (λ p pl e=>⟨k8 (hp p pl e).1,(hp p pl e).2⟩) pm ⟨⟨o,a9 _ (z a o ho),oc,od⟩,first,⟨_,i9 _ rfl,rfl,rfl⟩,hf _ λ b o e=>a9 _ e⟩
 dsimp only;let O:s={ s with heap:=s.heap,drawn:=s.drawn }:=by cases s;rfl
 by_cases c:(ledOf w&&(!t.plain&&decide (es.size>1)))=true
 ·rw[uh2 c];exact a7 (lJ _ _ _ _ (by simp) λ ys d' pm=>?_);let yl:ys.length=es.size:=by rw[pm.length_eq,uaa]
  let U:es.size<=p8:=by rw[ubn];left
  exact a7 (uac ?_ (by show (ys.map λ i=>rawInt (i:Nat)).toArray.size<=p8;simpa [yl] using U));let aa:∀ k∈ys,∃ e,es[k]?=some e:=λ k z=>by
   let:k<es.size:=by simpa using pm.mem_iff.mp z
   exact⟨_,ubh this⟩
  let fm:∀ l:List Nat,(∀ k∈l,∃ e,es[k]?=some e)->(l.filterMap (es[·]?)).length=l.length/\∀ j k:Nat,l[j]?=some k->∃ e,es[k]?=some e/\(l.filterMap (es[·]?))[j]?=some e:=λ l=>by
   induction l with
   | nil=>exact λ _=>⟨rfl,λ j k e=>by simp at e⟩
   | cons x l ih =>
    intro hx;obtain⟨e,he⟩:=hx x (by simp);obtain⟨h1,h2⟩:=ih λ k z=>hx k (j8 _ z);rw[List.filterMap_cons_some (b:=e) he];exact⟨by simp [h1],λ j k ej=>?_⟩;cases j with
    | zero=>simp at ej;subst ej;exact⟨e,he,rfl⟩
    | succ j=>simp only [List.getElem?_cons_succ] at ej ⊢;exact h2 j k ej
  obtain⟨f1,f2⟩:=fm ys aa;exact q _ ‹32› d' (ys.filterMap (es[·]?)) (.drawn ‹128› ys) (λ b o e=>a9 _ e) (by rw[uan];exact udc _) (λ p pl e=>by cases e;rw[uan];exact⟨ucq _,i8 _⟩) ?_ λ h' k=>⟨rfl,⟨_,k _ _ (i9 _ rfl),rfl,_,rfl⟩,f1,f2⟩;exact (pm.filterMap _).trans (by rw[filterMap_getElem?_range])
 ·rw[uh3 c];exact a7 (c7 ?_);cases cl:ledOf w with
  | false =>
   rw[O];exact q s.heap (rawInt 0) s.drawn _ .text (λ _ _ e=>e) (i8 _) (λ p pl e=>nomatch e) (mR _ es) λ h' k=>⟨cl,rfl,0,rfl⟩
  | true =>
   rw[O];exact q s.heap (rawInt 0) s.drawn es.toList .places (λ _ _ e=>e) (i8 _) (λ p pl e=>nomatch e) (.refl _) λ h' k=>⟨cl,?_,rfl,0,rfl,xN _ ti.1⟩;rw[cl] at c;cases pl:t.plain with
   | true=>exact .inl rfl
   | false=>rw[pl] at c;exact .inr (by simpa using c)
theorem za8 {Q:Bool->i6->Prop}(hT:s.TypeIs (.ref a) "set")(h:Q false s):j7 (v4 prog w) A (Builtin.List.listLengthHint (.ref a)) Q E s:=by
 unfold Builtin.List.listLengthHint;exact a7 (uel hT PySem.F.slot_set_len.lookup ?_);generalize q:("set.__len__":String)=O
 wp_delta
 rw[show splitId O=some ("set","__len__") from by subst q;decide +kernel];subst q;exact a7 (ub3 (T:="set") (b:=true) hT (by rw[ud7];kernel_rfl) (u4 ‹40› λ _=>?_));exact u4 (λ _=>a7 (ucx hT (c7 h))) (λ z=>absurd (by symm) z)
theorem iC:∀ l:List (Int × i5),ElemsOf ‹44› l->∃ ks,IntsAre (l.map (·.2)) ks/\ks.length=l.length/\∀ k,k∈ks↔∃ e∈l,‹44›.is k e.2=true
 | [],_=>⟨[],.nil,rfl,λ k=>by simp⟩
 | e::l,h=>by
  obtain⟨ks,h1,h2,h3⟩:=iC l h.tail;obtain⟨⟨k,F,_⟩,_⟩:=h.head;obtain⟨O,x⟩:=e;obtain⟨u,rfl⟩:=Value.isInt_shape F;exact⟨k::ks,.cons k u h1,by simp [h2],λ y=>?_⟩;rw[j4,h3 y];constructor
  ·rintro (rfl | ⟨e,z,q⟩)
   ·exact⟨_,l9,F⟩
   ·exact⟨e,j8 _ z,q⟩
  ·rintro ⟨e,z,q⟩;rcases j4.mp z with rfl | z
   ·exact .inl (‹44›.inj _ _ _ q F)
   ·exact .inr ⟨e,z,q⟩
theorem zc4 {ord:List (Int × i5)}{acc:Array i5}(h:ItemsOf (λ i v=>∃ e,ord[i]?=some e/\v=e.2) acc ord.length):acc.toList=ord.map (·.2):=by
 exact ufw (by simp [h.1]) λ i h1 h2=>?_;let hi:i<acc.size:=by simpa using h1
 obtain⟨e,z,e2⟩:=h.2 i _ (ubh hi);let q:i<ord.length:=by simpa using h2
 rw[d7 q] at z;cases z;simpa using e2
theorem wI {Q:List i5->i6->Prop}{S:Int->Bool}{n:Nat}(hh:A.handled=none)(st:SetT prog w s.heap a S n)
  (hQ:∀ (h':Heap)(tk:Nat)(d':Drawn)(vs:List i5)(ks:List Int),(∀ b o,s.heap.get? b=some o->h'.get? b=some o)->IntsAre vs ks->ks.length=n->(∀ k,S k=true↔k∈ks)->Q vs { s with heap:=h',toks:=tk,drawn:=d' }) :
  j7 (v4 prog w) A (collect (.ref a)) Q E s:=by
 obtain⟨⟨o,es,ep,t,ho,ox,od,el,me,small,aa,en⟩,o',ak,al,t',ab,ad,ti⟩:=st;rw[ho] at ab;cases ab;rw[od] at ad;cases ad;unfold collect;exact a7 (ueu (ubp ueq ?_));rw[Around.under_plainId uep _];show j7 _ A.in1 (newList [] >>= λ l=>again (.builtin "list.__iadd__" ⟨[l,.ref a],[]⟩)) _ _ s;exact a7 (uac ?_);exact c7 ⟨udh ucp _,ubp ufj ?_⟩;rw[Around.under_plainId ucp _];show j7 _ A.in1 (Builtin.List.listExtendWith ‹32› (.ref a) ‹32›) _ _ _;let F:a<‹128›:=j5 ho;let hS:‹30›.get? ‹128›=some { cls:=.type "list",data:=.seq #[] }:=i9 _ rfl;let O:‹30›.objs.size=‹128›+1:=uan ..;unfold Builtin.List.listExtendWith;let tS:Shared.TypeIs { s with heap:=s.heap.push { cls:=.type "list",data:=.seq ([]:List i5).toArray } } (.ref a) "set":=⟨o,a9 _ ho,ox.1⟩;exact a7 (ucx (T:="set") tS ?_);let h1:Builtin.List.listSameRef ‹32› (.ref a)=false:=by simp only [Builtin.List.listSameRef,beq_eq_false_iff_ne];exact ub9 F
 let h2:(Value.type "set"==Value.type "list")=false:=by decide
 let h3:(Value.type "set"==Value.type "tuple")=false:=by decide
 simp only [h1,h2,h3,uhy,ubm,if_false];exact a7 (za5 (t:=t) ⟨o,a9 _ ho,ox.1,od⟩ aa ti (uga small) λ I h1 d1 ord kd hk lI hp pm ah=>?_);exact a7 (uak (za8 ⟨o,hk a o (a9 _ ho),ox.1⟩ ?_));exact u4 (λ _=>?_) (λ z=>absurd (by decide) z);exact a7 (uca ?_);exact a7 ?_;show j7 _ _ (updateSeq ‹128› (·.push .none) >>= λ _=>updateSeq ‹128› (·.pop)) _ _ _;let g1:=hk _ _ hS;exact a7 (uc2 g1 rfl ?_);let g2:=ua7 ‹71› g1 rfl;exact uc2 (hz:=by seq_fits) g2 rfl ?_;let g3:=ua7 (Obj.mapSeq (·.pop)) g2 rfl;let U:‹128›≠I:=k8 (u7 (by rw[O];exact ucq _) lI);let ac:‹128›∉fpK I a kd:=by
  cases kd with
  | text=>simp only [fpK,j4,l7,or_false,not_or];exact⟨U,ub9 F⟩
  | places=>simp only [fpK,j4,l7,or_false,not_or];exact⟨U,ub9 F⟩
  | drawn p pl =>
   simp only [fpK,j4,l7,or_false,not_or];exact⟨U,ub9 F,k8 (u7 (by rw[O];exact ucq _) (hp p pl rfl).2)⟩
 let aI:a≠I:=k8 (u7 (by rw[O];exact ubf F) lI);let W:=zaj (prog:=prog) (w:=w) (A:=A.in1) (ep:=ep) (ord:=ord) (kd:=kd) hh aI aa ti (λ p pl e=>(hp p pl e).1) pm;let kU:∀ b o,b≠‹128›->h1.get? b=some o->((h1.update ‹128› ‹71›).update ‹128› (Obj.mapSeq (·.pop))).get? b=some o:=λ b o hb e =>
  (uap _ _ (Ne.symm hb)).trans ((uap _ _ (Ne.symm hb)).trans e)
 let af:=W.frame 0 _ _ ah λ b hb o e=>kU b o (λ z=>ac (z ▸ hb)) e;let lo:ord.length=n:=by rw[pm.length_eq,r8,en]
 refine c7 ⟨udh ug9 _,codeAny_extend_loopS W.toS (by rw[lo,← en];exact uc0 small) ‹128› ac _ ord.length 0 _ #[] _ rfl (uae _) af g3 (ItemsOf.nil _) λ s' aj c' hm ai ae=>?_⟩;rw[Moved.eq_with hm];refine a7 (wpAny_load ai (c7 ?_));obtain⟨ks,i1,i2,i3⟩:=iC (prog:=prog) (w:=w) ord (el.perm pm);rw[zc4 ae];refine hQ _ _ _ _ ks (λ b o e=>hm.heap b o ?_ (kU b o (k8 (j5 e)) (hk b o (a9 _ e)))) i1 (i2.trans lo) λ k=>(me k).trans ?_
 ·simp only [j4,l7,or_false,not_or];let:=j5 e;exact⟨k8 this,k8 (u7 (by rw[O];exact ubf this) lI)⟩
 ·rw[i3 k];exact⟨λ ⟨e,he,q⟩=>⟨e,pm.mem_iff.mpr he,q⟩,λ ⟨e,he,q⟩=>⟨e,pm.mem_iff.mp he,q⟩⟩
end
end Stb
namespace L3
open PySem PySem.Spec PyProof.Rows L2
def tieAt (ts:List Tie)(k:Nat):Tie:=ts.getD k (0,0,0)
def arcs2 (t:Tie):List ‹49›:=[(t.1.toNat,t.2.1.toNat,t.2.2),(t.2.1.toNat,t.1.toNat,t.2.2)]
def arcs (ts:List Tie)(ks:List Nat):List ‹49›:=ks.flatMap λ k=>arcs2 (tieAt ts k)
theorem arcs_mem {ts:List Tie}{ks:List Nat}{a:Nat × Nat × Int}:a∈arcs ts ks↔∃ k,k∈ks/\a∈arcs2 (tieAt ts k):=by
 unfold arcs;rw[ub7]
theorem arcs2_mem {t:Tie}{a:Nat × Nat × Int}:a∈arcs2 t↔a=(t.1.toNat,t.2.1.toNat,t.2.2)\/a=(t.2.1.toNat,t.1.toNat,t.2.2):=by
 unfold arcs2;simp
theorem bN {ts:List Tie}{k:Nat}(h:k<ts.length):ts[k]?=some (tieAt ts k)/\tieAt ts k∈ts:=by
 let e:ts[k]?=some (tieAt ts k):=by unfold tieAt;rw[c8,d7 h];rfl
 exact⟨e,ual e⟩
theorem oX {s t:Tie}(h:endLt s t)(e1:s.1=t.1)(e2:s.2.1=t.2.1):False:=by
 rcases h with h | h
 ·exact Int.lt_irrefl _ (e1 ▸ h)
 ·exact Int.lt_irrefl _ (e2 ▸ h.2)
theorem zao {n:Int}{ts:List Tie}(ok:WebOk n ts){k k':Nat}(hk:k<ts.length)(hk':k'<ts.length)(e1:(tieAt ts k).1=(tieAt ts k').1)(e2:(tieAt ts k).2.1=(tieAt ts k').2.1):k=k':=by
 let O:∀ i j (hi:i<ts.length) (F:j<ts.length),i<j->endLt (tieAt ts i) (tieAt ts j):=λ i j hi F z=>by
  let q:=ucf.mp ok.rise i j hi F z;let g:∀ {i:Nat}(hi:i<ts.length),ts[i]=tieAt ts i:=λ {i} hi=>uaz ((d7 hi).symm.trans (bN hi).1)
  rwa [g hi,g F] at q
 rcases ufq k k' with z | z | z
 ·exact (oX (O k k' hk hk' z) e1 e2).elim
 ·exact z
 ·exact (oX (O k' k hk' hk z) e1.symm e2.symm).elim
section
variable {n:Int}{ts:List Tie}{ks:List Nat}
theorem zbs:Far.Sym (arcs ts ks):=λ u v l h=>by
 obtain⟨k,q,h⟩:=arcs_mem.mp h;exact arcs_mem.mpr ⟨k,q,arcs2_mem.mpr ?_⟩;rcases arcs2_mem.mp h with h | h <;> cases h
 ·exact .inr rfl
 ·exact .inl rfl
theorem hJ (ok:WebOk n ts)(ko:KeepOk ts.length ks):Far.Pos (arcs ts ks):=λ u v l h=>by
 obtain⟨k,q,h⟩:=arcs_mem.mp h;let:=ok.tie _ (bN (ko.2 k q)).2;rcases arcs2_mem.mp h with h | h <;> cases h <;> left
theorem kG (ok:WebOk n ts)(ko:KeepOk ts.length ks):∀ u v l,(u,v,l)∈arcs ts ks->u<n.toNat/\v<n.toNat:=λ u v l h=>by
 obtain⟨k,q,h⟩:=arcs_mem.mp h;let:=ok.tie _ (bN (ko.2 k q)).2;rcases arcs2_mem.mp h with h | h <;> cases h <;> left
end
def CV (H:Hp)(v:V):Option (Int × Int)->Prop
 | none=>v=.non
 | some e=>∃ t,v=.ref t/\H t=some (.tup [.int e.1,.int e.2])
theorem CV.keep {H H':Hp}(k:TupKeep H H'){v:V}:∀ {o:Option (Int × Int)},CV H v o->CV H' v o
 | none,h=>h
 | some e,⟨t,h1,h2⟩=>⟨t,h1,k _ _ h2⟩
def CostL (H:Hp)(vs:List V)(cs:List ‹37›):Prop:=vs.length=cs.length/\∀ i v,vs[i]?=some v->CV H v (Far.get cs i)
section
variable {H H' J J':Hp}{vs cvs avs ws:List V}{cs:List (Option (Int × Int))}{lw lc la t:o7}{n k:Nat}{x y:Int}
theorem CostL.keep (h:CostL H vs cs)(k:TupKeep H H'):CostL H' vs cs:=⟨h.1,λ i v e=>(h.2 i v e).keep k⟩
theorem CostL.set {v:V}{c:Int × Int}(h:CostL H vs cs)(hk:k<vs.length)(hv:CV H v (some c)):CostL H (vs.set k v) (cs.set k (some c)):=by
 refine⟨by rw[ucu,ucu];exact h.1,λ i u e=>?_⟩;rw[Far.bM (by rw[← h.1];exact hk)];rw[List.getElem?_set] at e;by_cases z:k=i
 ·subst z;rw[uh2 rfl,uh2 hk] at e;cases e;rw[uh2 rfl];exact hv
 ·rw[uh3 z] at e;rw[uh3 (Ne.symm z)];exact h.2 i u e
theorem CostL.first (n:Nat):CostL H (v6 n .non) (v6 n none):=by
 exact⟨by rw[ubg,ubg],λ i v e=>?_⟩;rw[Far.eO];rw[ued] at e;split at e
 ·cases e;rfl
 ·cases e
theorem fT {p:o7}{xs:List V}{o:HO}(h:J p=some (.lst xs)):TupKeep J (upd J p o):=λ a ys e=>by
 rw[aL (λ z=>by rw[z,h] at e;cases e)];exact e
theorem pL (s:Same J J'):TupKeep J J':=λ a xs e=>s _ _ e
structure RH (H J:Hp)(lw lc la:o7)(ws:List V)(n:Nat)(cs:List (Option (Int × Int))):Prop where
 same:Same H J
 fc:H lc=none
 fa:H la=none
 nwc:lw≠lc
 nwa:lw≠la
 nca:lc≠la
 wl:J lw=some (.lst ws)
 co:∃ cvs,J lc=some (.lst cvs)/\CostL J cvs cs
 ah:∃ avs,J la=some (.lst avs)/\avs.length=n
end
theorem pO {α:Type}(x:α):∀ k:Nat,(v6 k [x]).flatten=v6 k x
 | 0=>rfl
 | k+1=>by rw[uc9,uek,pO x k];rfl
def ov:Option Int->V
 | none=>.non
 | some x=>.int x
theorem rJ {D:List (Option Int)}{i:Nat}(h:i<D.length):(D.map ov)[i]?=some (ov (Far.get D i)):=by
 rw[j0,d7 h];unfold Far.get;rw[c8,d7 h];rfl
theorem bT {α:Type}{xs:List α}{i:Int}{x:α}(h0:0<=i)(h:xs[i.toNat]?=some x):atI xs i=some x:=by
 let hl:=(j9.mp h).1;unfold atI ixN;rw[uh2 h0,uh2 (by left)];exact h
theorem fP {n:Nat}{i:Int}(h0:0<=i)(h:i<n):ixN n i=some i.toNat:=by
 unfold ixN;rw[uh2 h0,uh2 h]
inductive rRep1_i  (x:V) (y:V) (H:Hp) (Q:VK):Prop
 | mk:∀ l k z,(x=.ref l)->(y=.int k)->(H l=some (.lst [z]))->(0<=k)->(k<=1000)->(∀ p H',Same H H'->H p=none->H' p=some (.lst (v6 k.toNat z))->Q (.ref p) H')->rRep1_i x y H Q
def rRep1 :R2:=λ x y H Q=>rRep1_i x y H Q
theorem pU {X:Cx}:OpR X (binaryOp .Mult) rRep1:=by
 intro pins s σ H x y v u Q I rx O h;obtain⟨l,k,z,rfl,rfl,U,h1,h2,q⟩:=h;exact zdy (X:=X) pins s σ H _ _ v u Q I rx O ⟨l,k,C,U,by left,by left,?_,λ p F=>q p _ (aU F) F (by rw[aM,pO])⟩;exact uaj (by show 1*k.toNat<=1000;left) (by decide:1000<=p8)
theorem dA {K:b8}{H:Hp}:∀ {ts:List Tie}{ws:List V}{k:Nat},IsAll K H (ts.map tieD) ws->k<ts.length->∃ a,ws[k]?=some (.ref a)/\H a=some (.tup [.int (tieAt ts k).1,.int (tieAt ts k).2.1,.int (tieAt ts k).2.2])
 | t::r,ws,0,h,_=>by
  obtain⟨v,vs,rfl,h1,_⟩:=h;obtain⟨a,xs,rfl,q,z⟩:=h1;let e:xs=(tieI t).map V.int:=IsAll.of_ints (ns:=tieI t) z;subst e;exact⟨a,rfl,q⟩
 | t::r,ws,k+1,h,hk=>by
  obtain⟨v,vs,rfl,_,h2⟩:=h;obtain⟨a,e,q⟩:=dA (ts:=r) (ws:=vs) (k:=k) h2 (by simpa using hk);exact⟨a,e,q⟩
theorem iU {K:b8}{H:Hp}{ks:List Nat}{v:V}(h:Is K H (keepD ks) v):∃ p,v=.ref p/\H p=some (.tup ((keepI ks).map V.int)):=by
 obtain⟨p,vs,rfl,z,q⟩:=h;let e:=IsAll.of_ints q;subst e;exact⟨p,rfl,z⟩
theorem jZ {ks:List Nat}{i:Nat}{x:V}(h:((keepI ks).map V.int)[i]?=some x):∃ k,ks[i]?=some k/\x=.int (k:Int):=by
 unfold keepI at h;rw[ua0,j0] at h;cases e:ks[i]? with
 | none=>rw[e] at h;cases h
 | some k=>rw[e] at h;cases h;exact⟨k,M⟩
theorem qH {H:Hp}{vs:List V}{cs:List ‹37›}{i:Int}(h:CostL H vs cs)(h0:0<=i)(hi:i.toNat<cs.length):∃ v,atI vs i=some v/\CV H v (Far.get cs i.toNat):=by
 let hl:i.toNat<vs.length:=by rw[h.1];exact hi
 let e:vs[i.toNat]?=some vs[i.toNat]:=d7 hl;exact⟨_,bT h0 e,h.2 _ _ e⟩
def pows (m:Nat):List V:=(d8 m).map λ i=>V.int (2^i)
theorem zcl {m i:Nat}(h:i<m):(pows m)[i]?=some (.int (2^i)):=by unfold pows;rw[j0,udb h];rfl
theorem yN (m:Nat):pows (m+1)=pows m++[.int (2^m)]:=by unfold pows;rw[ubx,uaq];rfl
theorem zdt {i:Nat}(h:i<60):(0:Int)<=2^i/\(2:Int)^i<=2^60:=by
 let e:((2^i:Nat):Int)=(2:Int)^i:=by norm_cast
 let:2^i<=2^60:=Nat.pow_le_pow_right (by decide) (by left);constructor
 ·rw[← e];exact ua3 _
 ·rw[← e];exact_mod_cast this
inductive spWeights_i (K:b8)(vs:List V)(H:Hp)(Q:VK):Prop
 | mk:∀ n ts v,(vs=[v])->(Is K H (webD n ts) v)->(ts.length<=60)->(∀ l H',Same H H'->H l=none->H' l=some (.lst (pows ts.length))->Q (.ref l) H')->spWeights_i K vs H Q
def spWeights (K:b8):Sp:=λ vs H Q _=>spWeights_i K vs H Q
inductive spCost_i (K:b8)(vs:List V)(H:Hp)(Q:VK):Prop
 | mk:∀ c x y l w,(vs=[.ref c,.int l,.int w])->(H c=some (.tup [.int x,.int y]))->(∀ t H',Same H H'->H' t=some (.tup [.int (x+l),.int (y+w)])->Q (.ref t) H')->spCost_i K vs H Q
def spCost (K:b8):Sp:=λ vs H Q _=>spCost_i K vs H Q
def WK (K:b8)(H:Hp)(n:Int)(ts:List Tie)(ks:List Nat)(wv kv:V):Prop:=Is K H (webD n ts) wv/\WebOk n ts/\Is K H (keepD ks) kv/\KeepOk ts.length ks
theorem WK.same {K:b8}{H H':Hp}{n:Int}{ts:List Tie}{ks:List Nat}{wv kv:V}(h:WK K H n ts ks wv kv)(s:Same H H'):WK K H' n ts ks wv kv:=⟨Is.same s _ h.1,h.2.1,Is.same s _ h.2.2.1,h.2.2.2⟩
inductive spReached_i (K:b8)(vs:List V)(H:Hp)(Q:VK):Prop
 | mk:∀ n ts ks wv kv r,(vs=[wv,kv,.int r])->‹74›->(0<=r)->(r<n)->(∀ p lc la cvs avs cs H',Same H H'->H' p=some (.tup [.ref lc,.ref la])->H' lc=some (.lst cvs)->H' la=some (.lst avs)->CostL H' cvs cs->Far.Good (arcs ts ks) n.toNat r.toNat cs->Far.Stab (arcs ts ks) cs->Q (.ref p) H')->spReached_i K vs H Q
def spReached (K:b8):Sp:=λ vs H Q _=>spReached_i K vs H Q
inductive spFars_i (K:b8)(vs:List V)(H:Hp)(Q:VK):Prop
 | mk:∀ n ts ks wv kv r,(vs=[wv,kv,.int r])->‹74›->(0<=r)->(r<n)->(∀ l D H',Same H H'->H l=none->H' l=some (.lst (D.map ov))->D.length=n.toNat->(∀ v,v<n.toNat->Far.Dst (arcs ts ks) r.toNat v (Far.get D v))->Q (.ref l) H')->spFars_i K vs H Q
def spFars (K:b8):Sp:=λ vs H Q _=>spFars_i K vs H Q
end L3
namespace HT
open PySem PyProof.Rows
open Sem (wp)
section
variable {prog:o9}{w:uaw}{A:uax}{E:i5->i6->Prop}{s:i6}
end
end HT
namespace L3
open PySem PySem.Spec PyProof.Rows L2
def hAt (hs:List Int)(a:Int):Int:=hs.getD a.toNat 0
def absI (i:Int):Int:=if i<0 then -i else i
def acrossI (ts:List Tie)(hs:List Int)(k:Nat):Int:=absI (hAt hs (tieAt ts k).1-hAt hs (tieAt ts k).2.1)
def holdB (n:Int)(ts:List Tie)(ks:List Nat)(hs:List Int):Bool:=decide (hs.length=n.toNat)&&ks.all λ k=>decide ‹98›
def capO (roof:Int):Option Int->Int
 | none=>roof
 | some x=>if roof<x then roof else x
theorem iJ {hs:List Int}{a:Int}(h0:0<=a)(h:a.toNat<hs.length):atI (hs.map V.int) a=some (.int (hAt hs a)):=by
 exact bT h0 ?_;rw[j0,d7 h];unfold hAt;rw[c8,d7 h];rfl
theorem vS:∀ hs:List Int,wholesB (.tuple (hs.map .int))=true:=λ hs=>by
 show (hs.map uei).all wholeB=true;rw[uck];exact v8.mpr λ _ _=>rfl
def IntT (H:Hp)(p:o7)(hs:List Int):Prop:=H p=some (.tup (hs.map V.int))/\hs.length<=1000
theorem IntT.same {H H':Hp}{p:o7}{hs:List Int}(h:IntT H p hs)(s:Same H H'):IntT H' p hs:=⟨s _ _ h.1,h.2⟩
theorem IntT.is {K:b8}{H:Hp}{p:o7}{hs:List Int}(h:IntT H p hs):Is K H (.tuple (hs.map .int)) (.ref p):=⟨p,A,h.1,IsAll.ints _⟩
def AllI (xs:List V):Prop:=∃ ns:List Int,xs=ns.map V.int
theorem zbq {n:Int}{ts:List Tie}{ks:List Nat}{D:List (Option Int)}{s:Nat}{roof:Int}(ok:WebOk n ts)(ko:KeepOk ts.length ks)(lD:D.length=n.toNat)(hD:∀ v,v<n.toNat->Far.Dst (arcs ts ks) s v (Far.get D v)):holdB n ts ks (D.map (capO roof))=true:=by
 unfold holdB;rw[m7];exact⟨uhz (by rw[c9];exact lD),v8.mpr λ k hk=>uhz ?_⟩;let F:=kG ok ko;let tk:=ok.tie _ (bN (ko.2 k hk)).2;let m1:((tieAt ts k).1.toNat,(tieAt ts k).2.1.toNat,(tieAt ts k).2.2)∈arcs ts ks:=arcs_mem.mpr ⟨k,hk,arcs2_mem.mpr (.inl rfl)⟩;let m2:=zbs _ _ _ m1;let va:∀ a:Int,0<=a->a<n->hAt (D.map (capO roof)) a=capO roof (Far.get D a.toNat):=λ a h0 h1=>by
  unfold hAt Far.get;rw[c8,j0,d7 (by left),c8,d7 (by left)];rfl
 let step:∀ u v l,(u,v,l)∈arcs ts ks->∀ x,Far.get D u=some x->∃ y,Far.get D v=some y/\y<=x+l:=λ u v l m x e=>(hD v (F _ _ _ m).2).2 _ (.snoc ((hD u (F _ _ _ m).1).1 x e) m);unfold acrossI;rw[va _ (by left) (by left),va _ (by left) (by left)];cases U:Far.get D (tieAt ts k).1.toNat with
 | none =>
  cases e2:Far.get D (tieAt ts k).2.1.toNat with
  | none=>show absI (roof-roof)<=_;unfold absI;split <;> left
  | some y=>obtain⟨z,O,_⟩:=step _ _ _ m2 y e2;rw[U] at O;cases O
 | some x =>
  obtain⟨y,e2,h2⟩:=step _ _ _ m1 x U;obtain⟨z,O,h1⟩:=step _ _ _ m2 y e2;rw[U] at O;cases O;rw[e2];show absI ((if roof<x then roof else x)-(if roof<y then roof else y))<=_;unfold absI;by_cases c1:roof<x
  ·rw[uh2 c1];by_cases q:roof<y
   ·rw[uh2 q];split <;> left
   ·rw[uh3 q];split <;> left
  ·rw[uh3 c1];by_cases q:roof<y
   ·rw[uh2 q];split <;> left
   ·rw[uh3 q];split <;> left
theorem cL:∀ hs:List Int,udl (hs.map .int)=true
 | []=>rfl
 | t::r=>by
  show (uf7 (.int t)&&udl (r.map .int))=true;rw[cL r];rfl
theorem eY:∀ hs:List Int,uex (hs.map .int)<=1
 | []=>uae _
 | t::r=>by
  show max (ugp (.int t)) (uex (r.map .int))<=1;let h1:=eY r;let h2:ugp (.int t)<=1:=uaj (ugb (by rfl:ugp (.int t)=0)) (by decide);left
inductive spAcross_i (K:b8)(vs:List V)(H:Hp)(Q:VK):Prop
 | mk:∀ (n:Int)(ts:List Tie)(wv:V)(k:Nat)(p:o7)(hs:List Int),(vs=[wv,.int (k:Int),.ref p])->‹45›->(WebOk n ts)->(k<ts.length)->(IntT H p hs)->(hs.length=n.toNat)->(Q (.int (acrossI ts hs k)) H)->spAcross_i K vs H Q
def spAcross (K:b8):Sp:=λ vs H Q _=>spAcross_i K vs H Q
inductive spHold_i (K:b8)(vs:List V)(H:Hp)(Q:VK):Prop
 | mk:∀ n ts ks wv kv p hs,(vs=[wv,kv,.ref p])->‹74›->(IntT H p hs)->(∀ H',Same H H'->Q (.bl (holdB n ts ks hs)) H')->spHold_i K vs H Q
def spHold (K:b8):Sp:=λ vs H Q _=>spHold_i K vs H Q
inductive spHFrom_i (K:b8)(vs:List V)(H:Hp)(Q:VK):Prop
 | mk:∀ n ts ks wv kv a roof,(vs=[wv,kv,.int a,.int roof])->‹74›->(0<=a)->(a<n)->(∀ (p:o7)(D:List (Option Int))(H':Hp),Same H H'->H' p=some (.tup ((D.map (capO roof)).map V.int))->D.length=n.toNat->(∀ v,v<n.toNat->Far.Dst (arcs ts ks) a.toNat v (Far.get D v))->Q (.ref p) H')->spHFrom_i K vs H Q
def spHFrom (K:b8):Sp:=λ vs H Q _=>spHFrom_i K vs H Q
section
variable {g:TG}{te:TE}{own:List Str}{js:List Nat}{σ:L2.St}{H1:Hp}{Q:VK}
end
section
variable {J:It}{g:TG}{tt:TT}{te:TE}{own:List Str}{js:List Nat}{σ:L2.St}{H1:Hp}{Q:VK}
theorem jS (n:Nat)(Sg:L2.St->Prop)(sel:Nat->Option V)(hn:n<=1000)(h0:Sg ‹93›)
  (go:∀ i H',i<n->Same H1 H'->J.go i H') (stop:∀ H',Same H1 H'->J.stop n H')
  (step:∀ i x σ' H' H2,i<n->Same H1 H'->J.yld i H' x H2->Sg σ'->∀ (C:L2.St->V->Hp->Prop)(L:L2.St->Hp->Prop),(∀ σ3 v H5,Sg σ3->Same H' H5->sel i=some v->C σ3 v H5)->(∀ σ3 H5,Sg σ3->Same H' H5->sel i=none->L σ3 H5) ->
   g x σ' H2 λ σ3 H3=>tt σ3 H3 λ b H4=>if b=true then te σ3 H4 λ v H5=>C σ3 v H5 else L σ3 H4)
  (fin:∀ D H',H1 D=none->Same H1 H'->H' D=some (.lst ((d8 n).filterMap sel))->Q (.ref D) H'):CompGo own js g tt te σ Q J H1:=by
 intro D hD;exact⟨λ i m ys σ' H'=>m=n-i/\i<=n/\Sg σ'/\Same H1 H'/\ys=(d8 i).filterMap sel,⟨n,rfl,uae _,h0,aU hD,rfl⟩,?_⟩;rintro i m ys σ' H' ⟨rfl,hi,sg,O,rfl⟩ hd;let len:((d8 i).filterMap sel).length<=i:=by let:=ud4 sel (d8 i);rw[uaa] at this;exact this
 by_cases q:i<n
 ·exact .inr ⟨go i H' q O,λ x H2 hy=>?_⟩;exact step i x σ' H' H2 q O hy sg
   (λ σ3 v H5=>H5 D=some (.lst ((d8 i).filterMap sel))/\((d8 i).filterMap sel).length<p8/\∃ m',m'<n-i/\(m'=n-(i+1)/\i+1<=n/\Sg σ3/\Same H1 (upd H5 D (.lst ((d8 i).filterMap sel++[v])))/\(d8 i).filterMap sel++[v]=(d8 (i+1)).filterMap sel))
   (λ σ3 H5=>H5 D=some (.lst ((d8 i).filterMap sel))/\∃ m',m'<n-i/\(m'=n-(i+1)/\i+1<=n/\Sg σ3/\Same H1 H5/\(d8 i).filterMap sel=(d8 (i+1)).filterMap sel)) (λ σ3 v H5 F U e=>?_) (λ σ3 H5 F U e=>?_)
  ·exact⟨U _ _ hd,ubv (by left:((d8 i).filterMap sel).length<=1000) (by decide),n-(i+1),by left,rfl,q,F,λ b o z=>?_,?_⟩
   ·rw[aL (aW z hD)];exact U _ _ (O _ _ z)
   ·rw[ubx,uc4];simp [e]
  ·exact⟨U _ _ hd,n-(i+1),by left,rfl,q,F,O.trans U,?_⟩;rw[ubx,uc4];simp [e]
 ·let e:i=n:=by left
  subst e;exact .inl ⟨stop H' O,fin D H' hD O hd⟩
end
def natV (ns:List Nat):List V:=ns.map λ v:Nat=>V.int (v:Int)
theorem cG (ns:List Nat):natV ns=(keepI ns).map V.int:=by unfold natV keepI;rw[ua0];rfl
theorem IsAll.snoc {K:b8}{H:Hp}{d:ubo}{v:V}(hv:Is K H d v):∀ {ds:List ubo}{vs:List V},IsAll K H ds vs->IsAll K H (ds++[d]) (vs++[v])
 | [],_,h=>by
  let e:_=[]:=h;subst e;exact⟨v,[],rfl,hv,rfl⟩
 | _::_,_,⟨u,r,e,h1,h2⟩=>by
  subst e;exact⟨u,r++[v],rfl,h1,IsAll.snoc hv h2⟩
theorem zc3 {a:Int}(h:0<=a)(ns:List Nat):inV (.int a) (natV ns)=decide (a.toNat∈ns):=by
 unfold inV natV;rw[List.any_map,udm,ucn,decide_eq_true_iff];constructor
 ·rintro ⟨v,z,e⟩;let q:((v:Int)==a)=true:=e;let:(v:Int)=a:=by simpa using q
  let e2:a.toNat=v:=by left
  rw[e2];exact z
 ·intro m;exact⟨_,m,show (((a.toNat:Nat):Int)==a)=true by rw[ua4 h];simp⟩
theorem zbe (ns:List Nat):(natV ns).all flatV=true:=by
 unfold natV;rw[uck];exact v8.mpr λ _ _=>rfl
end L3
namespace Srt
open PySem PySem.Spec PyProof.Rows PySem.W
section
variable {prog:o9}{w:uaw}{A:uax}{E:i5->i6->Prop}{s:i6}
end
end Srt
namespace HT
open PySem PyProof.Rows
section
variable {prog:o9}{w:uaw}{A:uax}{E:i5->i6->Prop}{s:i6}
theorem wJ {Q:List i5->i6->Prop}{r:o7}{a b c:Int}{t u v:Tok}{n:Nat}(hh:A.handled=none)(hr:IsRange s.heap r a b c t u v)(hsmall:Builtin.Range.small a b c=true)
  (hn:Builtin.Range.rangeSize a b c=n) (hlen:n<=2^24)
  (hQ:∀ h' tk acc',(∀ b o,s.heap.get? b=some o->h'.get? b=some o)->ItemsOf (λ i v=>∃ t,v=.int (a+i*c) t) acc' n->Q acc'.toList { s with heap:=h',toks:=tk }) :
  j7 (v4 prog w) A (collect (.ref r)) Q E s:=by
 unfold collect;exact a7 (ueu (ubp ueq ?_));rw[Around.under_plainId uep _];show j7 _ A.in1 (newList [] >>= λ l=>again (.builtin "list.__iadd__" ⟨[l,.ref r],[]⟩)) _ _ s;exact a7 (uac ?_);exact c7 ⟨udh ucp _,ubp ufj ?_⟩;rw[Around.under_plainId ucp _];show j7 _ A.in1 (Builtin.List.listExtendWith ‹32› (.ref r) ‹32›) _ _ _;let hS:‹30›.get? ‹128›=some { cls:=.type "list",data:=.seq #[] }:=i9 _ rfl;let F : ∀ (h' : Heap)(tk : Nat)(acc' : Array i5)(z : Nat), (∀ b o, s.heap.get? b = some o → h'.get? b = some o) → h'.get? ‹128› = some { cls := .type "list", dict := none, data := .seq acc' z, slots := #[] } → ItemsOf (λ i v => ∃ t, v = .int (a+i*c) t) acc' n →
     j7 (v4 prog w) A (load ‹128› >>= λ o=>match o.data with | .seq xs _=>pure xs.toList | _=>unsupported "internal:collect") Q E { s with heap:=h',toks:=tk }:=λ h' tk acc' z U O q=>a7 (wpAny_load O (c7 (hQ h' tk acc' U q)))
 exact ucr (wpAny_extend_range (A:=A) (R:=λ r s'=>r=.ok (.ret ‹32›)/\∃ (h':Heap)(tk:Nat)(acc':Array i5)(z:Nat),s'={ s with heap:=h',toks:=tk }/\(∀ b o,s.heap.get? b=some o->h'.get? b=some o)/\h'.get? ‹128›=some { cls:=.type "list",dict:=none,data:=.seq acc' z,slots:=#[] }/\ItemsOf (λ i v=>∃ t,v=.int (a+i*c) t) acc' n)
  (s:={ s with heap:=s.heap.push { cls:=.type "list",data:=.seq ([]:List i5).toArray } }) hh (a9 _ hr) hsmall hn hlen ‹128› ‹32› 0 hS λ h' tk acc' z U O q=>⟨rfl,h',tk,acc',z,rfl,λ b o e=>U b o (k8 (j5 e)) (a9 _ e),O,q⟩) (λ aa s' h=>?_) (λ e s' h=>?_)
 ·cases aa with
  | done f =>
   obtain⟨e,h',tk,acc',z,rfl,h1,h2,h3⟩:=h;cases e;exact F h' tk acc' z h1 h2 h3
  | again z=>exact⟨h.1,ude h.2 λ r ab hr=>by obtain⟨rfl,h',tk,acc',z,rfl,h1,h2,h3⟩:=hr;exact F h' tk acc' z h1 h2 h3⟩
 ·exact absurd h.1 (by simp)
end
theorem rW (r:o7)(a b c:Int)(t u v:Tok)(n:Nat)(hsmall:Builtin.Range.small a b c=true)(hn:Builtin.Range.rangeSize a b c=n)(hlen:n<=1000) :
  Meets (Builtin.«tuple.__new__» ⟨[.type "tuple",.ref r],[]⟩)
   (λ A R s=>A.handled=none/\IsRange s.heap r a b c t u v/\∀ (h':Heap)(tk:Nat)(acc':Array i5),(∀ b o',s.heap.get? b=some o'->h'.get? b=some o')->ItemsOf (λ i v=>∃ t,v=.int (a+i*c) t) acc' n->R (.ok (.ret (.ref h'.objs.size))) { s with heap:=h'.push { cls:=.type "tuple",data:=.seq acc' },toks:=tk }) :=
 .of_wp λ prog w A R s h=>by
  obtain⟨hp,g,d,tk,os⟩:=s;obtain⟨hh,hr,h⟩:=h;let O:=sub_tuple_self;let F:=init_tuple_lookup;let U:=madeHere_tuple;let hT:Shared.TypeIs ⟨hp,g,d,tk,os⟩ (.ref r) "range":=⟨_,hr,rfl⟩
  wp_walk using ucx hT,wJ (A:=A.in1) hh hr hsmall hn (uaj hlen (by decide))
  intro h' z acc' hk q;show j7 _ _ (Builtin.Tuple.tupleExact acc'.toList.toArray >>= λ v=>ret v) _ _ _;unfold Builtin.Tuple.tupleExact;let sz:acc'.size=n:=q.1;exact a7 (uac ?_ (by show acc'.toList.toArray.size<=p8;rw[show acc'.toList.toArray=acc' by simp,sz,ubn];left));exact c7 ⟨A,?_⟩;let e:acc'.toList.toArray=acc':=by simp
  rw[e];exact h h' z acc' hk q
section
variable {prog:o9}{w:uaw}{A:uax}{E:i5->i6->Prop}{s:i6}
theorem sN {Q:i5->i6->Prop}{r:o7}{a b c:Int}{t u v:Tok}{n:Nat}(hh:A.handled=none)(hr:IsRange s.heap r a b c t u v)(hsmall:Builtin.Range.small a b c=true)
  (hn:Builtin.Range.rangeSize a b c=n) (hlen:n<=1000)
  (hQ:∀ (h':Heap)(tk:Nat)(acc':Array i5),(∀ b o,s.heap.get? b=some o->h'.get? b=some o)->ItemsOf (λ i v=>∃ t,v=.int (a+i*c) t) acc' n->Q (.ref h'.objs.size) { s with heap:=h'.push { cls:=.type "tuple",data:=.seq acc' },toks:=tk }) :
  j7 (v4 prog w) A (call (.type "tuple") [.ref r]) Q E s :=
 uhi PySem.F.called_tuple (by decide) (PySem.F.typeCall_tuple_1 _) (PySem.F.newCall_tuple_1 _) (λ obj=>PySem.F.args_object_init_2 obj _) PySem.F.entry_tuple_new
  (rW r a b c t u v n hsmall hn hlen) ⟨hh,hr,λ h' tk acc' z q=>⟨⟨_,i9 _ rfl,rfl⟩,hQ h' tk acc' z q⟩⟩
end
end HT
namespace L3
open PySem PySem.Spec PyProof.Rows L2
section
variable {X:Cx}
inductive call_tuple_rng_i  (xs:List V) (H:Hp) (Q:VK):Prop
 | mk:∀ (p:o7)(j:Int),(xs=[.ref p])->(H p=some (.rng 0 j))->(0<=j)->(j<=1000)->(∀ l H',Same H H'->H l=none->H' l=some (.tup (natV (d8 j.toNat)))->Q (.ref l) H')->call_tuple_rng_i xs H Q
theorem tY (hh:X.calm=true):CallR X (.type "tuple") (call_tuple_rng_i):=by
 intro pins s σ H xs us Q I r h;obtain⟨p,j,rfl,hp,ab,hj,q⟩:=h;obtain⟨u,rfl,rx⟩:=vals1 r;cases rx;obtain⟨t,u,v,e⟩:=(show ObjOk X.prog X.w H s.heap p (.rng 0 j) from I.hok p _ hp);exact HT.sN (n:=j.toNat) (I.ok.hd hh) (show IsRange s.heap p 0 j 1 t u v from e) (small_one (by left) (by left) (by left) (by left)) (by rw[rangeSize_one];split <;> left) (by left) λ h' tk z O F=>?_;let I1:Inv X pins σ H { s with heap:=h',toks:=tk }:=I.kept (t':=tk) O;let fr:H h'.objs.size=none:=I1.hok.fresh (i8 _);exact⟨.ref h'.objs.size,upd H h'.objs.size (.tup (natV (d8 j.toNat))),I1.laid (t':=tk) (o:=.tup (natV (d8 j.toNat))) (λ b o e=>a9 _ e) (i8 _) ⟨?_,z.toList,?_,(by rw[show z.toList.toArray=z by simp];exact⟨_,i9 _ rfl,rfl,⟨A⟩,rfl⟩)⟩,rfl,q _ _ (aU fr) fr aM⟩
 ·unfold natV;rw[c9,uaa,ubn];left
 ·let go:∀ (n:Nat)(l:List i5),l.length=n->(∀ (k:Nat)(v:i5),l[k]?=some v->∃ t,v=Value.int (0+(k:Int)*1) t)->Vals ((d8 n).map λ i:Nat=>V.int (i:Int)) l:=by
   intro n l hl hv;let aa:∀ (l:List i5)(o:Nat),(∀ (k:Nat)(v:i5),l[k]?=some v->∃ t,v=Value.int ((o+k:Nat):Int) t)->Vals ((List.range' o l.length).map λ i:Nat=>V.int (i:Int)) l:=by
    intro l;induction l with
    | nil=>intro o _;exact .nil
    | cons x r ih =>
     intro o h;rw[uas,List.range'_succ,ubc];obtain⟨t,U⟩:=h 0 x rfl;exact .cons ⟨t,by simpa using U⟩ (ih (o+1) λ k v O=>?_);obtain⟨t,U⟩:=h (k+1) v (by simpa using O);exact⟨t,by rw[U];congr 1;left⟩
   let:=aa l 0 λ k v O=>by
    obtain⟨t,U⟩:=hv k v O;exact⟨t,by rw[U];congr 1;left⟩
   rw[hl,← List.range_eq_range'] at this;exact this
  exact go j.toNat z.toList (by rw[r8];exact F.1) λ k v hv=>F.2 k v (by simpa using hv)
end
section
variable {g:TG}{tt:TT}{te:TE}{own:List Str}{js:List Nat}{σ:L2.St}{H1:Hp}{Q:VK}
theorem nF {K:b8}{a:o7}{xs:List V}(hx:H1 a=some (.tup xs))(Sg:L2.St->Prop)(sel:Nat->Option V)(hn:xs.length<=1000)(h0:Sg ‹93›)
  (step:∀ i x σ' H',xs[i]?=some x->Same H1 H'->Sg σ'->∀ (C:L2.St->V->Hp->Prop)(L:L2.St->Hp->Prop),(∀ σ3 v H5,Sg σ3->Same H' H5->sel i=some v->C σ3 v H5)->(∀ σ3 H5,Sg σ3->Same H' H5->sel i=none->L σ3 H5) ->
   g x σ' H' λ σ3 H3=>tt σ3 H3 λ b H4=>if b=true then te σ3 H4 λ v H5=>C σ3 v H5 else L σ3 H4)
  (fin:∀ D H',H1 D=none->Same H1 H'->H' D=some (.lst ((d8 xs.length).filterMap sel))->Q (.ref D) H'):CompGo own js g tt te σ Q (Itt K a) H1:=by
 exact jS xs.length Sg sel hn h0 (λ i H' hi s=>⟨xs,xs[i],SqT.of (s _ _ hx),by simp [hi]⟩) (λ H' s=>⟨xs,SqT.of (s _ _ hx),i8 _⟩) (λ i x σ' H' H2 hi s q F C L O z=>?_) fin;obtain⟨rfl,q⟩:=q;exact step i x σ' _ (q xs (SqT.of (s _ _ hx))) s F C L O z
end
def outs (m:Nat)(ks:List Nat):List Nat:=(d8 m).filter λ k=>decide (k∉ks)
noncomputable def gO (ts:List Tie)(ks:List Nat)(k:Nat):Option Int :=
 @dite (Option Int) (∃ o,Far.Dst (arcs ts ks) (tieAt ts k).1.toNat (tieAt ts k).2.1.toNat o) ‹97› (λ h=>Classical.choose h) λ _=>none
inductive spWhole_i (K:b8)(vs:List V)(H:Hp)(Q:VK):Prop
 | mk:∀ n ts v,(vs=[v])->(Is K H (webD n ts) v)->(ts.length<=60)->(∀ l H',Same H H'->H l=none->H' l=some (.tup (natV ‹39›))->Q (.ref l) H')->spWhole_i K vs H Q
def spWhole (K:b8):Sp:=λ vs H Q _=>spWhole_i K vs H Q
theorem fY {ns:List Nat}{i:Nat}{x:V}(h:(natV ns)[i]?=some x):∃ k,ns[i]?=some k/\x=.int (k:Int):=by
 rw[cG] at h;exact jZ h
theorem mQ (ns:List Int):∀ i,i<=ns.length->preSum ‹42› i=(ns.take i).sum
 | 0,_=>rfl
 | i+1,h=>by
  let e:ns[i]?=some ns[i]:=d7 (by left);show preSum _ i+ns.getD i 0=_;rw[mQ ns i (by left),mN e,List.sum_append,c8,e];simp
inductive call_sumA_i  (xs:List V) (H:Hp) (Q:VK):Prop
 | mk:∀ (p:o7)(ns:List Int),(xs=[.ref p])->(H p=some (.lst ‹67›))->(Q (.int ns.sum) H)->call_sumA_i xs H Q
theorem nH {X:Cx}(hh:X.calm=true):CallR X (.builtin "sum") (call_sumA_i):=by
 intro pins s σ H xs us Q I r h;obtain⟨p,ns,rfl,hq,q⟩:=h;obtain⟨u,rfl,rx⟩:=vals1 r;cases rx;obtain⟨its,rv,F,hz⟩:=I.list (SqL.of hq);let hl:=rv.length;rw[c9] at hl;let hI:IntsAre its ns:=dD rv;let lt:p≠‹128›:=by obtain⟨o,e,_⟩:=F.isList;exact k8 (j5 e)
 exact call_sum_walkAnyS (udy F.isList ?_);let W:=(Walks.list (prog:=X.prog) (w:=X.w) (A:=X.A.in1) (show X.A.in1.handled=none from I.ok.hd hh) ‹128› p lt its.toArray).toS;exact⟨‹128›,P,P,P,‹42›,rfl,W,⟨⟨_,i9 _ rfl,M⟩,F.isList.push _⟩,λ b hb=>?_,λ i v hv=>?_,λ s' t' U=>?_⟩
 ·obtain⟨o,e,_⟩:=F.isList;let O:p<‹128›:=j5 e;show b<(s.heap.push _).objs.size;rw[uan];simp only [j4,l7,or_false] at hb;rcases hb with z | z
  ·rw[z];exact ucq _
  ·rw[z];exact ubf O
 ·exact IntsAre.int_at hI i v (by simpa using hv)
 ·rw[Moved.eq_with U];exact⟨.int ns.sum,H,I.kept (t':=s'.toks) λ b o e=>U.heap b o (λ z=>?_) (a9 _ e),⟨t',?_⟩,q⟩
  ·let:b=‹128›:=by simpa using z
   exact absurd (j5 e) (by rw[this];exact ubz _)
  ·rw[show its.toArray.size=ns.length by rw[k9,← hl],mQ ns _ (i8 _),ud1]
def oa:Option Nat->V
 | none=>.non
 | some u=>.int (u:Int)
structure RA (H J:Hp)(lw lc la:o7)(ws:List V)(cs:List (Option (Int × Int)))(as:List (Option Nat)):Prop where
 same:Same H J
 fc:H lc=none
 fa:H la=none
 nwc:lw≠lc
 nwa:lw≠la
 nca:lc≠la
 wl:J lw=some (.lst ws)
 co:∃ cvs,J lc=some (.lst cvs)/\CostL J cvs cs
 ah:J la=some (.lst (as.map oa))
section
variable {H H' J J':Hp}{vs cvs ws:List V}{cs:List (Option (Int × Int))}{as:List (Option Nat)}{lw lc la t:o7}{k:Nat}{x y:Int}
theorem RA.step (h:RA H J lw lc la ws cs as)(s:Same J J'):RA H J' lw lc la ws cs as :=
 ⟨h.same.trans s,h.fc,h.fa,h.nwc,h.nwa,h.nca,s _ _ h.wl,let ⟨c,e,z⟩:=h.co;⟨c,s _ _ e,z.keep (pL s)⟩,s _ _ h.ah⟩
theorem RA.put (h:RA H J lw lc la ws cs as)(hc:J lc=some (.lst cvs))(hk:k<cvs.length)(ht:J t=some (.tup [.int x,.int y])):RA H (upd J lc (.lst (cvs.set k (.ref t)))) lw lc la ws (cs.set k (some (x,y))) as:=by
 obtain⟨c,e,z⟩:=h.co;rw[hc] at e;cases e;exact⟨λ b o q=>?_,h.fc,h.fa,h.nwc,h.nwa,h.nca,?_,⟨_,aM,CostL.set (z.keep (fT hc)) hk ⟨t,rfl,fT hc _ _ ht⟩⟩,?_⟩
 ·rw[aL (aW q h.fc)];exact h.same _ _ q
 ·rw[aL h.nwc];exact h.wl
 ·rw[aL h.nca.symm];exact h.ah
theorem RA.mark {u:Nat}(h:RA H J lw lc la ws cs as):RA H (upd J la (.lst ((as.map oa).set k (.int (u:Int))))) lw lc la ws cs (as.set k (some u)):=by
 obtain⟨c,e,z⟩:=h.co;exact⟨λ b o q=>?_,h.fc,h.fa,h.nwc,h.nwa,h.nca,?_,⟨c,?_,z.keep (fT h.ah)⟩,?_⟩
 ·rw[aL (aW q h.fa)];exact h.same _ _ q
 ·rw[aL h.nwa];exact h.wl
 ·rw[aL h.nca];exact e
 ·rw[aM,List.map_set];rfl
end
theorem zen {D:List (Option Nat)}{i:Nat}(h:i<D.length):(D.map oa)[i]?=some (oa (Far.get D i)):=by
 rw[j0,d7 h];unfold Far.get;rw[c8,d7 h];rfl
def WayV (H:Hp)(A:List ‹49›)(a b:Nat)(v:V):Prop:=(v=.non/\Far.Dst A a b none)\/∃ t ws x,v=.ref t/\H t=some (.tup (natV ws))/\ws.length<=24/\Far.Tr A a ws b x/\Far.Dst A a b (some x)
def isTB (ts:List Tie)(u v:Nat)(k:Nat):Bool:=decide ((tieAt ts k).1=min (u:Int) v)&&decide ((tieAt ts k).2.1=max (u:Int) v)
def tbN (ts:List Tie)(u v:Nat):Option Nat:=‹39›.find? (isTB ts u v)
theorem zdn {n:Int}{ts:List Tie}{ks:List Nat}(ok:WebOk n ts)(ko:KeepOk ts.length ks){u v:Nat}{l:Int}(h:(u,v,l)∈arcs ts ks):∃ k,tbN ts u v=some k/\k<ts.length/\(tieAt ts k).2.2=l:=by
 obtain⟨k,hk,m⟩:=arcs_mem.mp h;let q:=ko.2 k hk;let tk:=ok.tie _ (bN q).2;let O:isTB ts u v k=true/\(tieAt ts k).2.2=l:=by
  unfold isTB;rcases arcs2_mem.mp m with e | e
  ·let e1:u=(tieAt ts k).1.toNat:=congrArg (·.1) e;let e2:v=(tieAt ts k).2.1.toNat:=congrArg (·.2.1) e;let e3:l=(tieAt ts k).2.2:=congrArg (·.2.2) e;let eu:(u:Int)=(tieAt ts k).1:=by rw[e1];exact ua4 tk.1
   let ev:(v:Int)=(tieAt ts k).2.1:=by rw[e2];exact ua4 (udn (Int.lt_of_le_of_lt tk.1 tk.2.1))
   rw[eu,ev,Int.min_eq_left (udn tk.2.1),Int.max_eq_right (udn tk.2.1)];exact⟨by rw[uhz rfl,uhz rfl];rfl,e3.symm⟩
  ·let e1:u=(tieAt ts k).2.1.toNat:=congrArg (·.1) e;let e2:v=(tieAt ts k).1.toNat:=congrArg (·.2.1) e;let e3:l=(tieAt ts k).2.2:=congrArg (·.2.2) e;let eu:(u:Int)=(tieAt ts k).2.1:=by rw[e1];exact ua4 (udn (Int.lt_of_le_of_lt tk.1 tk.2.1))
   let ev:(v:Int)=(tieAt ts k).1:=by rw[e2];exact ua4 tk.1
   rw[eu,ev,Int.min_eq_right (udn tk.2.1),Int.max_eq_left (udn tk.2.1)];exact⟨by rw[uhz rfl,uhz rfl];rfl,e3.symm⟩
 cases e:tbN ts u v with
 | none =>
  let:=ubu.mp e k (m8.mpr q);exact absurd O.1 this
 | some k' =>
  let p:=ucj e;let F:k'<ts.length:=m8.mp (ua6 e);exact⟨k',rfl,F,?_⟩;let same:k'=k:=by
   let U:=p;let q2:=O.1;unfold isTB at U q2;rw[m7] at U q2;let a1:=uh0 U.1;let a2:=uh0 U.2;let b1:=uh0 q2.1;let b2:=uh0 q2.2;let ri:=ucf.mp ok.rise;let g:∀ j (hj:j<ts.length),ts[j]=tieAt ts j:=λ j hj=>by
    let:=(bN hj).1;rw[d7 hj] at this;exact uaz this
   rcases ufq k' k with z | z | z
   ·let:=ri k' k F q z;rw[g k' F,g k q] at this;exact (this.elim (λ z=>ug3 z (a1.trans b1.symm)) λ z=>ug3 z.2 (a2.trans b2.symm)).elim
   ·exact z
   ·let:=ri k k' q F z;rw[g k' F,g k q] at this;exact (this.elim (λ z=>ug3 z (b1.trans a1.symm)) λ z=>ug3 z.2 (b2.trans a2.symm)).elim
  rw[same];exact O.2
def tlen (ts:List Tie)(u v:Nat):Int:=(tieAt ts ((tbN ts u v).getD 0)).2.2
def wl (ts:List Tie):List Nat->Int
 | u::v::r=>tlen ts u v+wl ts (v::r)
 | _=>0
def linked (ts:List Tie):List Nat->Prop
 | u::v::r=>(∃ k,tbN ts u v=some k/\k<ts.length)/\linked ts (v::r)
 | _=>True
theorem hX {A:List ‹49›}{a v:Nat}{ws:List Nat}{x:Int}(h:Far.Tr A a ws v x):∃ r,ws=r++[v]:=by
 cases h with
 | one=>exact⟨[],rfl⟩
 | snoc _ _=>exact⟨A⟩
theorem pI (ts:List Tie)(u v:Nat):∀ r:List Nat,wl ts (r++[u]++[v])=wl ts (r++[u])+tlen ts u v
 | []=>by show tlen ts u v+0=0+tlen ts u v;left
 | [a]=>by show tlen ts a u+(tlen ts u v+0)=tlen ts a u+0+tlen ts u v;left
 | a::b::r=>by
  let:=pI ts u v (b::r);show tlen ts a b+wl ts ((b::r)++[u]++[v])=tlen ts a b+wl ts ((b::r)++[u])+tlen ts u v;rw[this];left
theorem lO (ts:List Tie)(u v:Nat)(h:∃ k,tbN ts u v=some k/\k<ts.length):∀ r:List Nat,linked ts (r++[u])->linked ts (r++[u]++[v])
 | [],_=>⟨h,trivial⟩
 | [a],hl=>⟨hl.1,h,trivial⟩
 | a::b::r,hl=>⟨hl.1,lO ts u v h (b::r) hl.2⟩
theorem gA {n:Int}{ts:List Tie}{ks:List Nat}(ok:WebOk n ts)(ko:KeepOk ts.length ks){a v:Nat}{ws:List Nat}{x:Int}(h:Far.Tr (arcs ts ks) a ws v x):wl ts ws=x/\linked ts ws:=by
 induction h with
 | one=>exact⟨rfl,trivial⟩
 | @snoc ws u v x l t m ih =>
  obtain⟨r,rfl⟩:=hX t;obtain⟨k,q,e2,z⟩:=zdn ok ko m;exact⟨?_,lO ts u v ⟨k,q,e2⟩ r ih.2⟩;rw[pI,ih.1];unfold tlen;rw[q];show x+(tieAt ts k).2.2=x+l;rw[z]
theorem gT {ts:List Tie}:∀ {ws:List Nat}{i u v:Nat},linked ts ws->ws[i]?=some u->ws[i+1]?=some v->∃ k,tbN ts u v=some k/\k<ts.length
 | a::b::r,0,u,v,h,e1,e2=>by cases e1;cases e2;exact h.1
 | a::b::r,i+1,u,v,h,e1,e2=>gT (ws:=b::r) (i:=i) h.2 (by simpa using e1) (by simpa using e2)
 | [a],0,u,v,_,_,e2=>by cases e2
 | [a],i+1,u,v,_,e1,_=>by cases e1
 | [],i,u,v,_,e1,_=>by cases e1
def alongN (ts:List Tie)(ws:List Nat):List Nat:=(d8 ‹104›).map λ i=>‹63›.getD 0
theorem xT (ts:List Tie)(u v:Nat)(r:List Nat):alongN ts (u::v::r)=(tbN ts u v).getD 0::alongN ts (v::r):=by
 unfold alongN;show (d8 (r.length+1)).map _=_;rw[List.range_succ_eq_map,ubc,ua0];rfl
theorem nT (ts:List Tie):∀ ws:List Nat,((alongN ts ws).map λ k=>(tieAt ts k).2.2).sum=wl ts ws
 | []=>rfl
 | [_]=>rfl
 | u::v::r=>by
  rw[xT,ubc,List.sum_cons,nT ts (v::r)];rfl
inductive spTB_i (K:b8)(vs:List V)(H:Hp)(Q:VK):Prop
 | mk:∀ (n:Int)(ts:List Tie)(wv:V)(u v:Nat),(vs=[wv,.int (u:Int),.int (v:Int)])->‹45›->(ts.length<=60)->(∀ H',Same H H'->Q (oa (tbN ts u v)) H')->spTB_i K vs H Q
def spTB (K:b8):Sp:=λ vs H Q _=>spTB_i K vs H Q
inductive spAlong_i (K:b8)(vs:List V)(H:Hp)(Q:VK):Prop
 | mk:∀ (n:Int)(ts:List Tie)(wv:V)(t:o7)(ws:List Nat),(vs=[wv,.ref t])->‹45›->(ts.length<=60)->(H t=some (.tup (natV ws)))->(ws.length<=24)->(linked ts ws)->(∀ l H',Same H H'->H' l=some (.lst (natV (alongN ts ws)))->Q (.ref l) H')->spAlong_i K vs H Q
def spAlong (K:b8):Sp:=λ vs H Q _=>spAlong_i K vs H Q
inductive spWLen_i (K:b8)(vs:List V)(H:Hp)(Q:VK):Prop
 | mk:∀ (n:Int)(ts:List Tie)(wv:V)(t:o7)(ws:List Nat),(vs=[wv,.ref t])->‹45›->(ts.length<=60)->(H t=some (.tup (natV ws)))->(ws.length<=24)->(linked ts ws)->(∀ H',Same H H'->Q (.int (wl ts ws)) H')->spWLen_i K vs H Q
def spWLen (K:b8):Sp:=λ vs H Q _=>spWLen_i K vs H Q
theorem hV {ts:List Tie}{ws:List Nat}(h:linked ts ws):∀ k∈alongN ts ws,k<ts.length:=λ k q=>by
 unfold alongN at q;obtain⟨i,hi,rfl⟩:=w8.mp q;let F:=m8.mp hi;let z:ws[i]?=some (ws.getD i 0):=by rw[c8,d7 (by left)];rfl
 let e2:ws[i+1]?=some (ws.getD (i+1) 0):=by rw[c8,d7 (by left)];rfl
 obtain⟨k,e,q⟩:=gT h z e2;rw[e];exact q
theorem za0 (a b x y:Int):udz (.tuple (([a,b]:List Int).map .int)) (.tuple (([x,y]:List Int).map .int))=(decide (a=x)&&decide (b=y)):=by
 show (_&&(_&&true))=_;rw[uef];rfl
def but (ks:List Nat)(k:Nat):List Nat:=ks.filter λ j=>decide (j≠k)
def withinB (t l:Int):Option Int->Bool
 | none=>false
 | some x=>decide (x<=t*l)
end L3
namespace Far
variable {B:List Arc}{A:List (Nat × Nat × Int)}{n s:Nat}
structure Run (B:List Arc)(s:Nat)(cs:List (Option (Int × Int)))(as:List (Option Nat)):Prop where
 len:as.length=cs.length
 start:get cs s=some (0,0)
 root:get as s=none
 has:∀ v c,get cs v=some c->v≠s->get as v≠none
 arc:∀ v u,get as v=some u->∃ l k cu cv,(u,v,l,k)∈B/\get cs u=some cu/\get cs v=some cv/\¬ lt2 cv (cu.1+l,cu.2+2^k)
theorem Run.step {u v:Nat}{l:Int}{k:Nat}{cs:List ‹37›}{as:List (Option Nat)}{c:Int × Int}(P:Pos A)(g:Good A n s cs)(a:Run B s cs as)(m:(u,v,l)∈A)(mB:(u,v,l,k)∈B)(hv:v<n)(hu:get cs u=some c)
  (h:get cs v=none\/∃ c',get cs v=some c'/\lt2 (c.1+l,c.2+2^k) c'):Run B s (cs.set v (some (c.1+l,c.2+2^k))) (as.set v (some u)):=by
 let q:v<cs.length:=by rw[g.len];exact hv
 let ha:v<as.length:=by rw[a.len];exact q
 let l1:=P _ _ _ m;let c0:=(g.walk _ _ hu).nonneg P;let vs:v≠s:=λ z=>by
  rw[z] at h;rcases h with h | ⟨c',h,hl⟩
  ·rw[a.start] at h;cases h
  ·rw[a.start] at h;cases h;unfold lt2 at hl;simp only at hl;left
 let uv:u≠v:=λ z=>by
  rcases h with h | ⟨c',h,hl⟩
  ·rw[← z,hu] at h;cases h
  ·rw[← z,hu] at h;cases h;unfold lt2 at hl;simp only at hl;left
 exact⟨by rw[ucu,ucu];exact a.len,by rw[bM q,uh3 (Ne.symm vs)];exact a.start,?_,λ x d e hx=>?_,λ x y e=>?_⟩
 ·rw[bM ha,uh3 (Ne.symm vs)];exact a.root
 ·rw[bM ha];split
  ·exact λ z=>by cases z
  ·rename_i U;rw[bM q,uh3 U] at e;exact a.has x d e hx
 ·rw[bM ha] at e;split at e
  ·rename_i z;subst z;cases e;exact⟨l,k,c,_,mB,by rw[bM q,uh3 uv];exact hu,by rw[bM q,uh2 rfl],λ z=>?_⟩;unfold lt2 at z;left
  ·rename_i U;obtain⟨l',k',cu,cv,m',O,e2,F⟩:=a.arc x y e;by_cases yv:y=v
   ·subst yv;exact⟨l',k',_,cv,m',by rw[bM q,uh2 rfl],by rw[bM q,uh3 U];exact e2,λ z=>?_⟩;rcases h with h | ⟨c',h,hl⟩
    ·rw[h] at O;cases O
    ·rw[h] at O;cases O;unfold lt2 at hl F z;simp only at hl F z;left
   ·exact⟨l',k',cu,cv,m',by rw[bM q,uh3 yv];exact O,by rw[bM q,uh3 U];exact e2,F⟩
theorem Run.first (hs:s<n):Run B s ((v6 n none).set s (some (0,0))) (v6 n none):=by
 let hl:s<(v6 n (none:Option (Int × Int))).length:=by rw[ubg];exact hs
 exact⟨by rw[ucu,ubg,ubg],by rw[bM hl,uh2 rfl],eO _ _,λ v c e q=>?_,λ v u e=>?_⟩
 ·rw[bM hl,uh3 q,eO] at e;cases e
 ·rw[eO] at e;cases e
def Stab2 (B:List Arc)(cs:List ‹37›):Prop:=∀ u v l k c,(u,v,l,k)∈B->get cs u=some c->∃ c',get cs v=some c'/\¬ lt2 (c.1+l,c.2+2^k) c'
def PS2 (c0:List ‹37›)(R:Arc->Prop)(cs:List ‹37›)(ag:Bool):Prop :=
 (ag=false/\cs=c0/\∀ u v l k c,R (u,v,l,k)->get c0 u=some c->∃ c',get c0 v=some c'/\¬ lt2 (c.1+l,c.2+2^k) c')\/(ag=true/\mu cs<mu c0)
def plusA (R:Arc->Prop)(a:Arc):Arc->Prop:=λ b=>R b\/b=a
section
variable {c0 cs:List (Option (Int × Int))}{R R':Arc->Prop}{ag:Bool}{u v k:Nat}{l:Int}
theorem PS2.less (h:PS2 c0 R cs ag)(z:∀ a,R' a->R a):PS2 c0 R' cs ag:=h.elim (λ ⟨a,b,c⟩=>.inl ⟨a,b,λ u v l k q y=>c u v l k q (z _ y)⟩) .inr
theorem PS2.no (h:PS2 c0 R cs ag)(hu:get cs u=none):PS2 c0 (plusA R (u,v,l,k)) cs ag:=by
 rcases h with ⟨a,b,c⟩ | h
 ·exact .inl ⟨a,b,λ F q O k' U z e=>?_⟩;rcases z with z | z
  ·exact c _ _ _ _ _ z e
  ·cases z;rw[← b,hu] at e;cases e
 ·exact .inr h
theorem PS2.old (h:PS2 c0 R cs ag){c d:Int × Int}(hu:get cs u=some c)(hv:get cs v=some d)(hn:¬ lt2 (c.1+l,c.2+2^k) d):PS2 c0 (plusA R (u,v,l,k)) cs ag:=by
 rcases h with ⟨a,b,z⟩ | h
 ·exact .inl ⟨a,b,λ F q O k' U y e=>?_⟩;rcases y with y | y
  ·exact z _ _ _ _ _ y e
  ·cases y;subst b;rw[hu] at e;cases e;exact⟨d,hv,hn⟩
 ·exact .inr h
theorem PS2.put (h:PS2 c0 R cs ag){cs':List ‹37›}(hm:mu cs'<mu cs):PS2 c0 (plusA R (u,v,l,k)) cs' true:=by
 rcases h with ⟨a,b,c⟩ | h
 ·exact .inr ⟨rfl,by rw[← b];exact hm⟩
 ·exact .inr ⟨rfl,ug0 hm h.2⟩
end
theorem Run.best {cs:List ‹37›}{as:List (Option Nat)}(P:Pos A)(g:Good A n s cs)(r:Run B s cs as)(st:Stab2 B cs):Best B n s cs as:=by
 exact⟨g.len,by rw[r.len];exact g.len,r.start,r.root,r.has,λ v c e=>(g.walk v c e).nonneg P,st,λ v u e=>?_⟩;obtain⟨l,k,q,cv,m,F,e2,U⟩:=r.arc v u e;obtain⟨c',O,z⟩:=st _ _ _ _ _ m F;rw[e2] at O;cases O;exact⟨l,k,q,m,F,?_⟩;rw[e2];congr 1;unfold lt2 at U z;simp only at U z;exact Prod.ext (by show cv.1=q.1+l;left) (by show cv.2=q.2+2^k;left)
end Far
namespace L3
open PySem PySem.Spec PyProof.Rows L2
def arcs2B (t:Tie)(k:Nat):List Far.Arc:=[(t.1.toNat,t.2.1.toNat,t.2.2,k),(t.2.1.toNat,t.1.toNat,t.2.2,k)]
def arcsB (ts:List Tie)(ks:List Nat):List Far.Arc:=ks.flatMap λ k=>arcs2B (tieAt ts k) k
theorem arcsB_mem {ts:List Tie}{ks:List Nat}{a:Far.Arc}:a∈arcsB ts ks↔∃ k,k∈ks/\a∈arcs2B (tieAt ts k) k:=by
 unfold arcsB;rw[ub7]
theorem arcs2B_mem {t:Tie}{k:Nat}{a:Far.Arc}:a∈arcs2B t k↔a=(t.1.toNat,t.2.1.toNat,t.2.2,k)\/a=(t.2.1.toNat,t.1.toNat,t.2.2,k):=by
 unfold arcs2B;simp
theorem xS {ts:List Tie}{ks:List Nat}{i k:Nat}(h:ks[i]?=some k){a:Far.Arc}(m:a∈arcsB ts (ks.take (i+1))):a∈arcsB ts (ks.take i)\/a∈arcs2B (tieAt ts k) k:=by
 obtain⟨j,q,m⟩:=arcsB_mem.mp m;rw[mN h] at q;rcases uat.mp q with q | q
 ·exact .inl (arcsB_mem.mpr ⟨j,q,m⟩)
 ·rw[u5.mp q] at m;exact .inr m
theorem eW {n:Int}{ts:List Tie}{ks:List Nat}(ok:WebOk n ts)(ko:KeepOk ts.length ks):Far.Keys (arcsB ts ks):=by
 let q:∀ {u v l k},(u,v,l,k)∈arcsB ts ks->k<ts.length/\((u=(tieAt ts k).1.toNat/\v=(tieAt ts k).2.1.toNat)\/(u=(tieAt ts k).2.1.toNat/\v=(tieAt ts k).1.toNat))/\l=(tieAt ts k).2.2/\k∈ks:=λ {u v l k} h=>by
  obtain⟨j,F,m⟩:=arcsB_mem.mp h;rcases arcs2B_mem.mp m with e | e <;> cases e
  ·exact⟨ko.2 _ F,.inl ⟨M⟩,rfl,F⟩
  ·exact⟨ko.2 _ F,.inr ⟨M⟩,rfl,F⟩
 exact⟨λ u v l k h=>?_,λ u v l U v' l' k h h'=>?_,λ u v l k h=>?_,λ u v l k h=>?_,λ u v l k h=>?_⟩
 ·obtain⟨_,e,rfl,z⟩:=q h;exact arcsB_mem.mpr ⟨k,z,arcs2B_mem.mpr ?_⟩;rcases e with ⟨rfl,rfl⟩ | ⟨rfl,rfl⟩
  ·exact .inr rfl
  ·exact .inl rfl
 ·obtain⟨_,e,rfl,_⟩:=q h;obtain⟨_,O,rfl,_⟩:=q h';exact⟨rfl,?_⟩;rcases e with ⟨rfl,rfl⟩ | ⟨rfl,rfl⟩ <;> rcases O with ⟨rfl,rfl⟩ | ⟨rfl,rfl⟩
  ·exact .inl ⟨M⟩
  ·exact .inr ⟨M⟩
  ·exact .inr ⟨M⟩
  ·exact .inl ⟨M⟩
 ·obtain⟨z,e,_,_⟩:=q h;let:=ok.tie _ (bN z).2;rcases e with ⟨rfl,rfl⟩ | ⟨rfl,rfl⟩ <;> left
 ·obtain⟨z,_,e,_⟩:=q h;let:=ok.tie _ (bN z).2;left
 ·obtain⟨z,_⟩:=q h;let:=ok.few;left
theorem pH {n:Int}{ts:List Tie}{ks:List Nat}(ok:WebOk n ts)(ko:KeepOk ts.length ks){u v k:Nat}{l:Int}(h:(u,v,l,k)∈arcsB ts ks):u<n.toNat/\v<n.toNat:=by
 obtain⟨j,q,m⟩:=arcsB_mem.mp h;let:=ok.tie _ (bN (ko.2 j q)).2;rcases arcs2B_mem.mp m with e | e <;> cases e <;> left
inductive spReachedB_i (K:b8)(vs:List V)(H:Hp)(Q:VK):Prop
 | mk:∀ n ts ks wv kv r,(vs=[wv,kv,.int r])->‹74›->(0<=r)->(r<n)->(∀ (p lc la:o7)(cvs:List V)(as:List (Option Nat))(cs:List ‹37›)(H':Hp),Same H H'->H' p=some (.tup [.ref lc,.ref la])->H' lc=some (.lst cvs)->H' la=some (.lst (as.map oa))->CostL H' cvs cs->Far.Best (arcsB ts ks) n.toNat r.toNat cs as->Q (.ref p) H')->spReachedB_i K vs H Q
def spReachedB (K:b8):Sp:=λ vs H Q _=>spReachedB_i K vs H Q
inductive spTreeB_i (K:b8)(vs:List V)(H:Hp)(Q:VK):Prop
 | mk:∀ n ts ks wv kv r,(vs=[wv,kv,.int r])->‹74›->(0<=r)->(r<n)->(∀ (p:o7)(as:List (Option Nat))(cs:List ‹37›)(H':Hp),Same H H'->H' p=some (.tup (as.map oa))->Far.Best (arcsB ts ks) n.toNat r.toNat cs as->Q (.ref p) H')->spTreeB_i K vs H Q
def spTreeB (K:b8):Sp:=λ vs H Q _=>spTreeB_i K vs H Q
def WayB (H:Hp)(B:List Far.Arc)(n a b:Nat)(v:V):Prop:=∃ cs as,Far.Best B n b cs as/\((v=.non/\Far.get cs a=none)\/∃ t ws c,v=.ref t/\H t=some (.tup (natV ws))/\ws.length<=24/\Far.get cs a=some c/\Far.TPw as b ws.reverse a)
inductive spWayB_i (K:b8)(vs:List V)(H:Hp)(Q:VK):Prop
 | mk:∀ n ts ks wv kv a b,(vs=[wv,kv,.int a,.int b])->‹74›->(0<=a)->(a<n)->(0<=b)->(b<n)->(∀ v H',Same H H'->WayB H' (arcsB ts ks) n.toNat a.toNat b.toNat v->Q v H')->spWayB_i K vs H Q
def spWayB (K:b8):Sp:=λ vs H Q _=>spWayB_i K vs H Q
theorem lF (val:Nat->Int):∀ i,(firstMet val i).length=i↔((d8 i).map val).Nodup
 | 0=>by rw[firstMet_zero];simp
 | i+1=>by
  let F:=lF val i;let le:=firstMet_length_le val i;let q:=firstMet_any val i (val i);rw[firstMet_succ,ubx,uaq,udp];unfold step_dedup;by_cases c:(firstMet val i).any (λ y=>y==val i)=true
  ·rw[uh2 c];constructor
   ·intro z;left
   ·rintro ⟨_,_,z⟩;rw[q,ucn] at c;obtain⟨y,hy,e⟩:=c;exact absurd (by simpa using e) (z y hy (val i) (by simp))
  ·rw[uh3 c,i7,j6];constructor
   ·intro z;exact⟨F.mp (by left),by simp,λ a U b O e=>c ?_⟩;rw[q,ucn];let:b=val i:=by simpa using O
    exact⟨a,U,by rw[e,this];simp⟩
   ·rintro ⟨z,_⟩;rw[F.mpr z]
theorem gM (ns:List Int):HT.setN ns ns.length=ns.length↔ns.Nodup:=by
 let:=lF ‹42› ns.length;rw[cT] at this;exact this
section
variable {X:Cx}
inductive call_setT_i  (xs:List V) (H:Hp) (Q:VK):Prop
 | mk:∀ (p:o7)(ns:List Int),(xs=[.ref p])->(H p=some (.tup ‹67›))->(ns.length<=1000)->(∀ q H',Same H H'->H q=none->H' q=some (.set (HT.setS ns ns.length) (HT.setN ns ns.length))->Q (.ref q) H')->call_setT_i xs H Q
theorem nJ (hh:X.calm=true):CallR X (.type "set") (call_setT_i):=by
 intro pins s σ H xs us Q I r h;obtain⟨p,ns,rfl,hp,hl,q⟩:=h;obtain⟨u,rfl,rx⟩:=vals1 r;cases rx;obtain⟨its,U,pt,hz⟩:=I.tuple (SqT.of hp);have z:=U.length;rw[c9] at z;have fr:H ‹128›=none:=I.hok.fresh (i8 _);have F:its.toArray.size=ns.length:=by rw[k9,← z]
 exact HT.vJ (ns:=ns) (I.ok.hd hh) (show s.heap.IsTuple p its.toArray from pt) (by simpa using dD U) (by rw[F];unfold scanBound;left) λ h' tk O hk=>?_;rw[F] at O;exact⟨.ref ‹128›,_,I.laid (a:=‹128›) (o:=.set (HT.setS ns ns.length) (HT.setN ns ns.length)) (t':=tk) (λ b o e=>hk b o (j5 e) e) (i8 _) O,rfl,q _ _ (aU fr) fr aM⟩
inductive call_lenS_i  (xs:List V) (H:Hp) (Q:VK):Prop
 | mk:∀ (p:o7)(S:Int->Bool)(n:Nat),(xs=[.ref p])->(H p=some (.set S n))->(Q (.int (n:Int)) H)->call_lenS_i xs H Q
theorem nK:CallR X (.builtin "len") (call_lenS_i):=by
 intro pins s σ H xs us Q I r h;obtain⟨p,S,n,rfl,O,q⟩:=h;obtain⟨u,rfl,rx⟩:=vals1 r;cases rx;obtain⟨o,es,ep,t,ho,z,F,_,_,U,hf,hn⟩:=(show ObjOk X.prog X.w H s.heap p (.set S n) from I.hok p _ O);exact call_len_set ho z F hf (by unfold scanBound at U;left) ⟨.int (n:Int),H,I.tok _,⟨s.toks+1,by rw[hn]⟩,q⟩
end
end L3
namespace Srt
open PySem PySem.Spec PyProof.Rows PySem.W
section
variable {prog:o9}{w:uaw}{A:uax}{E:i5->i6->Prop}{s:i6}
theorem lK {x:i5}{Q:i5->i6->Prop}{Good:List i5->i6->Prop}
  (hcol:∀ (A':uax)(E':i5->i6->Prop)(Q':List i5->i6->Prop),A'.handled=A.handled->(∀ vs s',Good vs s'->Q' vs s')->j7 (v4 prog w) A' (collect x) Q' E' s)
  (hg:∀ vs s1,Good vs s1->∃ (r:Nat->Int)(κ:SortKind),vs.length<64/\(2<=vs.length->∀ (A':uax)(s':i6)(Q:SortKind->i6->Prop),Q κ s'->j7 (v4 prog w) A' (keyKind' vs.toArray) Q (λ _ _=>False) s') /\
   (∀ (A':uax)(s':i6)(i j:Nat)(C:Bool->i6->Prop),i<vs.length->j<vs.length->C (decide (r i<r j)) s'->kas_ask prog w A' κ vs i j C s') /\
   ∀ (p:Array Nat)(h':Heap)(c:Nat),Gd vs.length p->Up r p vs.length->(∀ b o,s1.heap.get? b=some o->h'.get? b=some o)->h'.get? s1.heap.objs.size=some (seqObj "list" (outOf vs p).toArray c)->Q (.ref s1.heap.objs.size) { s1 with heap:=h' }) :
  j7 (v4 prog w) A (call (.builtin "sorted") [x]) Q E s:=by
 let U:(64:Nat)<=p8:=by rw[ubn];decide
 exact Calls.call_function_entry kind_sorted plain_sorted entry_sorted (args_sorted1 _) ?_;unfold Builtin.«sorted»;exact a7 (m:=checkCount "sorted" 1 1 _) (c7 (a7 (hcol _ _ _ rfl λ vs s1 g=>?_)));obtain⟨r,κ,F,hk,hc,h⟩:=hg vs s1 g;exact a7 (ug5 ?_ (by left));let z:(s1.heap.push { cls:=.type "list",data:=.seq vs.toArray }).get? s1.heap.objs.size=some (seqObj "list" vs.toArray 0):=i9 _ rfl;let O:∀ b o,s1.heap.get? b=some o->b≠s1.heap.objs.size:=λ b o q=>k8 (j5 q);show j7 _ _ _ _ _ { s1 with heap:=s1.heap.push { cls:=.type "list",data:=.seq vs.toArray } };exact a7 (uak (uaf slot_list_sort ⟨_,z,rfl⟩ entry_list_sort ?_ (args_list_sort _)));exact lsort (s:={ s1 with heap:=s1.heap.push { cls:=.type "list",data:=.seq vs.toArray } }) (r:=r) (κ:=κ) z F (λ h2 s' Q' st q=>hk h2 _ s' Q' q) (λ s' i j C st hi hj q=>hc _ s' i j C hi hj q) λ p h' c g1 u1 st e=>⟨_,rfl,?_⟩;exact c7 ⟨A,h p h' c g1 u1 (λ b o q=>st b o (O b o q) (a9 _ q)) e⟩
end
end Srt
namespace L3
open PySem PySem.Spec PyProof.Rows L2
def SetO (P:o9)(w:uaw)(a:o7)(S:Int->Bool)(n:Nat):HO:=.ext λ h=>Stb.SetT P w h a S n
section
variable {X:Cx}
theorem nI (hh:X.calm=true):CallR X (.type "set") (λ xs H Q=>∃ (p:o7)(ns:List Int),xs=[.ref p]/\H p=some (.tup ‹67›)/\ns.length<=1000/\∀ q H',Same H H'->H q=none->H' q=some (SetO X.prog X.w q (HT.setS ns ns.length) (HT.setN ns ns.length))->Q (.ref q) H'):=by
 intro pins s σ H xs us Q I r h;obtain⟨p,ns,rfl,hp,hl,q⟩:=h;obtain⟨u,rfl,rx⟩:=vals1 r;cases rx;obtain⟨its,U,pt,hz⟩:=I.tuple (SqT.of hp);have z:=U.length;rw[c9] at z;have fr:H ‹128›=none:=I.hok.fresh (i8 _);have F:its.toArray.size=ns.length:=by rw[k9,← z]
 exact Stb.zd3 (ns:=ns) (I.ok.hd hh) (show s.heap.IsTuple p its.toArray from pt) (by simpa using dD U) (by rw[F];unfold scanBound;left) λ h' tk O hk=>?_;rw[F] at O;exact⟨.ref ‹128›,_,I.laid (a:=‹128›) (o:=SetO X.prog X.w ‹128› (HT.setS ns ns.length) (HT.setN ns ns.length)) (t':=tk) (λ b o e=>hk b o (j5 e) e) (i8 _) ⟨O,?_,λ h1 h2 x k=>x.keep k⟩,rfl,q _ _ (aU fr) fr aM⟩;obtain⟨⟨o,_,_,_,ho,_⟩,_⟩:=O;exact⟨o,ho⟩
theorem iO (hh:X.calm=true):CallR X (.builtin "sorted") (λ xs H Q=>∃ (p:o7)(S:Int->Bool)(n:Nat),xs=[.ref p]/\H p=some (SetO X.prog X.w p S n)/\n<64/\∀ ms:List Int,ms.length=n->(∀ k,S k=true↔k∈ms)->ms.Pairwise (·<=·)->∀ l H',Same H H'->H l=none->H' l=some (.lst (ms.map V.int))->Q (.ref l) H'):=by
 intro pins s σ H xs us Q I r h;obtain⟨p,S,n,rfl,hp,ab,q⟩:=h;obtain⟨u,rfl,rx⟩:=vals1 r;cases rx;let hS:Stb.SetT X.prog X.w s.heap p S n:=(show ObjOk X.prog X.w H s.heap p (SetO X.prog X.w p S n) from I.hok p _ hp).1;exact Srt.lK (Good:=λ vs s1=>∃ (h1:Heap)(tk:Nat)(d':Drawn)(ns:List Int),s1={ s with heap:=h1,toks:=tk,drawn:=d' }/\(∀ b o,s.heap.get? b=some o->h1.get? b=some o)/\IntsAre vs ns/\ns.length=n/\∀ k,S k=true↔k∈ns)
  (λ A' E' Q' eh hQ=>Stb.wI (eh.trans (I.ok.hd hh)) hS λ h1 tk d' vs ns hk O hl U=>hQ vs _ ⟨h1,tk,d',ns,rfl,hk,O,hl,U⟩) λ its s1 g=>?_
 obtain⟨gg,tk,d',ns,rfl,kg,O,hn,U⟩:=g;let hl:its.length=ns.length:=by
  clear hn U;induction O with
  | nil=>rfl
  | cons n t _ ih=>simp [ih]
 refine⟨λ i=>ns.getD i 0,oneType',by left,λ h2 A' s' Q' q'=>Srt.jQ O h2 q',λ A' s' i j C hi hj q'=>Srt.kC O hi hj q',λ F h' c g u kp e=>?_⟩;have g':Srt.Gd ns.length F:=by rw[← hl];exact g
 have u':Srt.Up ‹42› F ns.length:=by rw[← hl];exact u
 let pm:‹62›.Perm ns:=by
  let:=iD g' λ i=>ns.getD i 0;rw[cT] at this;exact this
 let pw:‹62›.Pairwise (·<=·):=by
  rw[ua1];exact hW g' u' λ i j _ _ z=>z
 let I1:Inv X pins σ H { s with heap:=gg,toks:=tk,drawn:=d' }:=by
  let:=I.kept (t':=tk) kg;exact⟨this.ok,this.os,this.bare,this.base,this.loc,this.cell,this.free,this.freeC,this.pin,this.hok,this.len⟩
 let fr:H gg.objs.size=none:=I1.hok.fresh (i8 _);let ev:(‹62›.map V.int)=F.toList.map λ i=>‹67›.getD i .non:=by
  rw[ua0];exact ua2 λ i hi=>?_;let:=dP g' i hi;simp [ub2,this]
 let rv:Vals ‹67› its:=by
  clear hn U g' u' pm pw ev hl g u e kp;induction O with
  | nil=>exact .nil
  | cons n t _ ih=>exact .cons ⟨t,rfl⟩ ih
 exact⟨.ref gg.objs.size,_,I1.laid (a:=gg.objs.size) (o:=.lst (‹62›.map V.int)) (t':=tk) kp (i8 _) ⟨?_,Srt.outOf its F,c,?_,e⟩,rfl,q _ (pm.length_eq.trans hn) (λ k=>(U k).trans pm.mem_iff.symm) pw _ _ (aU fr) fr aM⟩
 ·let:=pm.length_eq;let aa:(64:Nat)<=p8:=by rw[ubn];decide
  rw[c9,this];left
 ·rw[ev];exact fF rv F.toList λ i hi=>by rw[c9];exact dP g' i hi
end
theorem cM (ts:List Tie)(ks:List Nat):Far.arcsF (arcsB ts ks)=arcs ts ks:=by
 unfold arcs Far.arcsF arcsB;rw[List.map_flatMap];rfl
theorem jH {n:Int}{ts:List Tie}{ks:List Nat}(ok:WebOk n ts)(ko:KeepOk ts.length ks):Far.Sym (arcs ts ks):=λ u v l h=>by
 rw[← cM] at h ⊢;obtain⟨k,m⟩:=Far.arcsF_mem.mp h;exact Far.arcsF_mem.mpr ⟨k,(eW ok ko).sym _ _ _ _ m⟩
inductive spReachedC_i (K:b8)(vs:List V)(H:Hp)(Q:VK):Prop
 | mk:∀ n ts ks wv kv r,(vs=[wv,kv,.int r])->‹74›->(0<=r)->(r<n)->(∀ (p lc la:o7)(cvs:List V)(as:List (Option Nat))(cs:List ‹37›)(H':Hp),Same H H'->H' p=some (.tup [.ref lc,.ref la])->H' lc=some (.lst cvs)->H' la=some (.lst (as.map oa))->CostL H' cvs cs->Far.Best (arcsB ts ks) n.toNat r.toNat cs as->Far.Good (arcs ts ks) n.toNat r.toNat cs->Far.Stab (arcs ts ks) cs->Q (.ref p) H')->spReachedC_i K vs H Q
def spReachedC (K:b8):Sp:=λ vs H Q _=>spReachedC_i K vs H Q
theorem yL {K:b8}(vs:List V)(H:Hp)(Q:VK)(E:XK)(h:spReachedB K vs H Q E):spReachedC K vs H Q E:=by
 obtain⟨n,ts,ks,wv,F,r,e,U,O,r1,q⟩:=h;exact⟨n,ts,ks,wv,F,r,e,U,O,r1,λ p lc la cvs as cs H' S h1 h2 h3 z B _ _=>q p lc la cvs as cs H' S h1 h2 h3 z B⟩
theorem yK {K:b8}(vs:List V)(H:Hp)(Q:VK)(E:XK)(h:spReached K vs H Q E):spReachedC K vs H Q E:=by
 obtain⟨n,ts,ks,wv,F,r,e,U,O,r1,q⟩:=h;exact⟨n,ts,ks,wv,F,r,e,U,O,r1,λ p lc la cvs as cs H' S h1 h2 h3 z _ g st=>q p lc la cvs _ cs H' S h1 h2 h3 z g st⟩
theorem zcb {ts:List Tie}{ks:List Nat}{cs:List ‹37›}(h:Far.Stab2 (arcsB ts ks) cs):Far.Stab (arcs ts ks) cs:=λ u v l c m e=>by
 rw[← cM] at m;obtain⟨k,m⟩:=Far.arcsF_mem.mp m;obtain⟨F,z,q⟩:=h _ _ _ _ _ m e;refine⟨F,z,?_⟩;unfold Far.lt2 at q;simp only at q;left
theorem zb6 {n:Int}{ts:List Tie}{ks:List Nat}(ok:WebOk n ts)(ko:KeepOk ts.length ks){u v k:Nat}{l:Int}(h:(u,v,l,k)∈arcsB ts ks):ks.filter (isTB ts u v)=[k]:=by
 let U:k∈ks/\isTB ts u v k=true:=by
  obtain⟨j,F,m⟩:=arcsB_mem.mp h;let tk:=ok.tie _ (bN (ko.2 j F)).2;unfold isTB;rcases arcs2B_mem.mp m with e | e <;> cases e
  ·exact⟨F,by rw[uhz (by left),uhz (by left)];rfl⟩
  ·exact⟨F,by rw[uhz (by left),uhz (by left)];rfl⟩
 let one:∀ j∈ks,isTB ts u v j=true->j=k:=λ j F p=>by
  let q:=U.2;let aa:=ko.2 j F;let O:=ko.2 k U.1;unfold isTB at p q;rw[m7] at p q;let a1:=uh0 p.1;let a2:=uh0 p.2;let b1:=uh0 q.1;let b2:=uh0 q.2;exact zao ok aa O (a1.trans b1.symm) (a2.trans b2.symm)
 let nd:ks.Nodup:=ko.1.imp λ h=>k8 h;let nf:(ks.filter (isTB ts u v)).Nodup:=nd.sublist List.filter_sublist;let mk:k∈ks.filter (isTB ts u v):=uct.mpr U;let all:∀ j∈ks.filter (isTB ts u v),j=k:=λ j F=>one j (uct.mp F).1 (uct.mp F).2
 match e:ks.filter (isTB ts u v) with
 | []=>rw[e] at mk;cases mk
 | [j]=>rw[all j (by rw[e];exact l9)]
 | i::j::r =>
  rw[e] at nf all;let h1:=all i l9;let h2:=all j (j8 _ l9);exact absurd (h1.trans h2.symm) (λ z=>(uba.mp nf).1 (by rw[z];exact l9))
section
variable {own:List Str}{js:List Nat}{g:TG}{te:TE}{σ:L2.St}{Q:VK}{H1:Hp}
end
end L3
namespace HT
open PySem PyProof.Rows
section
variable {prog:o9}{w:uaw}{A:uax}{R:Result->i6->Prop}{I:o7}{fp wr:List o7}{G:Array GenState->Array GenState->Prop}{St:Nat->i6->Prop}{its:List i5}{ns:List Int}
end
section
variable {prog:o9}{w:uaw}{A:uax}{E:i5->i6->Prop}{s:i6}
end
end HT
namespace L3
open PySem PySem.Spec PyProof.Rows L2
theorem IsAll.from_ {K:b8}{H:Hp}:∀ {ds:List ubo}{vs:List V}{i:Nat}{v:V},IsAll K H ds vs->vs[i]?=some v->∃ d,ds[i]?=some d/\Is K H d v
 | [],vs,i,v,h,e=>by
  let:vs=[]:=h;rw[this] at e;cases e
 | d0::ds,vs,0,v,⟨u,r,e0,h1,_⟩,e=>by
  rw[e0] at e;cases e;exact⟨d0,rfl,h1⟩
 | d0::ds,vs,i+1,v,⟨u,r,e0,_,h2⟩,e=>by
  rw[e0] at e;exact IsAll.from_ (i:=i) h2 e
section
variable {own:List Str}{js:List Nat}{g:TG}{tt:TT}{te:TE}{σ:L2.St}{Q:VK}{H1:Hp}
end
def lvl (ls:List (List Nat))(i:Nat):List Nat:=ls.getD i []
structure LevOk (n:Nat)(ls:List (List Nat)):Prop where
 one:1<=ls.length
 six:ls.length<=6
 first:lvl ls 0=d8 n
 rise:∀ i,(lvl ls i).Pairwise (·<·)
 inn:∀ i,∀ p∈lvl ls i,p<n
 down:∀ i,∀ p∈lvl ls (i+1),p∈lvl ls i
def IsTop (ls:List (List Nat))(w b:Nat):Prop:=b<ls.length/\w∈lvl ls b/\∀ i,i<ls.length->w∈lvl ls i->i<=b
def Bun (ls:List (List Nat))(D:List (Option Int))(w:Nat):Prop:=∃ x,Far.get D w=some x/\∀ b p y,IsTop ls w b->p∈lvl ls (b+1)->Far.get D p=some y->x<y
noncomputable def bunB (ls:List (List Nat))(D:List (Option Int))(w:Nat):Bool:=@decide (Bun ls D w) ‹97›
def FarsOf (ts:List Tie)(n s:Nat)(D:List (Option Int)):Prop:=D.length=n/\∀ u,u<n->Far.Dst (arcs ts ‹39›) s u (Far.get D u)
def FarsT (H:Hp)(p lf:o7)(n:Nat)(ts:List Tie):Prop:=∃ ys,H lf=some (.lst ys)/\lf≠p/\ys.length=n/\∀ i v,ys[i]?=some v->∃ l D,v=.ref l/\l≠p/\H l=some (.lst (D.map ov))/\FarsOf ts n i D
end L3
namespace HT
open PySem PyProof.Rows
section
variable {prog:o9}{w:uaw}{A:uax}{R:Result->i6->Prop}{I:o7}{fp wr:List o7}{G:Array GenState->Array GenState->Prop}{St:Nat->i6->Prop}{its:List i5}{ks:List (List Int)}
end
section
variable {prog:o9}{w:uaw}{A:uax}{E:i5->i6->Prop}{s:i6}
end
end HT
namespace L3
open PySem PySem.Spec PyProof.Rows L2
noncomputable def topN (ls:List (List Nat))(w:Nat):Nat:=@dite _ (∃ b,IsTop ls w b) ‹97› (λ h=>Classical.choose h) (λ _=>0)
structure IsPiv (ls:List (List Nat))(m:Nat)(D:List (Option Int))(o:Option Nat):Prop where
 no:o=none->∀ q∈lvl ls m,Far.get D q=none
 yes:∀ p,o=some p->p∈lvl ls m/\∃ x,Far.get D p=some x/\∀ q∈lvl ls m,∀ y,Far.get D q=some y->x<=y/\(y=x->topN ls q<=topN ls p/\(topN ls q=topN ls p->p<=q))
def tupI (k:List Int):ubo:=.tuple (k.map .int)
section
variable {own:List Str}{js:List Nat}{g:TG}{tt:TT}{te:TE}{σ:L2.St}{Q:VK}{H1:Hp}
end
noncomputable def pivN (ls:List (List Nat))(m:Nat)(D:List (Option Int)):Nat:=@dite _ (∃ p,IsPiv ls m D (some p)) ‹97› (λ h=>Classical.choose h) (λ _=>0)
noncomputable def clN (ls:List (List Nat)):Nat->Nat->Nat->Nat->List (Option Int)->List (Option Int)->Int->List (List Int)
 | 0,w,a,b,_,_,x=>[[(w:Int),(a:Int),(b:Int),x]]
 | f+1,w,a,b,Da,Db,x=>[(w:Int),(a:Int),(b:Int),x]::(if bunB ls Db w=true then [] else clN ls f (pivN ls (topN ls w+1) Db) b a Db Da ((Far.get Db (pivN ls (topN ls w+1) Db)).getD 0))
structure Cs (ts:List Tie)(n:Nat)(ls:List (List Nat))(d:Int)(j w a b:Nat)(Da Db:List (Option Int))(x:Int):Prop where
 fa:FarsOf ts n a Da
 fb:FarsOf ts n b Db
 wn:w<n
 an:a<n
 bn:b<n
 xa:Far.get Da w=some x
 lim:x<=j*d
 ab:Far.get Da b=some d
 ba:Far.get Db a=some d
 yb:∃ y,Far.get Db w=some y
 tp:j<=topN ls w
 bu:bunB ls Da w=true
section
variable {n:Int}{ts:List Tie}{ls:List (List Nat)}{d x:Int}{j w a b:Nat}{Da Db:List (Option Int)}
theorem allOk (ts:List Tie):KeepOk ts.length ‹39›:=⟨ubw,λ k q=>m8.mp q⟩
end
structure RowsOk (ls:List (List Nat))(n:Nat)(d:Int)(Du Dv:List (Option Int))(rows:List (List Int)):Prop where
 few:rows.length<=ls.length
 lim:∀ (i:Nat)(r:List Int),rows[i]?=some r->∃ p a b x:Int,r=[p,a,b,x]/\x<=i*d
 last:∃ (pre:List (List Int))(w:Nat)(a b x:Int),rows=pre++[[(w:Int),a,b,x]]/\w<n/\bunB ls Du w=true/\bunB ls Dv w=true
def ClimbV (K:b8)(H:Hp)(ls:List (List Nat))(n u v:Nat)(Du Dv:List (Option Int))(r:V):Prop:=(r=.non/\Far.get Du v=none)\/∃ t ys d,r=.ref t/\Far.get Du v=some d/\H t=some (.tup ys)/\IsAll K H ((clN ls ls.length u u v Du Dv 0).map tupI) ys/\RowsOk ls n d Du Dv (clN ls ls.length u u v Du Dv 0)
def FarsM (H:Hp)(lf:o7)(n:Nat)(ts:List Tie):Prop:=∃ ys,H lf=some (.lst ys)/\ys.length=n/\∀ i v,ys[i]?=some v->∃ l D,v=.ref l/\H l=some (.lst (D.map ov))/\FarsOf ts n i D
structure Clb (ts:List Tie)(n:Int)(ls:List (List Nat))(d:Int)(u v:Nat)(Du Dv:List (Option Int))(pre:List (List Int))(w a b:Nat)(Da Db:List (Option Int))(x:Int):Prop where
 cs:Cs ts n.toNat ls d pre.length w a b Da Db x
 sides:(Da=Du/\Db=Dv)\/(Da=Dv/\Db=Du)
 lim:∀ (i:Nat)(r:List Int),(pre++[[(w:Int),(a:Int),(b:Int),x]])[i]?=some r->∃ p a b x:Int,r=[p,a,b,x]/\x<=i*d
 rest:pre++clN ls (ls.length-pre.length) w a b Da Db x=clN ls ls.length u u v Du Dv 0
section
variable {n:Int}{ts:List Tie}{ls:List (List Nat)}{d x:Int}{u v w a b:Nat}{Du Dv Da Db:List (Option Int)}{pre:List (List Int)}
end
section
variable {K:b8}{J J':Hp}{ls:List (List Nat)}{n u v:Nat}{Du Dv:List (Option Int)}{r r1 r2:V}
end
end L3
namespace PySem.SeqAt
open PySem.Spec PySem.MeetsSeq PySem.MeetsSeq2 PySem.MeetsSeq3 PySem.SeqRoads2
open AutoSeq1 (wpAny_loadPart')
end PySem.SeqAt
namespace L3
open PySem PySem.Spec PyProof.Rows L2
section
variable {X:Cx}{o e:uc7}{es:List uc7}{to:TE}{t:TA}{name:Str}{apos cpos:Pos}{id:String}{r:V->List V->Hp->VK->Prop}
end
theorem lV {α:Type}(f:Nat->Option α):∀ (m:Nat)(L:List α),L.length=m->(∀ k,k<m->f k=L[k]?)->(d8 m).filterMap f=L
 | 0,L,hl,_=>by rw[uby hl];rfl
 | m+1,L,hl,h=>by
  let q:m<L.length:=by left
  let e:L=L.take m++[L[m]]:=by rw[List.take_append_getElem q,ube (by left)]
  rw[ubx,uc4,lV f m (L.take m) (by rw[o8];left) (λ k z=>by rw[h k (by left),uec,uh2 z])];rw[show [m].filterMap f=[L[m]] by rw[ucv,h m (by left),d7 q];rfl];exact e.symm
theorem jA (its:List i5)(j:Nat):((d8 (its.length-j)).filterMap λ (m:Nat)=>its.toArray[(((its.length:Nat):Int)-1+(m:Int)*(-1)).toNat]?)=(its.drop j).reverse:=by
 exact lV _ _ _ (by rw[ud2,m9]) λ k q=>?_;rw[List.getElem?_reverse (by rw[m9];exact q),udj,m9];rw[uf4];congr 1;left
def bk (hi:Option Int)(n j:Nat):Prop:=(hi=none/\j=0)\/(hi=some 0/\j=1/\1<=n)
theorem wP {hi:Option Int}{n j:Nat}(h:bk hi n j):Builtin.Slice.sliceAdjust none hi (-1) (n:Int)=((n:Int)-1,(j:Int)-1):=by
 unfold Builtin.Slice.sliceAdjust;simp only [show ((-1:Int)<0) by left,if_true];rcases h with ⟨rfl,rfl⟩ | ⟨rfl,rfl,h1⟩
 ·rfl
 ·exact Prod.ext rfl ?_;show (if (0:Int)<0 then max (0+(n:Int)) (-1) else min 0 ((n:Int)-1))=((1:Nat):Int)-1;rw[uh3 (by left)];left
theorem vY {n j:Nat}(h:j<=n):Builtin.Slice.slicePlaces ((n:Int)-1) ((j:Int)-1) (-1)=n-j:=by
 unfold Builtin.Slice.slicePlaces;rw[uh3 (by left)];split
 ·rw[show -(-1:Int)=1 by rfl,Int.ediv_one];left
 ·left
theorem zet {hi:Option Int}{n j:Nat}(h:bk hi n j):j<=n:=by
 rcases h with ⟨_,rfl⟩ | ⟨_,rfl,h1⟩
 ·exact uae _
 ·exact h1
section
variable {prog:o9}{w:uaw}{A:uax}{E:i5->i6->Prop}{s:i6}
theorem sB {sl:o7}{vl vu vs:i5}{hi:Option Int}{n j:Nat}{Q:Int × Int × Nat->i6->Prop}(hs:s.heap.IsSliceOf sl vl vu vs)(pl:IsPart vl none)(pu:IsPart vu hi)(ps:IsPart vs (some (-1)))(hb:bk hi n j)
  (h:Q ((n:Int)-1,-1,n-j) s):j7 (v4 prog w) A ‹117› Q E s:=by
 obtain⟨O,q,F,z⟩:=id hs;unfold Builtin.Slice.sliceApplied Builtin.Slice.sliceFields;exact a7 (a7 (v7 q z (x:=vl) rfl (a7 (v7 q z (x:=vu) rfl (a7 (v7 q z (x:=vs) rfl (c7 ?_)))))));exact a7 (HT.eV ps ?_);show j7 _ _ (if ((-1:Int)==0)=true then _ else _) _ _ s;rw[uh3 (by decide)];exact a7 (HT.eV pl (a7 (HT.eV pu (a7 (c7 ?_)))));show j7 _ _ (match Builtin.Slice.sliceAdjust none hi (-1) (n:Int) with | (lo,hi)=>pure (lo,(-1:Int),Builtin.Slice.slicePlaces lo hi (-1))) _ _ s;rw[wP hb];show j7 _ _ (pure ((n:Int)-1,(-1:Int),Builtin.Slice.slicePlaces ((n:Int)-1) ((j:Int)-1) (-1))) _ _ s;rw[vY (zet hb)];exact c7 h
theorem kZ {t sl:o7}{its:List i5}{vl vu vs:i5}{hi:Option Int}{j:Nat}{Q:i5->i6->Prop}(ht:IsTup s.heap t its.toArray)(hs:s.heap.IsSliceOf sl vl vu vs)(pl:IsPart vl none)(pu:IsPart vu hi)(ps:IsPart vs (some (-1)))(hb:bk hi its.length j)
  (h:Q ‹32› { s with heap:=s.heap.push { cls:=.type "tuple",data:=.seq (its.drop j).reverse.toArray } })
  (hsz:its.length<=p8):j7 (v4 prog w) A (getItem (.ref t) (.ref sl)) Q E s:=by
 let q:sizeOk (.seq (its.drop j).reverse.toArray):=by
  show (its.drop j).reverse.toArray.size<=p8;rw[k9,ud2,m9];left
 obtain⟨U,z,F,aa⟩:=id hs;let O:s.TypeIs (.ref sl) "slice":=⟨U,z,F⟩;unfold getItem
 try with_reducible exact uak ?_
 first | exact a7 (c7 ?_) | skip
 exact a7 (uf1 ht.typeIs (by decide) ?_);exact a7 (v9 (name:=uai "__getitem__") ht.typeIs uam
  (uaf uam ht.typeIs entry_tuple_getitem ?_ (args_tuple_getitem _ _)))
 show j7 _ _ ‹102› _ _ s;exact a7 (tupleItemsOf_ ht ?_);exact a7 (ucx O ?_);rw[uh2 (by decide)];exact a7 (sB (n:=its.toArray.size) (j:=j) hs pl pu ps (by rw[k9];exact hb) ?_);rw[k9];show j7 _ _ (if ((((its.length:Nat):Int)-1==0)&&((-1:Int)==1)&&((its.length-j)==its.length))=true then _ else _) _ _ s;rw[uh3 (by rw[show ((-1:Int)==1)=false by decide,uho,udw];decide),jA]
 first
  | exact a7 (m:=Builtin.Tuple.tupleExact _) (uac ‹70› q)
  | exact a7 (m:=Builtin.Tuple.tupleExact _) (uac (a7 (c7 ‹70›)) q)
  | exact a7 (a7 (m:=Builtin.Tuple.tupleExact _) (uac (c7 ‹70›) q))
  | exact a7 (a7 (m:=Builtin.Tuple.tupleExact _) (uac ‹70› q))
end
def SlB (X:Cx)(r:V->Option Int->Hp->VK->Prop):Prop :=
 ∀ (pins:List (o7 × Obj))(s:i6)(σ:L2.St)(H:Hp)(x:V)(v vl vu vs:i5)(hi:Option Int)(sl:o7)(Q:VK),Inv X pins σ H s->RelV x v->s.heap.IsSliceOf sl vl vu vs->IsPart vl none->IsPart vu hi->IsPart vs (some (-1))->r x hi H Q ->
  ∃ T id,typeLookup (.type T) "__getitem__"=pure (some (.builtin id))/\s.TypeIs v T/\j7 ‹38› X.A (getItem v (.ref sl)) ‹121› X.xe s
def tSlB (r:V->Option Int->Hp->VK->Prop)(te:TE)(th:TO)(ts:TE):TE:=λ σ H Q=>te σ H λ x H1=>th σ H1 λ u H3=>ts σ H3 λ z q=>z=.int (-1)/\r x u q Q
section
variable {X:Cx}{e st:uc7}{te ts:TE}{lo hi:Option uc7}{th:TO}{pos p2:Pos}
theorem yQ {r:V->Option Int->Hp->VK->Prop}(hr:SlB X r)(he:PE X e te)(hu:PO X hi th)(hs:PE X st ts):PE X (.Subscript e (.Slice none hi (some st) p2) pos) (tSlB r te th ts):=by
 intro pins s σ H Q I h;exact Subscript_ (thn (he pins s σ H _ I h) λ v s1 ⟨x,H1,I1,r1,q1⟩=>?_);exact wpAny_Slice ?_;rw[evalPart_none];exact c7 (thn (hu pins s1 σ H1 _ I1 q1) λ O s3 ⟨u,H3,I3,pu,q3⟩=>?_);rw[evalPart_some];exact thn (hs pins s3 σ H3 _ I3 q3) λ vz F ⟨z,H4,U,rz,ez,q4⟩=>?_;subst ez;obtain⟨t,rfl⟩:=rz;let I4:Inv X pins σ H4 { F with heap:=F.heap.push { cls:=.type "slice",data:=.fields #[.none,O,.int (-1) t] } }:=U.kept (t':=F.toks) λ b ob q=>a9 _ q;obtain⟨T,id,hT,ht,hg⟩:=hr pins { F with heap:=F.heap.push { cls:=.type "slice",data:=.fields #[.none,O,.int (-1) t] } } σ H4 x v .none O (.int (-1) t) u F.heap.objs.size Q I4 r1 (ug8 ..) .none pu (.int _ _) q4;show j7 ‹38› X.A (subscriptTail e (.Slice none hi (some st) p2) v (.ref F.heap.objs.size)) ‹121› X.xe { F with heap:=F.heap.push { cls:=.type "slice",data:=.fields #[.none,O,.int (-1) t] } };exact tail_any (ops:=[v,.ref F.heap.objs.size]) ht hT hg ‹95›
inductive rBkT_i (K:b8)(x:V)(hi:Option Int)(H:Hp)(Q:VK):Prop
 | mk:∀ a xs j,(x=.ref a)->(H a=some (.tup xs))->(bk hi xs.length j)->(∀ p H',Same H H'->H p=none->H' p=some (.tup (xs.drop j).reverse)->Q (.ref p) H')->rBkT_i K x hi H Q
def rBkT (K:b8):V->Option Int->Hp->VK->Prop:=λ x hi H Q=>rBkT_i K x hi H Q
theorem zdp:SlB X (rBkT X.K):=by
 intro pins s σ H x v vl vu vs hi sl Q I rx hs pl U ps h;obtain⟨a,xs,j,rfl,O,hb,q⟩:=h;cases rx;obtain⟨its,r,F,hz⟩:=I.tuple (SqT.of O);let z:its.length=xs.length:=r.length.symm;exact⟨"tuple",_,uam.lookup,F.typeIs,?_⟩;exact kZ F hs pl U ps (j:=j) (by rw[z];exact hb) ?_ (by rw[z];exact hz);exact⟨.ref ‹128›,_,I.laid (t':=s.toks) (o:=.tup (xs.drop j).reverse) (λ b ob q=>a9 _ q) (i8 _) ?_,rfl,q _ _ (aU (I.hok.fresh (i8 _))) (I.hok.fresh (i8 _)) aM⟩;exact⟨by rw[ud2,m9];left,_,(r.drop j).reverse,TupN.new _ _⟩
end
def WayM (H:Hp)(ts:List Tie)(ks:List Nat)(a b:Nat)(v:V):Prop:=(v=.non/\Far.Dst (arcs ts ks) a b none)\/∃ t ws x,v=.ref t/\H t=some (.tup (natV ws))/\ws.length<=24/\Far.MinW (arcsB ts ks) a b ws/\Far.Tr (arcs ts ks) a ws b x/\Far.Dst (arcs ts ks) a b (some x)
theorem zdj {H:Hp}{n:Int}{m:Nat}{ts:List Tie}{ks:List Nat}{a b:Nat}{v:V}(ok:WebOk n ts)(ko:KeepOk ts.length ks)(h:WayB H (arcsB ts ks) m a b v):WayM H ts ks a b v:=by
 obtain⟨cs,as,B,h⟩:=h;let q:=eW ok ko;let d:=B.dst1 q a;rw[cM] at d;rcases h with ⟨rfl,e⟩ | ⟨t,ws,c,rfl,O,z,e,F⟩
 ·rw[e] at d;exact .inl ⟨rfl,d.back (jH ok ko)⟩
 ·rw[e] at d;obtain⟨S,u⟩:=B.uni q F e;let tr:=u.rt.tr;rw[cM] at tr;exact .inr ⟨t,ws,c.1,rfl,O,z,B.minw q F e,tr,d.back (jH ok ko)⟩
inductive spWayM_i (K:b8)(vs:List V)(H:Hp)(Q:VK):Prop
 | mk:∀ n ts ks wv kv a b,(vs=[wv,kv,.int a,.int b])->‹74›->(0<=a)->(a<n)->(0<=b)->(b<n)->(∀ v H',Same H H'->WayM H' ts ks a.toNat b.toNat v->Q v H')->spWayM_i K vs H Q
def spWayM (K:b8):Sp:=λ vs H Q _=>spWayM_i K vs H Q
theorem zel {K:b8}(vs:List V)(H:Hp)(Q:VK)(E:XK)(h:spWayM K vs H Q E):spWayB K vs H Q E:=by
 obtain⟨n,ts,ks,U,O,a,b,e,z,F,a1,b0,b1,q⟩:=h;exact⟨n,ts,ks,U,O,a,b,e,z,F,a1,b0,b1,λ v H' S h=>q v H' S (zdj z.2.1 z.2.2.2 h)⟩
theorem zb9 {n:Int}{ts:List Tie}{ks:List Nat}(ok:WebOk n ts)(ko:KeepOk ts.length ks){u v k:Nat}{l:Int}(h:(u,v,l,k)∈arcsB ts ks):tbN ts u v=some k:=by
 let h2:(u,v,l,k)∈arcsB ts ‹39›:=by
  obtain⟨z,q,m⟩:=arcsB_mem.mp h;exact arcsB_mem.mpr ⟨z,m8.mpr (ko.2 z q),m⟩
 have e:=zb6 ok (allOk ts) h2;unfold tbN;rw[← List.head?_filter,e];rfl
def WaysL (J:Hp)(ts:List Tie)(ks:List Nat)(ys:List V):Prop:=∀ v∈ys,∃ t W a b,v=.ref t/\J t=some (.tup (natV W))/\W.length<=24/\Far.MinW (arcsB ts ks) a b W
theorem sb2 {H J J':Hp}{l:o7}(s:Same H J)(b:But l J J')(f:H l=none):Same H J':=λ c o e=>b _ _ (aW e f) (s _ _ e)
def WKL (K:b8)(H:Hp)(n:Int)(ts:List Tie)(ks:List Nat)(wv:V)(kp:o7):Prop:=Is K H (webD n ts) wv/\WebOk n ts/\H kp=some (.lst ((keepI ks).map V.int))/\KeepOk ts.length ks
end L3
namespace Far
def chn (R:Nat->Nat->Prop):List Nat->Prop
 | []=>True
 | [_]=>True
 | a::b::r=>R a b/\chn R (b::r)
section
variable {R:Nat->Nat->Prop}
theorem eK:∀ {l m:List Nat}{x y:Nat},chn R (l++[x])->R x y->chn R (y::m)->chn R (l++[x]++y::m)
 | [],m,x,y,_,r,h=>⟨r,h⟩
 | [a],m,x,y,h1,r,h=>⟨h1.1,eK (l:=[]) (x:=x) (y:=y) h1.2 r h⟩
 | a::b::l,m,x,y,h1,r,h=>⟨h1.1,eK (l:=b::l) (x:=x) (y:=y) h1.2 r h⟩
theorem fD:∀ {l m:List Nat}{x:Nat},chn R (l++x::m)->chn R (l++[x])/\chn R (x::m)
 | [],m,x,h=>⟨trivial,h⟩
 | [a],m,x,h=>⟨⟨h.1,trivial⟩,h.2⟩
 | a::b::l,m,x,h=>⟨⟨h.1,(fD (l:=b::l) (x:=x) h.2).1⟩,(fD (l:=b::l) (x:=x) h.2).2⟩
theorem iG (sy:∀ u v,R u v->R v u):∀ {l:List Nat},chn R l->chn R l.reverse
 | [],_=>trivial
 | [_],_=>trivial
 | a::b::r,h=>by
  let q:=iG sy h.2;rw[uej] at q;rw[uej,uej];exact eK (l:=r.reverse) (m:=[]) q (sy _ _ h.1) trivial
theorem iM:∀ {l:List Nat}{i u v:Nat},chn R l->l[i]?=some u->l[i+1]?=some v->R u v
 | [],i,u,v,_,e,_=>by cases e
 | [a],i,u,v,_,_,e=>by cases e
 | a::b::r,0,u,v,h,e1,e2=>by cases e1;cases e2;exact h.1
 | a::b::r,i+1,u,v,h,e1,e2=>iM (l:=b::r) h.2 e1 e2
def RingOf (ws:List Nat)(h:Nat)(tl:List Nat):Prop:=∃ p q,ws=p++h::q/\(tl=q++p\/tl=(q++p).reverse)
end
end Far
namespace L3
open PySem PySem.Spec PyProof.Rows L2
def adjK (ts:List Tie)(ks:List Nat)(u v:Nat):Prop:=∃ k,k∈ks/\tbN ts u v=some k
inductive spAlongW_i (K:b8)(vs:List V)(H:Hp)(Q:VK):Prop
 | mk:∀ (n:Int)(ts:List Tie)(wv:V)(t:o7)(ws:List Nat),(vs=[wv,.ref t])->‹45›->(ts.length<=60)->(H t=some (.tup (natV ws)))->(ws.length<=25)->(linked ts ws)->(∀ l H',Same H H'->H' l=some (.lst (natV (alongN ts ws)))->Q (.ref l) H')->spAlongW_i K vs H Q
def spAlongW (K:b8):Sp:=λ vs H Q _=>spAlongW_i K vs H Q
def Turn (h:Nat)(tl:List Nat):Prop:=(∀ x∈tl,h<=x)/\∀ u v p q,tl=u::p->tl=q++[v]->u<=v
theorem eU (val:Nat->Int):∀ i,(firstMet val i).Nodup/\∀ k,k∈firstMet val i↔k∈(d8 i).map val
 | 0=>⟨by rw[firstMet_zero];exact ufc,λ k=>by rw[firstMet_zero];simp⟩
 | i+1=>by
  obtain⟨h1,h2⟩:=eU val i;rw[firstMet_succ,ubx,uaq];unfold step_dedup;by_cases c:(firstMet val i).any (λ y=>y==val i)=true
  ·rw[uh2 c];obtain⟨y,U,e⟩:=ucn.mp c;let O:y=val i:=by simpa using e
   exact⟨h1,λ k=>?_⟩;rw[h2 k,uat];exact⟨.inl,λ z=>z.elim id λ z=>?_⟩;let:k=val i:=by simpa using z
   rw[this,← O,← h2 y];exact U
  ·rw[uh3 c];exact⟨udp.mpr ⟨h1,by simp,λ a F b q e=>c (ucn.mpr ⟨a,F,?_⟩)⟩,λ k=>by rw[uat,uat,h2 k];simp⟩;let:b=val i:=by simpa using q
   simp [e,this]
theorem lL:∀ {l m:List Int},l.Nodup->(∀ x∈l,x∈m)->m.length<=l.length->m.Perm l
 | [],m,_,_,h=>by
  let:m=[]:=ufu.mp (by simpa using h);rw[this]
 | x::l,m,nd,sub,h=>by
  let z:=sub x l9;obtain⟨O,U⟩:=uba.mp nd;let F:=uds z;exact F.trans (List.Perm.cons x (lL U (λ y q=>?_) ?_))
  ·exact (uet λ e=>O (by rw[← e];exact q)).mpr (sub y (j8 _ q))
  ·rw[ud5 z];simp at h;left
theorem cY (ns:List Int)(k:Int):HT.setS ns ns.length k=true↔k∈ns:=by
 have:=(eU ‹42› ns.length).2 k;rw[cT] at this;rw[← this];unfold HT.setS;rw[ucn];exact⟨λ ⟨y,q,e⟩=>by rw[← show y=k by simpa using e];exact q,λ h=>⟨k,h,by simp⟩⟩
theorem zas {ns ms:List Int}(hl:ms.length=HT.setN ns ns.length)(hm:∀ k,HT.setS ns ns.length k=true↔k∈ms):ms.Nodup/\∀ k,k∈ms↔k∈ns:=by
 obtain⟨z,q⟩:=eU ‹42› ns.length;rw[cT] at q;let F:=lL (m:=ms) z (λ x O=>(hm x).mp ((cY ns x).mpr ((q x).mp O))) (ugb hl);exact⟨F.nodup_iff.mpr z,λ k=>(hm k).symm.trans (cY ns k)⟩
def alongO (ts:List Tie)(ws:List Nat):List V:=(d8 ‹104›).map λ i=>oa ‹63›
inductive spAlongO_i (K:b8)(vs:List V)(H:Hp)(Q:VK):Prop
 | mk:∀ (n:Int)(ts:List Tie)(wv:V)(t:o7)(ws:List Nat),(vs=[wv,.ref t])->‹45›->(ts.length<=60)->(H t=some (.tup (natV ws)))->(ws.length<=40)->(∀ l H',Same H H'->H' l=some (.lst (alongO ts ws))->Q (.ref l) H')->spAlongO_i K vs H Q
def spAlongO (K:b8):Sp:=λ vs H Q _=>spAlongO_i K vs H Q
theorem gY:∀ a b:List Int,PyData.eqvAll (a.map .int) (b.map .int)=decide (a=b)
 | [],[]=>rfl
 | [],_::_=>rfl
 | _::_,[]=>rfl
 | x::a,y::b=>by
  show (udz (.int x) (.int y)&&PyData.eqvAll (a.map .int) (b.map .int))=_;rw[gY a b,show udz (.int x) (.int y)=decide (x=y) from rfl];by_cases e:x=y
  ·subst e;simp
  ·simp [e]
theorem zdm {n:Int}{ts:List Tie}(ok:WebOk n ts){u v j k:Nat}(hj:j<ts.length)(hk:k<ts.length)(h1:isTB ts u v j=true)(h2:isTB ts u v k=true):j=k:=by
 unfold isTB at h1 h2;obtain⟨a1,F⟩:=(m7 _ _).mp h1;obtain⟨U,O⟩:=(m7 _ _).mp h2;let ea:(tieAt ts j).1=(tieAt ts k).1:=(uh0 a1).trans (uh0 U).symm;let eb:(tieAt ts j).2.1=(tieAt ts k).2.1:=(uh0 F).trans (uh0 O).symm;clear a1 U F O h1 h2;let pw:=ucf.mp ok.rise;let g:∀ {i:Nat}(hi:i<ts.length),ts[i]=tieAt ts i:=λ {i} hi=>by
  let:=(bN hi).1;rw[d7 hi] at this;exact uaz this
 rcases ufq j k with z | z | z
 ·let q:=pw j k hj hk z;rw[g hj,g hk] at q;unfold endLt at q;left
 ·exact z
 ·let q:=pw k j hk hj z;rw[g hj,g hk] at q;unfold endLt at q;left
section
variable {g:TG}{tt:TT}{te:TE}{own:List Str}{js:List Nat}{σ:L2.St}{H1:Hp}{Q:VK}
end
def RowV (lo hi:Nat)(J:Hp)(v:V):Prop:=∃ (p:o7)(ns:List Int),v=.ref p/\J p=some (.tup ‹67›)/\lo<=ns.length/\ns.length<=hi
mutual
theorem Is.tk {K:b8}{H H':Hp}(e:TupKeep H H'):∀ (d:ubo){v:V},tupD d=true->Is K H d v->Is K H' d v
 | .none,_,_,h=>h
 | .bool _,_,_,h=>h
 | .int _,_,_,h=>h
 | .str _,_,_,h=>h
 | .tuple ds,_,t,h=>let ⟨q,vs,z,O,F⟩:=h;⟨q,vs,z,e _ _ O,IsAll.tk e ds t F⟩
 | .list ds,_,t,h=>by cases t
 | .dict _,_,t,h=>by cases t
theorem IsAll.tk {K:b8}{H H':Hp}(e:TupKeep H H'):∀ (ds:List ubo){vs:List V},tupAll ds=true->IsAll K H ds vs->IsAll K H' ds vs
 | [],_,_,h=>h
 | d::ds,_,t,h=>by
  let t':(tupD d&&tupAll ds)=true:=t;rw[m7] at t';obtain⟨v,r,q,F,z⟩:=h;exact⟨v,r,q,Is.tk e d t'.1 F,IsAll.tk e ds t'.2 z⟩
end
end L3
namespace Stb
open PySem PyProof.Rows
section
variable {prog:o9}{w:uaw}{A:uax}{E:i5->i6->Prop}{s:i6}
theorem zd4 {t:o7}{xs:Array i5}{ns:List Int}{Q:i5->i6->Prop}(hh:A.handled=none)(ht:s.heap.IsList t xs)(hi:IntsAre xs.toList ns)(hb:xs.size+1<scanBound)
  (fin:∀ (h':Heap)(tk:Nat),SetT prog w h' ‹128› (HT.setS ns xs.size) (HT.setN ns xs.size)->(∀ b o,b<‹128›->s.heap.get? b=some o->h'.get? b=some o)->Q ‹32› { s with heap:=h',toks:=tk }) :
  j7 (v4 prog w) A (call (.type "set") [.ref t]) Q E s:=by
 obtain⟨c,tl,au⟩:=v5.mro;let an:=v5.made;let av:=v5.sub;exact wpAny_call (ugk ?_);show j7 _ _ (callAny (.type "set") _) _ _ _;exact c7 ⟨Code.quiet_builtin _ (by symm),ubp ufh ?_⟩;rw[Around.under_plain (ue0 "set" [.ref t] []) rfl];let h1:=v5.notType;let h2:=v5.canCreate;let ay:=ufn (.ref t)
 repeat (any_goals (first | assumption | wp_step))
 exact ude (rL (.ref t) (E:=E) (U:=λ obj aa=>obj=.ref ‹128›/\aa={ s with heap:=s.heap.push (emp w) }) ⟨rfl,rfl⟩) λ r aa hr=>?_
 match r,hr with
 | .error e,hr=>exact hr
 | .ok .next,hr=>exact hr.elim
 | .ok .brk,hr=>exact hr.elim
 | .ok .cont,hr=>exact hr.elim
 | .ok (.ret obj),hr =>
  obtain⟨rfl,rfl⟩:=hr;let gS:‹79›.get? ‹128›=some (emp w):=i9 _ rfl;let hT:Shared.TypeIs { s with heap:=s.heap.push (emp w) } ‹32› "set":=⟨_,gS,rfl⟩;let aw:=v5.init.lookup;let ax:=v5.init.bind ‹32›
  repeat (any_goals (first | assumption | wp_step))
  exact ude (ugo (R:=wants (λ r O=>r=.none/\∃ h' tk,O={ s with heap:=h',toks:=tk }/\SetT prog w h' ‹128› (HT.setS ns xs.size) (HT.setN ns xs.size)/\(∀ b o,b<‹128›->s.heap.get? b=some o->h'.get? b=some o)) E) v5.init.plain ufp (ufv hT ?_)) λ ae O q=>?_
  ·obtain⟨ot,ho,hc,m,hd⟩:=id ht;obtain⟨ar,ab,am,z⟩:=ot;simp only at hc hd;subst hc hd;let ao:‹79›.get? t=some { cls:=.type "list",dict:=ab,data:=.seq xs m,slots:=z }:=a9 _ ho;let f1:=PySem.F.sub_list_set;let f2:=PySem.F.sub_list_frozenset;let f3:(Value.type "list"==Value.type "dict")=false:=by decide
   let ah:‹79›.IsList t xs:=⟨_,ao,rfl,m,rfl⟩;unfold Builtin.«set.__init__» noKeywords Builtin.Frozenset.updateFrom;generalize aq:pyIter=PI
   wp_walk;subst aq
   exact udy ah (a7 (ueu ?_));let lt:t<‹128›:=j5 ho;let ak:A.in1.in1.in1.handled=none:=by simp [hh]
   let ac:‹79›.objs.size=‹128›+1:=uan ..;let tI:t≠‹79›.objs.size:=by rw[ac];exact k8 (ubf lt)
   let ap:‹128›∉[‹79›.objs.size,t]:=by
    rw[ac];simp only [j4,l7,or_false,not_or];exact⟨k8 (ucq _),(k8 lt).symm⟩
   let af:∀ (i:Nat)(v:i5),xs[i]?=some v->∃ u,v=.int (‹42› i) u:=λ i v hv=>IntsAre.int_at hi i v (by rw[ub1];exact hv);exact qY ((Walks.list ak _ t tI xs).toS) ‹128› ap ‹42› af hb (xs.size-0) 0 _ (by left) (uae _) ?st ?s0 ?fin
   case st=>exact⟨⟨_,i9 _ rfl,M⟩,ah.push _⟩
   case s0=>exact (rP s.heap).keep λ o e=>a9 _ e
   case fin =>
    rintro ⟨h',g',d',aj,al⟩ hm ad;obtain rfl:g'=s.gens:=hm.gens;obtain rfl:d'=s.drawn:=hm.drawn;obtain rfl:al=s.os:=hm.os;exact c7 (c7 ⟨rfl,h',aj,rfl,ad,λ b o ai e=>hm.heap b o ?_ (a9 _ (a9 _ e))⟩);rw[ac];simp only [j4,l7,or_false,not_or];exact⟨k8 ai,k8 (ubf ai)⟩
  ·match ae,q with
   | .error e,q=>exact q
   | .ok .next,q=>exact q.elim
   | .ok .brk,q=>exact q.elim
   | .ok .cont,q=>exact q.elim
   | .ok (.ret v),q =>
    obtain⟨rfl,h',tk,rfl,ad,hk⟩:=q
    repeat (any_goals (first | assumption | wp_step))
    exact fin h' tk ad hk
end
end Stb
namespace L3
open PySem PySem.Spec PyProof.Rows L2
section
variable {X:Cx}
theorem iX (hh:X.calm=true):CallR X (.type "set") (λ xs H Q=>∃ (p:o7)(ns:List Int),xs=[.ref p]/\H p=some (.lst ‹67›)/\ns.length<=1000/\∀ q H',Same H H'->H q=none->H' q=some (SetO X.prog X.w q (HT.setS ns ns.length) (HT.setN ns ns.length))->Q (.ref q) H'):=by
 intro pins s σ H xs us Q I r h;obtain⟨p,ns,rfl,hp,hl,q⟩:=h;obtain⟨u,rfl,rx⟩:=vals1 r;cases rx;obtain⟨its,U,pt,hz⟩:=I.list (SqL.of hp);have z:=U.length;rw[c9] at z;have fr:H ‹128›=none:=I.hok.fresh (i8 _);have F:its.toArray.size=ns.length:=by rw[k9,← z]
 exact Stb.zd4 (ns:=ns) (I.ok.hd hh) (show s.heap.IsList p its.toArray from pt.isList) (by simpa using dD U) (by rw[F];unfold scanBound;left) λ h' tk O hk=>?_;rw[F] at O;exact⟨.ref ‹128›,_,I.laid (a:=‹128›) (o:=SetO X.prog X.w ‹128› (HT.setS ns ns.length) (HT.setN ns ns.length)) (t':=tk) (λ b o e=>hk b o (j5 e) e) (i8 _) ⟨O,?_,λ h1 h2 x k=>x.keep k⟩,rfl,q _ _ (aU fr) fr aM⟩;obtain⟨⟨o,_,_,_,ho,_⟩,_⟩:=O;exact⟨o,ho⟩
end
end L3
namespace Far
variable {A:List (Nat × Nat × Int)}{s:Nat}
def Unit1 (A:List ‹49›):Prop:=∀ u v l,(u,v,l)∈A->l=1
def AtK (A:List ‹49›)(s k v:Nat):Prop:=Walk A s v (k:Int)/\∀ x,Walk A s v x->(k:Int)<=x
structure Bfs (A:List (Nat × Nat × Int))(s i:Nat)(D:Nat->Option Nat)(ring:List Nat):Prop where
 found:∀ v d,D v=some d↔AtK A s d v/\d<i
 ring:∀ v,v∈ring↔AtK A s i v
end Far
namespace Lr
open Far (chn eK fD iG iM RingOf)
section
variable {R:Nat->Nat->Prop}
structure Rg (R:Nat->Nat->Prop)(h:Nat)(tl:List Nat):Prop where
 len:2<=tl.length
 nd:(h::tl).Nodup
 ch:chn R (h::tl++[h])
def Cano (h:Nat)(tl:List Nat):Prop:=(∀ v∈tl,h<v)/\∃ x m y,tl=x::(m++[y])/\x<y
def stepW (rows:Nat->List Nat)(w:List Nat):List (List Nat):=((rows (w.getLast?.getD 0)).filter λ o=>decide (w.headD 0<o)&&!decide (o∈w)).map λ o=>w++[o]
def ways (rows:Nat->List Nat)(n:Nat):Nat->List (List Nat)
 | 0=>(d8 n).map λ v=>[v]
 | s+1=>(ways rows n s).flatMap (stepW rows)
structure PW (R:Nat->Nat->Prop)(n:Nat)(w:List Nat):Prop where
 ne:w≠[]
 nd:w.Nodup
 ch:chn R w
 lt:∀ v∈w,v<n
 up:∀ h t,w=h::t->∀ v∈t,h<v
section
variable {rows:Nat->List Nat}{n:Nat}
end
end
end Lr
namespace Lr
open Far (chn eK fD iG iM RingOf)
def lle:List Nat->List Nat->Prop
 | [],_=>True
 | _::_,[]=>False
 | a::l,b::m=>a<b\/(a=b/\lle l m)
section
variable {R:Nat->Nat->Prop}
structure Sh (R:Nat->Nat->Prop)(z v:Nat)(l:List Nat):Prop where
 ch:chn R (v::l)
 last:(v::l).getLast?=some z
 min:∀ l',chn R (v::l')->(v::l').getLast?=some z->l.length<=l'.length
def Ds (R:Nat->Nat->Prop)(z:Nat)(D:Nat->Option Nat):Prop:=∀ v,(∀ m,D v=some m->∃ l,chn R (v::l)/\(v::l).getLast?=some z/\l.length=m)/\∀ l,chn R (v::l)->(v::l).getLast?=some z->∃ m,D v=some m/\m<=l.length
def Rm (R:Nat->Nat->Prop)(a b u v:Nat):Prop:=R u v/\¬ (u=a/\v=b)/\¬ (u=b/\v=a)
end
end Lr
namespace Lr
open Far (chn eK fD iG iM RingOf)
structure Ties (R:Nat->Nat->Prop)(ks:List Nat)(ends:Nat->Nat × Nat):Prop where
 sy:∀ u v,R u v->R v u
 of:∀ k∈ks,(ends k).1<(ends k).2/\R (ends k).1 (ends k).2
 to:∀ u v,R u v->u<v->∃ k∈ks,ends k=(u,v)
 up:∀ k∈ks,∀ j∈ks,k<=j->(ends k).1<(ends j).1\/((ends k).1=(ends j).1/\(ends k).2<=(ends j).2)
section
variable {R:Nat->Nat->Prop}{ks:List Nat}{ends:Nat->Nat × Nat}
end
section
variable {R:Nat->Nat->Prop}{rows:Nat->List Nat}{n:Nat}
end
end Lr
namespace Peel
abbrev T2:=Nat × Nat
def hit (gone:List Nat)(p:Nat)(t:T2):Bool:=(t.1==p&&!gone.contains t.2)||(t.2==p&&!gone.contains t.1)
def deg (ts:List T2)(gone:List Nat)(p:Nat):Nat:=ts.countP (hit gone p)
def may (ts:List T2)(d:Int)(gone:List Nat)(p:Nat):Bool:=!gone.contains p&&decide ((deg ts gone p:Int)<=d)
def next (n:Nat)(ts:List T2)(d:Int)(gone:List Nat):Option Nat:=(d8 n).find? (may ts d gone)
def run (n:Nat)(ts:List T2)(d:Int):Nat->List Nat->List Nat
 | 0,g=>g
 | f+1,g=>match next n ts d g with
  | none=>g
  | some p=>run n ts d f (g++[p])
section
variable {n:Nat}{ts:List T2}{d:Int}{g:List Nat}{p:Nat}
def Good (n:Nat)(g:List Nat):Prop:=g.Nodup/\∀ p∈g,p<n
theorem jC:∀ (n:Nat)(g:List Nat),g.Nodup->(∀ p∈g,p<n)->g.length<=n
 | 0,[],_,_=>i8 _
 | 0,p::_,_,h=>absurd (h p l9) (ueg _)
 | n+1,g,nd,h=>by
  let h1:=jC n (g.filter λ p=>p != n) (nd.filter _) λ p q=>by
   let:=uct.mp q;let a:=h p this.1;let b:p≠n:=by simpa using this.2
   left
  let e:g.length=(g.filter λ p=>p != n).length+g.countP (λ p=>p==n):=by
   rw[← List.countP_eq_length_filter];have:=List.length_eq_countP_add_countP (λ p=>p==n) (l:=g);have e2:g.countP (λ p=>decide ¬(p==n)=true)=g.countP λ p=>p != n:=List.countP_congr λ x _=>by simp
   rw[e2] at this;left
  let c:g.countP (λ p=>p==n)<=1:=by
   let:=List.nodup_iff_count.mp nd n;exact this
  left
def gone (n:Nat)(ts:List T2)(d:Int):List Nat:=run n ts d n []
end
end Peel
namespace L3
open PySem PySem.Spec PyProof.Rows L2
section
variable {g:TG}{tt:TT}{te:TE}{own:List Str}{js:List Nat}{σ:L2.St}{H1:Hp}{Q:VK}
theorem zW {K:b8}{a:o7}{xs:List V}(hx:H1 a=some (.lst xs))(Sg:L2.St->Prop)(sel:Nat->Option V)(hn:xs.length<=1000)(h0:Sg ‹93›)
  (step:∀ i x σ' H',xs[i]?=some x->Same H1 H'->Sg σ'->∀ (C:L2.St->V->Hp->Prop)(L:L2.St->Hp->Prop),(∀ σ3 v H5,Sg σ3->Same H' H5->sel i=some v->C σ3 v H5)->(∀ σ3 H5,Sg σ3->Same H' H5->sel i=none->L σ3 H5) ->
   g x σ' H' λ σ3 H3=>tt σ3 H3 λ b H4=>if b=true then te σ3 H4 λ v H5=>C σ3 v H5 else L σ3 H4)
  (fin:∀ D H',H1 D=none->Same H1 H'->H' D=some (.lst ((d8 xs.length).filterMap sel))->Q (.ref D) H'):CompGo own js g tt te σ Q (Itl K a) H1:=by
 exact jS xs.length Sg sel hn h0 (λ i H' hi s=>⟨xs,xs[i],SqL.of (s _ _ hx),by simp [hi]⟩) (λ H' s=>⟨xs,SqL.of (s _ _ hx),i8 _⟩) (λ i x σ' H' H2 hi s q F C L O z=>?_) fin;obtain⟨rfl,q⟩:=q;exact step i x σ' _ (q xs (SqL.of (s _ _ hx))) s F C L O z
end
section
variable {own:List Str}{js:List Nat}{g:TG}{te:TE}{σ:L2.St}{Q:VK}{H1:Hp}
end
structure Bes (H:Hp)(l:o7)(as:List o7)(rows:Nat->List V):Prop where
 top:H l=some (.lst (as.map V.ref))
 nd:as.Nodup
 own:l∉as
 row:∀ i a,as[i]?=some a->H a=some (.lst (rows i))
def Uniq (ts:List Tie)(ks:List Nat)(j m:Nat):Prop:=∃ cs:List Nat,cs.Nodup/\cs.length=m/\∀ c∈cs,∃ k∈ks,∃ l,(j,c,l)∈arcs2 (tieAt ts k)
section
variable {X:Cx}
inductive rExtendB_i  (x:V) (vs:List V) (H:Hp) (Q:VK):Prop
 | mk:∀ l b xs zs,(x=.ref l)->(vs=[.ref b])->(H l=some (.lst xs))->(H b=some (.lst zs))->(xs.length+zs.length<=10^7)->(∀ H',But l H H'->H' l=some (.lst (xs++zs))->Q .non H')->rExtendB_i x vs H Q
def rExtendB :V->List V->Hp->VK->Prop:=λ x vs H Q=>rExtendB_i x vs H Q
theorem xA:MtM X "list.extend" rExtendB:=by
 intro pins s σ H x vs v us Q I U z h;obtain⟨l,b,xs,zs,rfl,rfl,O,F,hz,q⟩:=h;exact zB (X:=X) pins s σ H _ _ v us Q I U z ⟨l,b,xs,zs,M,O,F,uaj hz (by decide),q _ But.upd aM⟩
end
def Adj (ts:List Tie)(ks:List Nat)(u v:Nat):Prop:=∃ k∈ks,(u,v,(tieAt ts k).2.2)∈arcs2 (tieAt ts k)
def en (ts:List Tie)(k:Nat):Nat × Nat:=((tieAt ts k).1.toNat,(tieAt ts k).2.1.toNat)
section
variable {n:Int}{ts:List Tie}{ks:List Nat}{u v k:Nat}
end
theorem gU {K:b8}{H:Hp}{p:o7}{ks:List Nat}(h:H p=some (.tup (natV ks))):Is K H (keepD ks) (.ref p):=⟨p,A,h,by rw[cG];exact IsAll.ints _⟩
def IsLR (ts:List Tie)(ks:List Nat)(h:Nat)(tl:List Nat):Prop:=Lr.Rg (Adj ts ks) h tl/\Lr.Cano h tl/\(∀ h' tl',Lr.Rg (Adj ts ks) h' tl'->tl.length<=tl'.length)/\∀ h' tl',Lr.Rg (Adj ts ks) h' tl'->Lr.Cano h' tl'->tl'.length=tl.length->Lr.lle (h::tl) (h'::tl')
section
variable {J:It}{g:TG}{tt:TT}{te:TE}{own:List Str}{js:List Nat}{σ:L2.St}{H1:Hp}{Q:VK}
theorem xJ {K K':b8}{a:o7}{xs:List V}(hx:H1 a=some (.lst xs))(Sg:L2.St->Prop)(sel:Nat->Option ubo)(tup:∀ i d,sel i=some d->tupD d=true)(hn:xs.length<=1000)(h0:Sg ‹93›)
  (step:∀ i x σ' H',xs[i]?=some x->Same H1 H'->Sg σ'->∀ (C:L2.St->V->Hp->Prop)(L:L2.St->Hp->Prop),(∀ σ3 v d H5,Sg σ3->Same H' H5->sel i=some d->Is K' H5 d v->C σ3 v H5)->(∀ σ3 H5,Sg σ3->Same H' H5->sel i=none->L σ3 H5) ->
   g x σ' H' λ σ3 H3=>tt σ3 H3 λ b H4=>if b=true then te σ3 H4 λ v H5=>C σ3 v H5 else L σ3 H4)
  (fin:∀ D ys H',H1 D=none->Same H1 H'->H' D=some (.lst ys)->ys.length<=xs.length->IsAll K' H' ((d8 xs.length).filterMap sel) ys->Q (.ref D) H'):CompGo own js g tt te σ Q (Itl K a) H1:=by
 intro D hD;let tupI:∀ i,tupAll ((d8 i).filterMap sel)=true:=λ i=>by
  let go:∀ is:List Nat,tupAll (is.filterMap sel)=true:=λ is=>by
   induction is with
   | nil=>rfl
   | cons j r ih =>
    rw[ucv];cases e:sel j with
    | none=>exact ih
    | some d=>show (tupD d&&tupAll (r.filterMap sel))=true;rw[tup j d e,ih];rfl
  exact go _
 exact⟨λ i m ys σ' H'=>m=xs.length-i/\i<=xs.length/\Sg σ'/\Same H1 H'/\ys.length<=i/\IsAll K' H' ((d8 i).filterMap sel) ys,⟨xs.length,rfl,uae _,h0,aU hD,i8 _,rfl⟩,?_⟩;rintro i m ys σ' H' ⟨rfl,hi,sg,sm,ly,ia⟩ hd;let sq:SqL K H' a xs:=SqL.of (sm _ _ hx);by_cases U:i<xs.length
 ·exact .inr ⟨⟨xs,xs[i],sq,by simp [U]⟩,λ x H2 hy=>?_⟩;obtain⟨rfl,hy⟩:=hy;exact step i x σ' _ (hy xs sq) sm sg
   (λ σ3 v H5=>H5 D=some (.lst ys)/\ys.length<p8/\∃ m',m'<xs.length-i/\(m'=xs.length-(i+1)/\i+1<=xs.length/\Sg σ3/\Same H1 ‹114›/\(ys++[v]).length<=i+1/\IsAll K' ‹114› ((d8 (i+1)).filterMap sel) (ys++[v])))
   (λ σ3 H5=>H5 D=some (.lst ys)/\∃ m',m'<xs.length-i/\(m'=xs.length-(i+1)/\i+1<=xs.length/\Sg σ3/\Same H1 H5/\ys.length<=i+1/\IsAll K' H5 ((d8 (i+1)).filterMap sel) ys)) (λ σ3 v d H5 q O e hv=>?_) (λ σ3 H5 q O e=>?_)
  ·let F:=O _ _ hd;let b5:But D H5 ‹114›:=λ b o hb z=>by rw[aL hb];exact z
   exact⟨F,ubv (by left:ys.length<=1000) (by decide),xs.length-(i+1),by left,rfl,U,q,λ b o z=>?_,by rw[i7,j6];left,?_⟩
   ·rw[aL (aW z hD)];exact O _ _ (sm _ _ z)
   ·rw[ubx,uc4,show [i].filterMap sel=[d] by simp [e]];exact IsAll.snoc (Is.but b5 F _ (tup i d e) hv) (IsAll.but b5 F _ (tupI i) (IsAll.same O _ ia))
  ·exact⟨O _ _ hd,xs.length-(i+1),by left,rfl,U,q,sm.trans O,by left,?_⟩;rw[ubx,uc4,show [i].filterMap sel=[] by simp [e],uc5];exact IsAll.same O _ ia
 ·let e:i=xs.length:=by left
  subst e;exact .inl ⟨⟨xs,sq,i8 _⟩,fin D ys H' hD sm hd ly ia⟩
end
end L3
namespace L3
end L3
namespace L3
open PySem PySem.Spec PyProof.Rows L2
theorem zat {ns:List Int}{m:Nat}(h:∀ x∈ns,0<=x/\x<m):HT.setN ns ns.length<=m:=by
 obtain⟨h1,h2⟩:=eU ‹42› ns.length;rw[L3.cT ns 0] at h2;let e:(firstMet ‹42› ns.length).length=((firstMet ‹42› ns.length).map ubk).length:=(c9 _).symm;show (firstMet ‹42› ns.length).length<=m;rw[e];exact Peel.jC m _ ?_ λ p O=>?_
 ·rw[uau,ua1];exact ucb ?_ h1;intro a b ha U F z;let:=h a ((h2 a).mp ha);let:=h b ((h2 b).mp U);exact F (by left)
 ·obtain⟨x,q,rfl⟩:=w8.mp O;let:=h x ((h2 x).mp q);left
theorem jP:∀ {ms:List Int},(∀ x∈ms,0<=x)->ms.map V.int=natV (ms.map ubk)
 | [],_=>rfl
 | x::ms,h=>by
  let e:((x.toNat:Nat):Int)=x:=ua4 (h x l9);let q:=jP (ms:=ms) λ y z=>h y (j8 _ z);show V.int x::ms.map V.int=V.int ((x.toNat:Nat):Int)::natV (ms.map ubk);rw[e,q]
theorem wE (a b:List Nat):natV (a++b)=natV a++natV b:=by unfold natV;rw[uaq]
theorem gJ (a:List Nat):(natV a).length=a.length:=by unfold natV;rw[c9]
theorem bM (E:List (Option Nat)){i v:Nat}(x:Nat)(h:i<E.length):Far.get (E.set i (some x)) v=if v=i then some x else Far.get E v:=by
 unfold Far.get;rw[c8,c8];by_cases z:v=i
 ·subst z;rw[uh2 rfl,uf0 h];rfl
 ·rw[uh3 z,ugd (Ne.symm z)]
theorem zbc {K:b8}{t1 t2:Bool}{l1 l2:o7}{xs zs:List V}{g:TG}{tb:TS}{D:Ends}{σ:L2.St}{H:Hp}(Pv:Nat->L2.St->Hp->Prop)(h0:Pv 0 σ H)(hl:∀ i σ H,Pv i σ H->SqX t1 K H l1 xs/\SqX t2 K H l2 zs)
  (hs:∀ i x z T σ H,xs[i]?=some x->zs[i]?=some z->H T=none->Pv i σ H->g (.ref T) σ (upd H T (.tup [x,z])) λ σ2 H2=>tb { D with nx:=Pv (i+1),ct:=Pv (i+1),bk:=D.nx } σ2 H2) (hd:∀ σ H,Pv (min xs.length zs.length) σ H->D.nx σ H) :
  ∃ W:Nat->Nat->L2.St->Hp->Prop,(∃ m,W 0 m σ H)/\∀ i m σ H,W i m σ H ->
   ((Itz t1 t2 K l1 l2).stop i H/\D.nx σ H)\/((Itz t1 t2 K l1 l2).go i H/\∃ N:L2.St->Hp->Prop,(∀ σ' H',N σ' H'->∃ m',m'<m/\W (i+1) m' σ' H')/\∀ x H',(Itz t1 t2 K l1 l2).yld i H x H'->g x σ H' λ σ2 H2=>tb { D with nx:=N,ct:=N,bk:=D.nx } σ2 H2):=by
 exact⟨λ i m σ H=>m=xs.length-i/\i<=min xs.length zs.length/\Pv i σ H,⟨xs.length,by simp,uae _,h0⟩,?_⟩;rintro i m σ H ⟨rfl,hi,p⟩;obtain⟨F,O⟩:=hl i σ H p;by_cases q:i<xs.length/\i<zs.length
 ·let U:xs[i]?=some xs[i]:=d7 q.1;let e2:zs[i]?=some zs[i]:=d7 q.2;exact .inr ⟨⟨xs,zs,P,F,O,U,e2⟩,Pv (i+1),λ σ' H' p'=>⟨xs.length-(i+1),by left,rfl,by left,p'⟩,λ x H' y=>?_⟩;obtain⟨T,x',y',hT,rfl,rfl,a1,a2⟩:=y;let b1:=a1 _ F;let b2:=a2 _ O;exact hs i x' y' T σ H b1 b2 hT p
 ·let e:i=min xs.length zs.length:=by left
  exact .inl ⟨⟨xs,zs,F,O,by left⟩,hd σ H (e ▸ p)⟩
theorem pE (r x:Int):capO r (some x)=if r<x then r else x:=rfl
section
variable {n g:Int}{ts:List Tie}{ks:List Nat}{k:Nat}
end
def tupH (hs:List Int):ubo:=.tuple (hs.map .int)
end L3
namespace Far
end Far
namespace L3
open PySem PySem.Spec PyProof.Rows L2
section
variable {n:Int}{ts:List Tie}
theorem bX (ts:List Tie):KeepOk ts.length ‹39›:=⟨ubw,λ k q=>m8.mp q⟩
theorem jK:∀ {a b:List Nat},a.Pairwise (·<·)->b.Pairwise (·<·)->(∀ k,k∈a↔k∈b)->a=b
 | [],[],_,_,_=>rfl
 | [],y::b,_,_,h=>by let:=(h y).mpr l9;cases this
 | x::a,[],_,_,h=>by let:=(h x).mp l9;cases this
 | x::a,y::b,pa,pb,h=>by
  obtain⟨U,p2⟩:=uea.mp pa;obtain⟨O,q2⟩:=uea.mp pb;let e:x=y:=by
   rcases j4.mp ((h x).mp l9) with z | z
   ·exact z
   ·rcases j4.mp ((h y).mpr l9) with F | F
    ·exact F.symm
    ·let:=O x z;let:=U y F;left
  subst e;rw[jK p2 q2 λ k=>?_];constructor
  ·intro q;rcases j4.mp ((h k).mp (j8 _ q)) with z | z
   ·let:=U k q;left
   ·exact z
  ·intro q;rcases j4.mp ((h k).mpr (j8 _ q)) with z | z
   ·let:=O k q;left
   ·exact z
theorem vV {ms:List Int}{xs ks:List Nat}(hl:ms.length=HT.setN (keepI xs) (keepI xs).length)(hm:∀ k,HT.setS (keepI xs) (keepI xs).length k=true↔k∈ms)(pw:ms.Pairwise (·<=·))(rk:ks.Pairwise (·<·))(h:∀ k,k∈ks↔k∈xs):ms.map V.int=natV ks:=by
 obtain⟨nd,q⟩:=zas hl hm;let F:∀ x∈ms,0<=x:=λ x z=>by
  obtain⟨c,_,rfl⟩:=w8.mp ((q x).mp z);exact ua3 c
 rw[jP F];congr 1;let lt:ms.Pairwise (·<·):=(pw.and nd).imp λ ⟨a,b⟩=>by left
 exact jK ?_ rk λ k=>?_
 ·rw[ua1];exact ucb ?_ lt;intro a b U hb ab;let:=F a U;left
 ·rw[h k,w8];constructor
  ·rintro ⟨x,z,rfl⟩;obtain⟨c,hc,rfl⟩:=w8.mp ((q x).mp z);rw[uav];exact hc
  ·intro O;exact⟨(k:Int),(q _).mpr (w8.mpr ⟨k,O,rfl⟩),uav k⟩
theorem gX:∀ {a b:List Nat},a.Nodup->(∀ x∈a,x∈b)->a.length<=b.length
 | [],_,_,_=>uae _
 | x::a,b,nd,h=>by
  obtain⟨O,F⟩:=uba.mp nd;have q:=h x l9;have ih:=gX (a:=a) (b:=b.erase x) F λ y z=>(uet (λ e=>O (by rw[← e];exact z))).mpr (h y (j8 _ z));have U:=ud5 q;have pos:=List.length_pos_of_mem q;rw[uas];left
end
theorem zbd {K:b8}{t:Bool}{l:o7}{xs:List V}{g:TG}{tb:TS}{D:Ends}{σ:L2.St}{H:Hp}(Pv:Nat->L2.St->Hp->Prop)(h0:Pv 0 σ H)(hl:∀ i σ H,Pv i σ H->SqX t K H l xs)
  (hs:∀ i x T σ H,xs[i]?=some x->H T=none->Pv i σ H->g (.ref T) σ (upd H T (.tup [.int (i:Nat),x])) λ σ2 H2=>tb { D with nx:=Pv (i+1),ct:=Pv (i+1),bk:=D.nx } σ2 H2) (hd:∀ σ H,Pv xs.length σ H->D.nx σ H) :
  ∃ W:Nat->Nat->L2.St->Hp->Prop,(∃ m,W 0 m σ H)/\∀ i m σ H,W i m σ H ->
   ((Itn t K l).stop i H/\D.nx σ H)\/((Itn t K l).go i H/\∃ N:L2.St->Hp->Prop,(∀ σ' H',N σ' H'->∃ m',m'<m/\W (i+1) m' σ' H')/\∀ x H',(Itn t K l).yld i H x H'->g x σ H' λ σ2 H2=>tb { D with nx:=N,ct:=N,bk:=D.nx } σ2 H2):=by
 exact⟨λ i m σ H=>m=xs.length-i/\i<=xs.length/\Pv i σ H,⟨xs.length,by simp,uae _,h0⟩,?_⟩;rintro i m σ H ⟨rfl,hi,p⟩;let z:=hl i σ H p;by_cases q:i<xs.length
 ·let F:xs[i]?=some xs[i]:=d7 q;exact .inr ⟨⟨xs,_,z,F⟩,Pv (i+1),λ σ' H' p'=>⟨xs.length-(i+1),by left,rfl,q,p'⟩,λ x H' y=>?_⟩;obtain⟨T,O,U,rfl,rfl,a1⟩:=y;exact hs i O T σ H (a1 _ z) U p
 ·let e:i=xs.length:=by left
  subst e;exact .inl ⟨⟨xs,z,i8 _⟩,hd σ H p⟩
end L3
namespace L2
open PySem PySem.Spec PyProof.Rows
section
variable {X:Cx}{k v:uc7}{pos:Pos}{tk tv:TE}
end
end L2
namespace HT
open PySem PyProof.Rows
open Sem (wp)
section
variable {prog:o9}{w:uaw}{A:uax}{E:i5->i6->Prop}{s:i6}
end
end HT
namespace L3
open PySem PySem.Spec PyProof.Rows L2
def PapV (H:Hp)(lo hi m:Nat)(v:V):Prop:=∃ p xs,v=.ref p/\H p=some (.tup xs)/\xs.length<=m/\∀ u∈xs,RowV lo hi H u
end L3
namespace Far
section
variable {A B:List (Nat × Nat × Int)}{s u v:Nat}{x y:Int}
end
end Far
namespace Far
section
variable {G:Nat->Option Int}{len:Nat->Int}
end
end Far
namespace Far
section
variable {A:List (Nat × Nat × Int)}{s:Nat}
theorem settle {n:Nat}(P:Pos A)(n24:n<=24)(inn:∀ u v l,(u,v,l)∈A->u<n/\v<n)(top:∀ u v l,(u,v,l)∈A->l<=10^18):∀ (m:Nat)(cs:List ‹37›),mu cs=m->Good A n s cs->∃ cs',Good A n s cs'/\Stab A cs':=by
 intro m;induction m using uf8 with
 | ind m ih =>
  intro cs O g;by_cases c:∃ u v l e,(u,v,l)∈A/\get cs u=some e/\(get cs v=none\/∃ c',get cs v=some c'/\lt2 (e.1+l,e.2+0) c')
  ·obtain⟨u,v,l,e,q,h1,h2⟩:=c;obtain⟨F,lt⟩:=Good.step P n24 g q (top _ _ _ q) (by decide) (by decide) (inn _ _ _ q).2 h1 h2;exact ih _ (by left) _ rfl F
  ·exact⟨cs,g,λ u v l e q h1=>?_⟩;cases h:get cs v with
   | none=>exact absurd ⟨u,v,l,e,q,h1,.inl h⟩ c
   | some c' =>
    exact⟨c',rfl,?_⟩;rcases Int.lt_or_le (e.1+l) c'.1 with z | z
    ·exact absurd ⟨u,v,l,e,q,h1,.inr ⟨c',h,.inl z⟩⟩ c
    ·left
theorem Dst.top {n:Nat}(P:Pos A)(n24:n<=24)(hs:s<n)(inn:∀ u v l,(u,v,l)∈A->u<n/\v<n)(top:∀ u v l,(u,v,l)∈A->l<=10^18){v:Nat}{x:Int}(h:Dst A s v (some x)):x<=((n:Int)-1)*10^18:=by
 obtain⟨cs,g,st⟩:=settle P n24 inn top _ _ rfl (Good.first (A:=A) hs);let e:=(g.dst st v).unique h;obtain⟨c,q,e⟩:=r6.mp e;let t:=g.top v c q;let l:=gI cs;rw[g.len] at l;left
end
end Far
namespace L3
open PySem PySem.Spec PyProof.Rows L2
section
variable {near kept:Nat->Nat->Option Int}{u v:Nat}{r:List (Nat × Nat)}{m:Int × Int × Int}{x y:Int}
end
def WKE (K:b8)(H:Hp)(n:Int)(ts:List Tie)(ks:List Nat)(wv:V)(kp:o7)(tp:Bool):Prop:=Is K H (webD n ts) wv/\WebOk n ts/\H kp=some (if tp=true then .tup (natV ks) else .lst (natV ks))/\KeepOk ts.length ks
section
variable {g:TG}{tt:TT}{te:TE}{own:List Str}{js:List Nat}{σ:L2.St}{H1:Hp}{Q:VK}
end
theorem fR (xs:List V)(k:Nat):cutV xs none (some (k:Int))=xs.take k:=by
 unfold cutV;rw[HT.oI,HT.pN,uhn,Nat.sub_zero];by_cases z:k<=xs.length
 ·rw[Nat.min_eq_left z]
 ·rw[Nat.min_eq_right (by left),ube (i8 _),ube (by left)]
theorem eI (xs:List V)(k:Nat):cutV xs (some (k:Int)) none=xs.drop k:=by
 unfold cutV;rw[HT.oI,HT.pN];by_cases z:k<=xs.length
 ·rw[Nat.min_eq_left z,ube (by rw[m9];exact i8 _)]
 ·rw[Nat.min_eq_right (by left),List.drop_eq_nil_of_le (i8 _),List.drop_eq_nil_of_le (show xs.length<=k by left),List.take_nil]
section
variable {n:Int}{ts:List Tie}{ks:List Nat}
def ledB (o:Option Int)(h m:Int):Bool:=match o with | none=>false | some x=>decide (x<=h+m)
end
section
variable {own:List Str}{js:List Nat}{g:TG}{te:TE}{σ:L2.St}{Q:VK}{H1:Hp}
theorem xK {K:b8}{a:o7}{xs:List V}(hx:H1 a=some (.tup xs))(Sg:L2.St->Prop)(R:Nat->V->Hp->Prop)(hn:xs.length<=1000)(h0:Sg ‹93›)(mono:∀ i v H H',TupKeep H H'->R i v H->R i v H')
  (step:∀ i x T σ' H',xs[i]?=some x->Same H1 H'->H' T=none->Sg σ'->∀ C:L2.St->V->Hp->Prop,(∀ σ3 v H5,Sg σ3->Same H' H5->R i v H5->C σ3 v H5)->g (.ref T) σ' (upd H' T (.tup [.int (i:Nat),x])) λ σ3 H3=>te σ3 H3 λ v H5=>C σ3 v H5)
  (fin:∀ D ys H',H1 D=none->Same H1 H'->H' D=some (.lst ys)->ys.length=xs.length->(∀ i v,ys[i]?=some v->R i v H')->Q (.ref D) H'):CompGo own js g tTrue te σ Q (Itn true K a) H1:=by
 let q:∀ H',Same H1 H'->SqX true K H' a xs:=λ H' s=>SqX.of (t:=true) (s _ _ hx);exact fK xs.length Sg R hn h0 mono (λ i H' hi s=>⟨xs,xs[i],q H' s,by simp [hi]⟩) (λ H' s=>⟨xs,q H' s,i8 _⟩) (λ i x σ' H' H2 hi s O z C U=>?_) fin;obtain⟨T,y,F,rfl,rfl,e⟩:=O;exact step i y T σ' H' (e _ (q H' s)) s F z C U
end
noncomputable def dG (ts:List Tie)(u v:Nat):Option Int:=Classical.epsilon λ o=>Far.Dst (arcs ts ‹39›) u v o
section
variable {n:Int}{ts:List Tie}
theorem eE (ok:WebOk n ts)(u v:Nat):Far.Dst (arcs ts ‹39›) u v (dG ts u v) :=
 Classical.epsilon_spec (p:=λ o=>Far.Dst (arcs ts ‹39›) u v o) (Far.xH (hJ ok (bX ts)) u v)
theorem zes (ok:WebOk n ts){u v:Nat}{o:Option Int}(d:Far.Dst (arcs ts ‹39›) u v o):o=dG ts u v:=d.unique (eE ok u v)
theorem zc8 (ok:WebOk n ts)(u:Nat):dG ts u u=some 0:=(eE ok u u).unique ⟨λ y e=>by cases e;exact Far.Walk.nil,λ L q=>⟨0,rfl,q.nonneg (hJ ok (bX ts))⟩⟩
noncomputable def dGL (n:Int)(ts:List Tie)(u:Nat):List (Option Int):=(d8 n.toNat).map (dG ts u)
theorem kF (n:Int)(ts:List Tie)(u:Nat):(dGL n ts u).length=n.toNat:=by unfold dGL;rw[c9,uaa]
theorem kL {u v:Nat}(hv:v<n.toNat):(dGL n ts u)[v]?=some (dG ts u v):=by unfold dGL;rw[j0,udb hv];rfl
theorem zc9 {u v:Nat}(hv:v<n.toNat):Far.get (dGL n ts u) v=dG ts u v:=by unfold Far.get;rw[c8,kL hv];rfl
theorem zei (ok:WebOk n ts){u:Nat}{DD:List (Option Int)}(lD:DD.length=n.toNat)(hD:∀ v,v<n.toNat->Far.Dst (arcs ts ‹39›) u v (Far.get DD v)):DD=dGL n ts u:=by
 exact ucd λ v=>?_;by_cases q:v<n.toNat
 ·have e:=zes ok (hD v q);unfold Far.get at e;rw[c8,d7 (by left)] at e;rw[d7 (by left),kL q,← e];rfl
 ·rw[uag (by left),uag (by rw[kF];left)]
theorem zeh (ok:WebOk n ts){u v:Nat}{x:Int}(hu:u<n.toNat)(e:dG ts u v=some x):x<=10^20:=by
 let q:=bX ts;let O:=ok.n24;let d:=eE ok u v;rw[e] at d;let t:=d.top (n:=n.toNat) (hJ ok q) (by left) hu (λ a b l m=>kG ok q a b l m) (λ a b l m=>by
  obtain⟨k,U,F⟩:=arcs_mem.mp m;let tk:=ok.tie _ (bN (q.2 k U)).2;rcases arcs2_mem.mp F with z | z <;> (cases z;exact tk.2.2.2.2))
 left
noncomputable def htP (n:Int)(ts:List Tie)(u:Nat):List Int:=(dGL n ts u).map (capO (10^20))
theorem qB (n:Int)(ts:List Tie)(u:Nat):(htP n ts u).length=n.toNat:=by unfold htP;rw[c9,kF]
theorem zeb {u v:Nat}(hv:v<n.toNat):(htP n ts u)[v]?=some (capO (10^20) (dG ts u v)):=by unfold htP;rw[j0,kL hv];rfl
def hN (hs:List Int)(v:Nat):Int:=hs.getD v 0
theorem qV {u v:Nat}(hv:v<n.toNat):hN (htP n ts u) v=capO (10^20) (dG ts u v):=by unfold hN;rw[c8,zeb hv];rfl
end
end L3
namespace Srt
open PySem PyProof.Rows
section
variable {prog:o9}{w:uaw}{A:uax}{E:i5->i6->Prop}{s:i6}{a:o7}
theorem zM {Q:Bool->i6->Prop}(hT:s.TypeIs (.ref a) "dict")(h:Q false s):j7 (v4 prog w) A (Builtin.List.listLengthHint (.ref a)) Q E s:=by
 unfold Builtin.List.listLengthHint;exact a7 (uel hT PySem.F.slot_dict_len.lookup ?_);generalize q:("dict.__len__":String)=O
 wp_delta
 rw[show splitId O=some ("dict","__len__") from by subst q;decide +kernel];subst q;exact a7 (ub3 (T:="dict") (b:=true) hT (by rw[ud7];kernel_rfl) (u4 ‹40› λ _=>?_));exact u4 (λ _=>a7 (ucx hT (c7 h))) (λ z=>absurd (by symm) z)
theorem vF {κ:Type}[DecidableEq κ]{knd:KeyKind prog w κ}{kvs:List (κ × i5)}{ep:Nat}{Q:List i5->i6->Prop}(hh:A.handled=none)(hs:(a==sysModules)=false)(hd:Heap.DictAt knd s.heap a kvs ep)(hn:kvs.length<=p8)(hT:s.TypeIs (.ref a) "dict")
  (hQ:∀ (h':Heap)(tk:Nat)(acc:Array i5),(∀ b o,s.heap.get? b=some o->h'.get? b=some o)->ItemsOf (λ i v=>∃ k x,kvs[i]?=some (k,x)/\knd.is k v=true) acc kvs.length->Q acc.toList { s with heap:=h',toks:=tk }) :
  j7 (v4 prog w) A (collect (.ref a)) Q E s:=by
 unfold collect;exact a7 (ueu (ubp ueq ?_));rw[Around.under_plainId uep _];show j7 _ A.in1 (newList [] >>= λ l=>again (.builtin "list.__iadd__" ⟨[l,.ref a],[]⟩)) _ _ s;exact a7 (uac ?_);exact c7 ⟨udh ucp _,ubp ufj ?_⟩;rw[Around.under_plainId ucp _];show j7 _ A.in1 (Builtin.List.listExtendWith ‹32› (.ref a) ‹32›) _ _ _;let F:a<‹128›:=hd.lt_size;obtain⟨o,ho,oc⟩:=id hT;let hS:‹30›.get? ‹128›=some { cls:=.type "list",data:=.seq #[] }:=i9 _ rfl;let O:‹30›.objs.size=‹128›+1:=uan ..;unfold Builtin.List.listExtendWith;let tS:Shared.TypeIs { s with heap:=s.heap.push { cls:=.type "list",data:=.seq ([]:List i5).toArray } } (.ref a) "dict":=⟨o,a9 _ ho,oc⟩;exact a7 (ucx (T:="dict") tS ?_);let h1:Builtin.List.listSameRef ‹32› (.ref a)=false:=by simp only [Builtin.List.listSameRef,beq_eq_false_iff_ne];exact ub9 F
 let h2:(Value.type "dict"==Value.type "list")=false:=by decide
 let h3:(Value.type "dict"==Value.type "tuple")=false:=by decide
 simp only [h1,h2,h3,uhy,ubm,if_false];exact a7 (wpAny_pyIter_dict hs (hd.push _) ?_);let ac:∀ q:Obj,Shared.TypeIs { s with heap:=‹30›.push q } (.ref a) "dict":=λ q=>⟨o,a9 _ (a9 _ ho),oc⟩;exact a7 (uak (zM (ac _) ?_));exact u4 (λ _=>?_) (λ z=>absurd (by decide) z);exact a7 (uca ?_);exact a7 ?_;show j7 _ _ (updateSeq ‹128› (·.push .none) >>= λ _=>updateSeq ‹128› (·.pop)) _ _ _;let g1:∀ q:Obj,(‹30›.push q).get? ‹128›=some { cls:=.type "list",data:=.seq #[] }:=λ q=>a9 _ hS;exact a7 (uc2 (g1 _) rfl ?_);let g2:=λ q=>ua7 ‹71› (g1 q) rfl;exact uc2 (hz:=by seq_fits) (g2 _) rfl ?_;let g3:=λ q=>ua7 (Obj.mapSeq (·.pop)) (g2 q) rfl;let aI:a≠‹30›.objs.size:=by rw[O];exact k8 (ubf F)
 let W:=Walks.dictKeys (prog:=prog) (w:=w) (knd:=knd) (A:=A.in1) hh _ a aI kvs ep;let U:‹128›∉[‹30›.objs.size,a]:=by
  rw[O];simp only [j4,l7,or_false,not_or];exact⟨k8 (ucq _),ub9 F⟩
 generalize hq:({ cls:=.type "dict_keyiterator",data:=.fields #[.ref a,.int 0 0,.int (kvs.length:Nat) 0,.int (ep:Nat) 0] }:Obj)=q;let kU:∀ b o,b≠‹128›->(‹30›.push q).get? b=some o->(((‹30›.push q).update ‹128› ‹71›).update ‹128› (Obj.mapSeq (·.pop))).get? b=some o:=λ b o hb e =>
  (uap _ _ (Ne.symm hb)).trans ((uap _ _ (Ne.symm hb)).trans e)
 let ad:((‹30›.push q).IsKeyIter ‹30›.objs.size a 0 kvs.length ep)/\Heap.DictAt knd (‹30›.push q) a kvs ep:=by
  subst hq;exact⟨⟨_,i9 _ rfl,M⟩,(hd.push _).push _⟩
 let ae:=W.frame 0 _ _ ad λ b hb o e=>kU b o (λ z=>U (z ▸ hb)) e;exact c7 ⟨udh ug9 _,codeAny_extend_loopS W.toS hn ‹128› U _ kvs.length 0 _ #[] _ rfl (uae _) ae (g3 q) (ItemsOf.nil _) λ s' aa c' hm af ab=>?_⟩;rw[Moved.eq_with hm];exact a7 (wpAny_load af (c7 ?_));exact hQ _ _ aa (λ b o e=>hm.heap b o ?_ (kU b o (k8 (j5 e)) (a9 _ (a9 _ e)))) ab;simp only [j4,l7,or_false,not_or];let:=j5 e;exact⟨k8 this,k8 (by rw[O];exact ubf this)⟩
end
end Srt
namespace L3
open PySem PySem.Spec PyProof.Rows L2
section
variable {X:Cx}
inductive call_sortedD_i  (xs:List V) (H:Hp) (Q:VK):Prop
 | mk:∀ (p:o7)(kvs:List (Key × V))(ks:List Int),(xs=[.ref p])->(H p=some (.dK kvs))->(kvs.map (·.1)=ks.map Sum.inl)->(ks.length<64)->(∀ ms:List Int,ms.Perm ks->ms.Pairwise (·<=·)->∀ l H',Same H H'->H l=none->H' l=some (.lst (ms.map V.int))->Q (.ref l) H')->call_sortedD_i xs H Q
theorem vI (hh:X.calm=true):CallR X (.builtin "sorted") (call_sortedD_i):=by
 intro pins s σ H xs us Q I r h;obtain⟨p,kvs,ks,rfl,hp,F,ad,q⟩:=h;obtain⟨u,rfl,rx⟩:=vals1 r;cases rx;obtain⟨hz,af,vs,ab,dd⟩:=rQ I.hok hp;obtain⟨ep,da⟩:=dd.dictAt;let hT:s.TypeIs (.ref p) "dict":=lQ (y:=kV (.inl 0)) I (DGet.k hp);let ac:vs.length=ks.length:=by
  have:=congrArg List.length F;rw[c9,c9] at this;rw[← ab.length,this]
 have ae:vs.length<=p8:=by rw[← ab.length];exact hz
 let aa:∀ i k x,vs[i]?=some (k,x)->∀ v,(mixKind X.prog X.w).is k v=true->∃ t,v=.int (ks.getD i 0) t:=λ i k x e v hv=>by
  let e2:(vs.map (·.1))[i]?=some k:=by rw[j0,e];rfl
  rw[← ab.keys,F,j0] at e2;cases e3:ks[i]? with
  | none=>rw[e3] at e2;cases e2
  | some m =>
   rw[e3] at e2;cases e2;rw[c8,e3];rcases cX (by rw[xB] at hv;exact hv) with ⟨i,t,e4,e5⟩ | ⟨x,t,e4,e5⟩
   ·cases e4;exact⟨t,e5⟩
   ·cases e4
 exact Srt.lK (Good:=λ its s1=>∃ (h1:Heap)(tk:Nat),s1={ s with heap:=h1,toks:=tk }/\(∀ b o,s.heap.get? b=some o->h1.get? b=some o)/\IntsAre its ks)
  (λ A' E' Q' eh hQ=>Srt.vF (eh.trans (I.ok.hd hh)) af da ae hT λ h1 tk ah hk U=>hQ _ _ ⟨h1,tk,rfl,hk,?_⟩) λ its s1 g=>?_
 ·let la:ah.toList.length=ks.length:=by rw[r8,U.1,ac]
  let go:∀ (l:List i5)(ks:List Int),l.length=ks.length->(∀ (i:Nat)(v:i5),l[i]?=some v->∃ t,v=Value.int (ks.getD i 0) t)->IntsAre l ks:=by
   intro l;induction l with
   | nil =>
    intro ks hl _;cases ks with
    | nil=>exact .nil
    | cons _ _=>cases hl
   | cons x r ih =>
    intro ks hl hv;cases ks with
    | nil=>cases hl
    | cons m ks =>
     obtain⟨t,ht⟩:=hv 0 x rfl;subst ht;exact .cons m t (ih ks (by simpa using hl) λ i v e=>hv (i+1) v (by simpa using e))
  exact go _ _ la λ i v e=>?_;obtain⟨k,x,e1,e2⟩:=U.2 i v (by simpa using e);exact aa i k x e1 v e2
 obtain⟨gg,tk,rfl,kg,hI⟩:=g;let hl:its.length=ks.length:=by
  clear aa F ac ad q;induction hI with
  | nil=>rfl
  | cons n t _ ih=>simp [ih]
 refine⟨λ i=>ks.getD i 0,oneType',by left,λ h2 A' s' Q' q'=>Srt.jQ hI h2 q',λ A' s' i j C hi hj q'=>Srt.kC hI hi hj q',λ O h' c g u kp e=>?_⟩;have g':Srt.Gd ks.length O:=by rw[← hl];exact g
 have u':Srt.Up (λ i=>ks.getD i 0) O ks.length:=by rw[← hl];exact u
 let pm:(O.toList.map λ i=>ks.getD i 0).Perm ks:=by
  let:=iD g' λ i=>ks.getD i 0;rw[cT] at this;exact this
 let pw:(O.toList.map λ i=>ks.getD i 0).Pairwise (·<=·):=by
  rw[ua1];exact hW g' u' λ i j _ _ z=>z
 let I1:Inv X pins σ H { s with heap:=gg,toks:=tk }:=I.kept (t':=tk) kg;let fr:H gg.objs.size=none:=I1.hok.fresh (i8 _);let ev:((O.toList.map λ i=>ks.getD i 0).map V.int)=O.toList.map λ i=>(ks.map V.int).getD i .non:=by
  rw[ua0];exact ua2 λ i hi=>?_;let:=dP g' i hi;simp [ub2,this]
 let rv:Vals (ks.map V.int) its:=by
  clear aa F ac ad q g' u' pm pw ev hl g u e kp;induction hI with
  | nil=>exact .nil
  | cons n t _ ih=>exact .cons ⟨t,rfl⟩ ih
 exact⟨.ref gg.objs.size,_,I1.laid (a:=gg.objs.size) (o:=.lst ((O.toList.map λ i=>ks.getD i 0).map V.int)) (t':=tk) kp (i8 _) ⟨?_,Srt.outOf its O,c,?_,e⟩,rfl,q _ pm pw _ _ (aU fr) fr aM⟩
 ·let:=pm.length_eq;let ai:(64:Nat)<=p8:=by rw[ubn];decide
  rw[c9,this];left
 ·rw[ev];exact fF rv O.toList λ i hi=>by rw[c9];exact dP g' i hi
end
theorem brJ {α:Sort _}{A T:α->Prop}{B:Prop}(main:(∀ x,A x->T x)->B)(tail:∀ x,A x->T x):B:=main tail
section
variable {n:Int}{ts:List Tie}
noncomputable def wyN (ts:List Tie)(a b:Nat):Option (List Nat):=@dite _ (∃ ws,Far.MinW (arcsB ts ‹39›) a b ws) ‹97› (λ h=>some (Classical.choose h)) (λ _=>none)
theorem nU (ok:WebOk n ts){a b:Nat}{ws:List Nat}(h:Far.MinW (arcsB ts ‹39›) a b ws):wyN ts a b=some ws:=by
 let ex:∃ ws,Far.MinW (arcsB ts ‹39›) a b ws:=⟨ws,h⟩;unfold wyN;rw[dif_pos ex];exact congrArg some (h.unique (eW ok (bX ts)) (Classical.choose_spec ex))
theorem nV {a b:Nat}(d:Far.Dst (arcs ts ‹39›) a b none):wyN ts a b=none:=by
 unfold wyN;exact dif_neg λ ⟨ws,S,x,y,r,_⟩=>?_;let w:=r.walk;rw[cM] at w;obtain⟨z,e,_⟩:=d.2 _ w;cases e
def WyV (H:Hp)(ts:List Tie)(o:Option (List Nat))(v:V):Prop:=(o=none/\v=.non)\/∃ t ws,o=some ws/\v=.ref t/\H t=some (.tup (natV ws))/\ws.length<=24/\linked ts ws
theorem WyV.tk {H H':Hp}{o:Option (List Nat)}{v:V}(k:TupKeep H H')(h:WyV H ts o v):WyV H' ts o v:=by
 rcases h with h | ⟨t,ws,e,q,e2,z⟩
 ·exact .inl h
 ·exact .inr ⟨t,ws,e,q,k _ _ e2,z⟩
theorem WyV.same {H H':Hp}{o:Option (List Nat)}{v:V}(k:Same H H')(h:WyV H ts o v):WyV H' ts o v:=h.tk λ _ _ e=>k _ _ e
theorem zek (ok:WebOk n ts){H:Hp}{a b:Nat}{v:V}(h:WayM H ts ‹39› a b v):WyV H ts (wyN ts a b) v:=by
 rcases h with ⟨rfl,d⟩ | ⟨t,ws,x,rfl,e,l,m,tr,d⟩
 ·exact .inl ⟨nV d,rfl⟩
 ·exact .inr ⟨t,ws,nU ok m,rfl,e,l,(gA ok (bX ts) tr).2⟩
def wyD:Option (List Nat)->ubo
 | none=>.none
 | some ws=>tupH (keepI ws)
def awN (ts:List Tie):Option (List Nat)->List Nat
 | none=>[]
 | some ws=>alongN ts ws
def twK (ts:List Tie)(os:List (Option (List Nat))):List Nat:=‹39›.filter λ k=>(os.flatMap (awN ts)).contains k
theorem dB (ts:List Tie)(os:List (Option (List Nat))):KeepOk ts.length (twK ts os):=⟨List.Pairwise.filter _ ubw,λ k q=>m8.mp (uct.mp q).1⟩
theorem jU {os:List (Option (List Nat))}(h:∀ k∈os.flatMap (awN ts),k<ts.length)(k:Nat):k∈twK ts os↔k∈os.flatMap (awN ts):=by
 unfold twK;rw[uct,m8,uf6];exact⟨λ z=>z.2,λ z=>⟨h k z,z⟩⟩
theorem kS {H:Hp}{o:Option (List Nat)}{v:V}(h:WyV H ts o v):(∀ k∈awN ts o,k<ts.length)/\(awN ts o).length<=23:=by
 rcases h with ⟨rfl,rfl⟩ | ⟨t,ws,rfl,rfl,e2,l,q⟩
 ·exact⟨λ k z=>(by cases z),uae _⟩
 ·exact⟨hV q,?_⟩;show (alongN ts ws).length<=23;unfold alongN;rw[c9,uaa];left
theorem oW {α:Type}{f:α->List Nat}{m:Nat}:∀ (l:List α),(∀ x∈l,(f x).length<=m)->(l.flatMap f).length<=l.length*m
 | [],_=>uae _
 | x::l,h=>by
  let h1:=h x l9;let h2:=oW l λ y q=>h y (j8 _ q);rw[List.flatMap_cons,i7,uas,Nat.add_mul,Nat.one_mul];left
def prD (p:Nat × Nat):ubo:=tupH [(p.1:Int),(p.2:Int)]
theorem gB {K:b8}{H:Hp}{prs:List (Nat × Nat)}{ps:List V}(h:IsAll K H (prs.map prD) ps){i:Nat}{x:V}(e:ps[i]?=some x):∃ (pr:Nat × Nat)(t:o7),prs[i]?=some pr/\x=.ref t/\H t=some (.tup [.int (pr.1:Int),.int (pr.2:Int)]):=by
 obtain⟨d,F,O⟩:=IsAll.from_ h e;rw[j0] at F;obtain⟨pr,z,rfl⟩:=r6.mp F;obtain⟨t,vs,rfl,U,q⟩:=O;let:=IsAll.of_ints (ns:=[(pr.1:Int),(pr.2:Int)]) q;subst this;exact⟨pr,t,z,rfl,U⟩
theorem yM {κ:Type}[DecidableEq κ](kvs:List (κ × V))(k:κ)(v:V):(putK kvs k v).map (·.1)=if k∈kvs.map (·.1) then kvs.map (·.1) else kvs.map (·.1)++[k]:=by
 unfold putK;by_cases h:(kvs.any λ z=>decide (z.1=k))=true
 ·let m:k∈kvs.map (·.1):=by
   obtain⟨x,q,e⟩:=ucn.mp h;exact w8.mpr ⟨x,q,uh0 e⟩
  rw[uh2 h,uh2 m,ua0];exact ua2 λ x _=>?_;show (if x.1=k then (x.1,v) else x).1=x.1;split <;> rfl
 ·let m:¬ k∈kvs.map (·.1):=λ m=>by
   obtain⟨x,q,e⟩:=w8.mp m;exact h (ucn.mpr ⟨x,q,uhz e⟩)
  rw[uh3 h,uh3 m,uaq];rfl
end
theorem nB {n:Int}{ts:List Tie}(ok:WebOk n ts){k:Nat}(hk:k<ts.length):isTB ts (tieAt ts k).1.toNat (tieAt ts k).2.1.toNat k=true:=by
 let tk:=ok.tie _ (bN hk).2;unfold isTB;rw[uhz (show (tieAt ts k).1=min (((tieAt ts k).1.toNat:Nat):Int) ((tieAt ts k).2.1.toNat:Nat) by left),uhz (show (tieAt ts k).2.1=max (((tieAt ts k).1.toNat:Nat):Int) ((tieAt ts k).2.1.toNat:Nat) by left)];rfl
theorem zbi {n:Int}{ts:List Tie}(ok:WebOk n ts){j k:Nat}(hj:j<ts.length)(hk:k<ts.length)(h1:(tieAt ts j).1=(tieAt ts k).1)(h2:(tieAt ts j).2.1=(tieAt ts k).2.1):j=k:=by
 exact zdm ok hj hk (nB ok hj) ?_;let:=nB ok hk;rw[h1,h2];exact this
theorem vW {ms:List Int}{ks xs:List Nat}(pm:ms.Perm (keepI ks))(nd:ks.Nodup)(pw:ms.Pairwise (·<=·))(rk:xs.Pairwise (·<·))(h:∀ k,k∈xs↔k∈ks):ms.map V.int=natV xs:=by
 let F:∀ x∈ms,0<=x:=λ x q=>by
  obtain⟨c,_,rfl⟩:=w8.mp (pm.mem_iff.mp q);exact ua3 c
 let z:ms.Nodup:=by
  exact pm.symm.nodup ?_;unfold keepI;rw[uau,ua1];exact nd.imp λ a b=>a (by left)
 rw[jP F];congr 1;let lt:ms.Pairwise (·<·):=(pw.and z).imp λ ⟨a,b⟩=>by left
 exact jK ?_ rk λ k=>?_
 ·rw[ua1];exact ucb ?_ lt;intro a b U hb ab;let:=F a U;left
 ·rw[h k,w8];constructor
  ·rintro ⟨x,q,rfl⟩;obtain⟨c,O,rfl⟩:=w8.mp (pm.mem_iff.mp q);rw[uav];exact O
  ·intro hk;exact⟨(k:Int),pm.mem_iff.mpr (w8.mpr ⟨k,hk,rfl⟩),uav k⟩
theorem zae (ts:List Tie)(ws:List Nat):(alongN ts ws).length=ws.length-1:=by unfold alongN;rw[c9,uaa]
theorem zbu {ts:List Tie}{ws:List Nat}{i u v k:Nat}(hu:ws[i]?=some u)(hv:ws[i+1]?=some v)(e:tbN ts u v=some k):(alongN ts ws)[i]?=some k:=by
 let hi:=(j9.mp hv).1;unfold alongN;rw[j0,udb (by left)];show some (‹63›.getD 0)=some k;rw[c8,hu,c8,hv];show some ((tbN ts u v).getD 0)=some k;rw[e];rfl
theorem zbm (ws:List Nat):cutV (natV ws) (some 1) none=natV (ws.drop 1):=by
 unfold cutV;let h1:HT.sIx (natV ws).length (natV ws).length none=(natV ws).length:=rfl;rw[h1];by_cases z:ws=[]
 ·subst z;rfl
 ·let pos:=ucc.mpr z;let q:(natV ws).length=ws.length:=by unfold natV;rw[c9]
  let F:HT.sIx (natV ws).length 0 (some 1)=1:=by
   unfold HT.sIx;simp;left
  rw[F,ube (by rw[m9];exact i8 _)];unfold natV;rw[udq]
def shN:Option (List Nat)->Option (List Nat)->List Nat
 | some a,some b=>a.filter λ p=>b.contains p
 | _,_=>[]
def blkL (sh:List Nat)(i j:Nat):List (List Int):=(sh.take 1++sh.reverse.take 1).map λ p:Nat=>[(i:Int),(j:Int),(p:Int)]
def blk (os:List (Option (List Nat)))(i j:Nat):List (List Int):=blkL (shN (os.getD i none) (os.getD j none)) i j
abbrev TT (H:Hp)(ys:List V)(ks:List (List Int)):Prop:=Paired (λ (y:V) (k:List Int)=>∃ a,y=.ref a/\H a=some (.tup (k.map V.int))) ys ks
def SrK (ks:List (List Int)):Prop:=ks.Pairwise λ a b=>Srt.lexI b a=false
def OpV (H:Hp)(o:Option (List Nat))(v:V):Prop:=(o=none/\v=.non)\/∃ t ws,o=some ws/\v=.ref t/\H t=some (.tup (natV ws))/\ws.length<=24
def OpsV (H:Hp)(os:List (Option (List Nat)))(ys:List V):Prop:=ys.length=os.length/\∀ (i:Nat)(o:Option (List Nat))(v:V),os[i]?=some o->ys[i]?=some v->OpV H o v
def AdjW (W:List Nat)(x y:Nat):Prop:=∃ p q,W=p++x::y::q\/W=p++y::x::q
def allIn (ts:List Tie)(ks:List Nat)(t:Int):Prop:=∀ k,k∈outs ts.length ks->withinB t (tieAt ts k).2.2 (gO ts ks k)=true
section
variable {n:Int}{ts:List Tie}{ks:List Nat}{prs:List (Option Int × Int)}
end
end L3
namespace Z3
open PySem
abbrev IsZ (h:Heap)(z TI TO:o7)(f0 f1:i5):Prop :=
 h.get? z=some { cls:=.type "zip",dict:=none,data:=.fields #[f0,f1,.bool false,.ref TI,.ref TO],slots:=#[] }
def F0 (f0:i5):Prop:=f0=.none\/∃ T:Nat,f0=rawInt (T:Nat)
section
variable {prog:o9}{w:uaw}{A:uax}{E:i5->i6->Prop}{s:i6}
theorem xE {a:o7}{Q:Option Obj->i6->Prop}(h:Q (s.heap.get? a) s):j7 (v4 prog w) A (loadIfAlive a) Q E s:=λ Γ p _=>by
 unfold loadIfAlive;rw[Sem.wp_loadIfAlive];exact h
theorem qX {z TI TO:o7}{f0 f1:i5}{Q:Bool->i6->Prop}(hz:IsZ s.heap z TI TO f0 f1)(hf:F0 f0)(ht:Q true s)(hn:∀ h' f1',IsZ h' z TI TO f0 f1'->Heap.SameBut z s.heap h'->Q false { s with heap:=h' }) :
  j7 (v4 prog w) A (Builtin.SmallTypes.ownedTupleIsFree (.ref z)) Q E s:=by
 unfold Builtin.SmallTypes.ownedTupleIsFree;rcases hf with rfl | ⟨T,rfl⟩
 ·exact a7 (v7 hz rfl (x:=.none) rfl (c7 ht))
 ·exact a7 (v7 hz rfl (x:=rawInt (T:Nat)) rfl ?_);show j7 _ _ (loadIfAlive ((T:Int)).toNat >>= _) _ _ _;exact a7 (xE ?_);cases e:s.heap.get? (T:Int).toNat with
  | none=>exact c7 ht
  | some o =>
   show j7 _ _ (field (.ref z) 1 >>= _) _ _ _;exact a7 (v7 hz rfl (x:=f1) rfl ?_);by_cases c:(f1 != .bool true)=true
   ·rw[uh2 c];exact a7 (x9 hz (by simp) λ h' q F=>?_);exact c7 (hn h' _ q F)
   ·rw[uh3 c];exact c7 (hn s.heap f1 hz (ubq _ _))
structure Zn (t1 t2:Bool)(h:Heap)(z TI TO i1 i2 l1 l2:o7)(k:Nat):Prop where
 z:∃ f0 f1,F0 f0/\IsZ h z TI TO f0 f1
 ti:IsPair h TI (.ref i1) (.ref i2)
 to:∃ a b,IsPair h TO a b
 a1:ItAt t1 h i1 l1 k
 a2:ItAt t2 h i2 l2 k
theorem xX {t1 t2:Bool}{z TI TO i1 i2 l1 l2:o7}{k:Nat}{xs ys:Array i5}{x y:i5}{Q:i5->i6->Prop}(D:Ap z TI TO i1 i2)(o1:Out z TI TO i1 i2 l1)(o2:Out z TI TO i1 i2 l2)
  (Z:Zn t1 t2 s.heap z TI TO i1 i2 l1 l2 k) (hl1:SqAt t1 s.heap l1 xs) (hl2:SqAt t2 s.heap l2 ys) (hx:xs[k]?=some x) (hy:ys[k]?=some y)
  (hQ:∀ h',Zn t1 t2 h' z TI TO i1 i2 l1 l2 (k+1)->IsPair h' ‹128› x y->h'.objs.size=‹128›+1 ->
   (∀ c o,c≠z->c≠TO->c≠i1->c≠i2->s.heap.get? c=some o->h'.get? c=some o)->Q ‹32› { s with heap:=h' }) :
  j7 (v4 prog w) A ‹60› (λ fin s'=>∃ v,fin=.done (.ret v)/\Q v s') E s:=by
 obtain⟨⟨f0,f1,hf,hz⟩,aa,⟨a,b,ab⟩,h1,h2⟩:=Z;show j7 _ _ (field (.ref z) 2 >>= _) _ _ s;exact a7 (v7 hz rfl (x:=.bool false) rfl ?_);show j7 _ _ (field (.ref z) 3 >>= _) _ _ s;exact a7 (v7 hz rfl (x:=.ref TI) rfl ?_);exact a7 (uay aa rfl ?_);show j7 _ _ ‹48› _ _ s;exact a7 (qX hz hf ?_ λ g1 ah z1 F=>?_)
 ·simp only [if_true];exact a7 (uca ?_);exact a7 (v7 hz rfl (x:=.ref TO) rfl ?_);exact a7 (x9 hz (by simp) λ g1 z1 F=>?_);replace z1:IsZ g1 z TI TO .ellipsis f1:=z1;exact a7 ?_;simp only [ud0,ud9,ubr,ub6];exact a7 (a7 (ucl ?_));show j7 _ _ ‹41› _ _ { s with heap:=g1 };exact a7 (cZ ‹47› ‹46› hx λ g2 a2 e2=>c7 ?_);let b2:IsPair g2 TO a b:=e2.extBut _ _ D.n8 (F.extBut _ _ D.n2 ab);exact a7 (uay b2 rfl ?_);exact a7 (uc8 b2 λ g3 b3 U=>?_);replace b3:IsPair g3 TO x b:=b3;exact a7 (udg (c7 ?_));exact a7 (a7 (ucl ?_));show j7 _ _ ‹78› _ _ { s with heap:=g3 };exact a7 (cZ ‹65› ‹64› hy λ g4 a4 e4=>c7 ?_);let b4:IsPair g4 TO x b:=e4.extBut _ _ D.n9 b3;exact a7 (uay b4 rfl ?_);exact a7 (uc8 b4 λ q b5 e5=>?_);replace b5:IsPair q TO x y:=b5;exact a7 (udg (c7 (c7 ?_)));exact a7 (uay b5 rfl ?_);exact a7 (uev ?_);let sz:q.objs.size=‹128›:=by rw[e5.1,e4.1,U.1,e2.1,F.1]
  let z5:IsZ q z TI TO .ellipsis f1:=e5.extBut _ _ D.n2.symm (e4.extBut _ _ D.n4.symm (U.extBut _ _ D.n2.symm ‹108›));let k5:∀ c o,c≠z->c≠TO->c≠i1->c≠i2->s.heap.get? c=some o->q.get? c=some o:=λ c o c1 c2 c3 c4 e =>
   e5.extBut _ _ c2 (e4.extBut _ _ c4 (U.extBut _ _ c2 (e2.extBut _ _ c3 (F.extBut _ _ c1 e))))
  let ae:ItAt t1 q i1 l1 (k+1):=a2.to λ o e=>e5.extBut _ _ D.n8.symm (e4.extBut _ _ D.n10 (U.extBut _ _ D.n8.symm e));let af:ItAt t2 q i2 l2 (k+1):=a4.to λ o e=>e5.extBut _ _ D.n9.symm e;let ad:z<q.objs.size:=j5 z5;show j7 _ _ ‹83› _ _ { s with heap:=_ };exact a7 ?_;unfold Builtin.SmallTypes.ownedTupleHandOut;let z6:IsZ (q.push { cls:=.type "tuple",data:=.seq #[x,y] }) z TI TO .ellipsis f1:=a9 _ z5;exact a7 (x9 z6 (by simp) λ g7 z7 e7=>?_);replace z7:IsZ g7 z TI TO (rawInt q.objs.size) f1:=z7;exact x9 z7 (by simp) λ g8 z8 e8=>?_;replace z8:IsZ g8 z TI TO (rawInt q.objs.size) (.bool false):=z8;let O:∀ c o,c≠z->q.get? c=some o->g8.get? c=some o:=λ c o c1 e=>e8.extBut _ _ c1 (e7.extBut _ _ c1 (a9 _ e));let t8:IsPair g8 q.objs.size x y:=e8.extBut _ _ (ub9 ad) (e7.extBut _ _ (ub9 ad) (i9 _ rfl));let ac:g8.objs.size=q.objs.size+1:=by rw[e8.1,e7.1,uan]
  rw[sz] at z8 t8 ac;exact c7 ⟨A,?_⟩;show Q (.ref q.objs.size) { s with heap:=g8 };rw[sz];exact hQ g8 ⟨⟨P,.inr ⟨A⟩,z8⟩,O _ _ D.n1 (k5 _ _ D.n1 D.n5 D.n6 D.n7 aa),⟨x,y,O _ _ D.n2 b5⟩,ae.to λ o e=>O _ o D.n3 e,af.to λ o e=>O _ o D.n4 e⟩ t8 ac λ c o c1 c2 c3 c4 e=>O c o c1 (k5 c o c1 c2 c3 c4 e)
 ·simp only [ubm,if_false];exact a7 ?_;rw[List.forIn_toArray];simp only [ubr,ub6];exact a7 (a7 (uak ?_));show j7 _ _ ‹41› _ _ { s with heap:=g1 };exact a7 (cZ ‹47› ‹46› hx λ g2 a2 e2=>c7 ?_);exact c7 ?_;show j7 _ _ (((holding [x] (Builtin.SmallTypes.nextOf (.ref i2) >>= λ v=>pure (some v))) >>= _) >>= _) _ _ _;exact a7 (a7 (uak ?_));exact a7 (cZ (h2.to λ o e=>e2.extBut _ _ D.n10.symm (F.extBut _ _ D.n4 e)) (hl2.to λ o e=>e2.extBut _ _ o2.2.2.2.1 (F.extBut _ _ o2.1 e)) hy λ g3 a3 U=>c7 ?_);exact c7 (c7 ?_);show j7 _ _ (newTuple [x,y] >>= _) _ _ _;exact a7 (uev ?_);let sz:g3.objs.size=‹128›:=by rw[U.1,e2.1,F.1]
  have k3:∀ c o,c≠z->c≠i1->c≠i2->s.heap.get? c=some o->g3.get? c=some o:=λ c o c1 c3 c4 e=>U.extBut _ _ c4 (e2.extBut _ _ c3 (F.extBut _ _ c1 e));have z3:IsZ g3 z TI TO f0 ah:=U.extBut _ _ D.n4.symm ‹108›;have ai:ItAt t1 g3 i1 l1 (k+1):=a2.to λ o e=>U.extBut _ _ D.n10 e;refine c7 ⟨A,?_⟩;show Q (.ref g3.objs.size) { s with heap:=g3.push { cls:=.type "tuple",data:=.seq #[x,y] } };rw[sz];have O:∀ c o,g3.get? c=some o->(g3.push { cls:=.type "tuple",data:=.seq #[x,y] }).get? c=some o:=λ c o e=>a9 _ e;refine hQ _ ⟨⟨P,hf,O _ _ z3⟩,O _ _ (k3 _ _ D.n1 D.n6 D.n7 aa),⟨a,b,O _ _ (k3 _ _ D.n2 D.n8 D.n9 ab)⟩,ai.to λ o e=>O _ o e,a3.to λ o e=>O _ o e⟩ ?_ (by rw[uan,sz]) λ c o c1 c2 c3 c4 e=>O c o (k3 c o c1 c3 c4 e);rw[← sz];exact i9 _ rfl
theorem xW {t1 t2:Bool}{z TI TO i1 i2 l1 l2:o7}{k:Nat}{xs ys:Array i5}{Q:Fin->i6->Prop}(hh:A.handled=none)(D:Ap z TI TO i1 i2)(o1:Out z TI TO i1 i2 l1)(o2:Out z TI TO i1 i2 l2)
  (Z:Zn t1 t2 s.heap z TI TO i1 i2 l1 l2 k) (hl1:SqAt t1 s.heap l1 xs) (hl2:SqAt t2 s.heap l2 ys) (hend:xs[k]?=none\/ys[k]?=none)
  (hE:∀ h' e,(∀ c o,c≠z->c≠TO->c≠i1->c≠i2->s.heap.get? c=some o->h'.get? c=some o)->(∃ o,h'.get? e=some o/\o.cls=.type "StopIteration")->E (.ref e) { s with heap:=h' }) :
  j7 (v4 prog w) A ‹60› Q E s:=by
 obtain⟨⟨f0,f1,hf,hz⟩,ab,⟨a,b,aa⟩,h1,h2⟩:=Z;show j7 _ _ (field (.ref z) 2 >>= _) _ _ s;exact a7 (v7 hz rfl (x:=.bool false) rfl ?_);show j7 _ _ (field (.ref z) 3 >>= _) _ _ s;exact a7 (v7 hz rfl (x:=.ref TI) rfl ?_);exact a7 (uay ab rfl ?_);show j7 _ _ ‹48› _ _ s;exact a7 (qX hz hf ?_ λ g1 ac z1 F=>?_)
 ·simp only [if_true];exact a7 (uca ?_);exact a7 (v7 hz rfl (x:=.ref TO) rfl ?_);exact a7 (x9 hz (by simp) λ g1 z1 F=>?_);replace z1:IsZ g1 z TI TO .ellipsis f1:=z1;exact a7 ?_;simp only [ud0,ud9,ubr,ub6];exact a7 (a7 (ucl ?_));show j7 _ _ ‹41› _ _ { s with heap:=g1 };cases U:xs[k]? with
  | none =>
   exact a7 (dW hh ‹47› ‹46› U λ g2 e e2 he=>?_);obtain⟨oe,p1,p2⟩:=he;let z2:IsZ g2 z TI TO .ellipsis f1:=e2 _ _ D.n3.symm z1;let ez:e≠z:=λ q=>by subst q;rw[z2] at p1;cases p1;simp at p2
   exact x9 z2 (by simp) λ g3 _ e3=>hE g3 e (λ c o O _ c3 _ q=>e3.extBut _ _ O (e2 _ _ c3 (F.extBut _ _ O q))) ⟨oe,e3.extBut _ _ ez p1,p2⟩
  | some x =>
   let hy:ys[k]?=none:=by
    rcases hend with q | q
    ·rw[U] at q;cases q
    ·exact q
   exact a7 (cZ ‹47› ‹46› U λ g2 a2 e2=>c7 ?_);let b2:IsPair g2 TO a b:=e2.extBut _ _ D.n8 (F.extBut _ _ D.n2 aa);exact a7 (uay b2 rfl ?_);exact a7 (uc8 b2 λ g3 b3 e3=>?_);exact a7 (udg (c7 ?_));exact a7 (a7 (ucl ?_));show j7 _ _ ‹78› _ _ { s with heap:=g3 };exact a7 (dW hh (h2.to λ o e=>e3.extBut _ _ D.n9.symm (e2.extBut _ _ D.n10.symm (F.extBut _ _ D.n4 e))) (hl2.to λ o e=>e3.extBut _ _ o2.2.2.1 (e2.extBut _ _ o2.2.2.2.1 (F.extBut _ _ o2.1 e))) hy λ g4 e e4 he=>?_);obtain⟨oe,p1,p2⟩:=he;let z4:IsZ g4 z TI TO .ellipsis f1:=e4 _ _ D.n4.symm (e3.extBut _ _ D.n2.symm ‹108›);let ez:e≠z:=λ q=>by subst q;rw[z4] at p1;cases p1;simp at p2
   exact x9 z4 (by simp) λ g5 _ e5=>hE g5 e (λ c o O c2 c3 c4 q=>e5.extBut _ _ O (e4 _ _ c4 (e3.extBut _ _ c2 (e2.extBut _ _ c3 (F.extBut _ _ O q))))) ⟨oe,e5.extBut _ _ ez p1,p2⟩
 ·simp only [ubm,if_false];exact a7 ?_;rw[List.forIn_toArray];simp only [ubr,ub6];exact a7 (a7 (uak ?_));show j7 _ _ ‹41› _ _ { s with heap:=g1 };cases U:xs[k]? with
  | none =>
   exact a7 (dW hh ‹47› ‹46› U λ g2 e e2 he=>?_);exact hE g2 e (λ c o O _ c3 _ q=>e2 _ _ c3 (F.extBut _ _ O q)) he
  | some x =>
   let hy:ys[k]?=none:=by
    rcases hend with q | q
    ·rw[U] at q;cases q
    ·exact q
   exact a7 (cZ ‹47› ‹46› U λ g2 a2 e2=>c7 ?_);exact c7 ?_;show j7 _ _ (((holding [x] (Builtin.SmallTypes.nextOf (.ref i2) >>= λ v=>pure (some v))) >>= _) >>= _) _ _ _;exact a7 (a7 (uak ?_));exact a7 (dW hh (h2.to λ o e=>e2.extBut _ _ D.n10.symm (F.extBut _ _ D.n4 e)) (hl2.to λ o e=>e2.extBut _ _ o2.2.2.2.1 (F.extBut _ _ o2.1 e)) hy λ g4 e e4 he=>?_);exact hE g4 e (λ c o O c2 c3 c4 q=>e4 _ _ c4 (e2.extBut _ _ c3 (F.extBut _ _ O q))) he
theorem mF {t1 t2:Bool}{z TI TO i1 i2 l1 l2:o7}{k:Nat}{xs ys:Array i5}{x y:i5}{Q:Option i5->i6->Prop}(D:Ap z TI TO i1 i2)(o1:Out z TI TO i1 i2 l1)(o2:Out z TI TO i1 i2 l2)
  (Z:Zn t1 t2 s.heap z TI TO i1 i2 l1 l2 k) (hl1:SqAt t1 s.heap l1 xs) (hl2:SqAt t2 s.heap l2 ys) (hx:xs[k]?=some x) (hy:ys[k]?=some y)
  (hQ:∀ h',Zn t1 t2 h' z TI TO i1 i2 l1 l2 (k+1)->IsPair h' ‹128› x y->h'.objs.size=‹128›+1 ->
   (∀ c o,c≠z->c≠TO->c≠i1->c≠i2->s.heap.get? c=some o->h'.get? c=some o)->Q (some ‹32›) { s with heap:=h' }) :
  j7 (v4 prog w) A (pyNext (.ref z)) Q E s:=by
 let q:s.TypeIs (.ref z) "zip":=by obtain⟨f0,f1,_,hz⟩:=Z.z;exact⟨_,hz,rfl⟩
 unfold pyNext;exact a7 (ucm (v9 (name := uai "__next__") q ubt (uaf ubt q ud6
     (xX D o1 o2 Z hl1 hl2 hx hy λ h' O U b3 F=>c7 (hQ h' O U b3 F)) (udu _))))
theorem mE {t1 t2:Bool}{z TI TO i1 i2 l1 l2:o7}{k:Nat}{xs ys:Array i5}{Q:Option i5->i6->Prop}(hh:A.handled=none)(D:Ap z TI TO i1 i2)(o1:Out z TI TO i1 i2 l1)(o2:Out z TI TO i1 i2 l2)
  (Z:Zn t1 t2 s.heap z TI TO i1 i2 l1 l2 k) (hl1:SqAt t1 s.heap l1 xs) (hl2:SqAt t2 s.heap l2 ys) (hend:xs[k]?=none\/ys[k]?=none)
  (hQ:∀ h',(∀ c o,c≠z->c≠TO->c≠i1->c≠i2->s.heap.get? c=some o->h'.get? c=some o)->Q none { s with heap:=h' }):j7 (v4 prog w) A (pyNext (.ref z)) Q E s:=by
 let q:s.TypeIs (.ref z) "zip":=by obtain⟨f0,f1,_,hz⟩:=Z.z;exact⟨_,hz,rfl⟩
 unfold pyNext;exact a7 (ucm (v9 (name := uai "__next__") q ubt (uaf ubt q ud6
     (xW hh D o1 o2 Z hl1 hl2 hend λ h' e O F=>?_) (udu _))))
 obtain⟨o,U,p2⟩:=F;exact a7 ‹91›
end
end Z3
namespace L3
open PySem PySem.Spec PyProof.Rows L2
theorem yA {P:o9}{w:uaw}{K:b8}{nm:Str}{pos:Pos}{t1 t2:Bool}{z TI TO i1 i2 l1 l2:o7}(D:Z3.Ap z TI TO i1 i2)(o1:Z3.Out z TI TO i1 i2 l1)(o2:Z3.Out z TI TO i1 i2 l2) :
  L2.Turn P w K (.Name nm pos) (Itz t1 t2 K l1 l2) [z,TI,TO,i1,i2] z (λ i h=>Z3.Zn t1 t2 h z TI TO i1 i2 l1 l2 i) where
 mem:=by simp
 obj:=λ i h st b O=>by
  obtain⟨⟨_,_,_,q1⟩,U,⟨_,_,q3⟩,q4,q5⟩:=st;obtain⟨o4,n4,e4,_,d4⟩:=q4.obj;obtain⟨o5,n5,e5,_,d5⟩:=q5.obj;simp only [j4,l7,or_false] at O;rcases O with rfl | rfl | rfl | rfl | rfl
  ·exact⟨_,q1,λ v q=>by cases q⟩
  ·exact⟨_,U,λ v q=>by cases q⟩
  ·exact⟨_,q3,λ v q=>by cases q⟩
  ·exact⟨_,e4,λ v q=>by rw[d4] at q;cases q⟩
  ·exact⟨_,e5,λ v q=>by rw[d5] at q;cases q⟩
 keep:=λ i h h' st k=>by
  obtain⟨⟨f0,f1,hf,q1⟩,U,⟨a,b,q3⟩,q4,q5⟩:=st;exact⟨⟨f0,f1,hf,k z (by simp) _ q1⟩,k TI (by simp) _ U,⟨a,b,k TO (by simp) _ q3⟩,q4.to λ o e=>k i1 (by simp) o e,q5.to λ o e=>k i2 (by simp) o e⟩
 item:=by
  intro X hP hw hK hc i pins s σ H E I hf st hg;subst hP hw hK;obtain⟨xs,ys,x,y,q1,U,hx,hy⟩:=hg;obtain⟨ab,r1,p1,z1⟩:=seqX I q1;obtain⟨ac,r2,p2,z2⟩:=seqX I U;obtain⟨u1,ah,ae⟩:=r1.get hx;obtain⟨u2,aj,ai⟩:=r2.get hy;let aa:∀ b∈[z,TO,i1,i2],FpOk X pins H b:=λ b O=>hf b (by
   simp only [j4,l7,or_false] at O ⊢;rcases O with rfl | rfl | rfl | rfl <;> simp)
  exact Z3.mF D o1 o2 st p1 p2 (x:=u1) (y:=u2) (by simpa using ah) (by simpa using aj) λ h' zd tp sz kp=>?_;let I1 : Inv X pins σ (upd H ‹128› (.tup [x, y])) { s with heap := h', toks := s.toks } := turnsTup (ch := [z, TO, i1, i2]) (its := [u1, u2]) I aa (λ b o O e => by
      simp only [j4,l7,or_false,not_or] at O;exact kp b o O.1 O.2.1 O.2.2.1 O.2.2.2 e) (i8 _) (by show 2<=p8;rw[ubn];decide) (.cons ae (.cons ai .nil)) ⟨_,tp,rfl,⟨_,rfl⟩,rfl⟩
  let fr:H ‹128›=none:=I.fresh;let ad:∀ b∈[z,TI,TO,i1,i2],b≠‹128›:=λ b O e=>by
   let af:∃ o,s.heap.get? b=some o:=by
    obtain⟨⟨_,_,_,q1⟩,U,⟨_,_,q3⟩,q4,q5⟩:=st;obtain⟨o4,n4,e4,_,d4⟩:=q4.obj;obtain⟨o5,n5,e5,_,d5⟩:=q5.obj;simp only [j4,l7,or_false] at O;rcases O with rfl | rfl | rfl | rfl | rfl
    ·exact⟨_,q1⟩
    ·exact⟨_,U⟩
    ·exact⟨_,q3⟩
    ·exact⟨_,e4⟩
    ·exact⟨_,e5⟩
   obtain⟨o,ho⟩:=af;exact absurd (j5 ho) (by rw[e];exact ubz _)
  exact⟨A,c7 ?_⟩;exact⟨.ref ‹128›,_,I1,rfl,⟨_,x,y,fr,M,λ zs hz=>by rw[fH I hz q1];exact hx,λ zs hz=>by rw[fH I hz U];exact hy⟩,zd,λ b O=>by rw[aL (ad b O)];exact (hf b O).1⟩
 done:=by
  intro X hP hw hK hc i pins s σ H E I hf st hg;subst hP hw hK;obtain⟨xs,ys,q1,U,hx⟩:=hg;obtain⟨ab,r1,p1,z1⟩:=seqX I q1;obtain⟨ac,r2,p2,z2⟩:=seqX I U;let l1:=r1.length;let l2:=r2.length;let aa:∀ b∈[z,TO,i1,i2],FpOk X pins H b:=λ b O=>hf b (by
   simp only [j4,l7,or_false] at O ⊢;rcases O with rfl | rfl | rfl | rfl <;> simp)
  exact Z3.mE (I.ok.hd hc) D o1 o2 st p1 p2 (hx.elim (λ q=>.inl (by simp;left)) λ q=>.inr (by simp;left)) λ h' kp=>⟨rfl,?_⟩;exact turns (ch:=[z,TO,i1,i2]) (t':=s.toks) I aa λ b o O e=>by
   simp only [j4,l7,or_false,not_or] at O;exact kp b o O.1 O.2.1 O.2.2.1 O.2.2.2 e
 self:=λ _ _ s _ _ st h=>by
  let hT:s.TypeIs (.ref z) "zip":=by obtain⟨f0,f1,_,hz⟩:=st.z;exact⟨_,hz,rfl⟩
  exact uhc hT F.slot_zip_iter (uaf F.slot_zip_iter hT F.entry_zip_iter (c7 ⟨A,"zip",_,hT,ubt.lookup,h⟩) (F.args_zip_iter_1 _))
theorem pR {X:Cx}{nm:Str}{pos':Pos}(t1 t2:Bool){a b:uc7}{ta:TA}{p pos:Pos}(hg:Gl X "zip")(hm:X.mg "zip"=none)(ha:PA X [a,b] ta)
  (hs:ubi [a,b] X.env=[(false,eval a X.env),(false,eval b X.env)]:=by rfl) (hs2:ubi [b] X.env=[(false,eval b X.env)]:=by rfl) :
  PI X (.Name nm pos') (.Call (.Name "zip" p) [a,b] [] pos) (iZip t1 t2 X.K ta):=by
 intro pins s σ H R I h;exact Call_ (cW I hg hm boot_zip (ubb (thn ‹77› λ us F ⟨vs,H1,U,r1,q1⟩=>?_) (by rw[hs,hs2]) (by rw[hs2];rfl)));obtain⟨l1,l2,e,⟨xs,qx⟩,⟨ys,qy⟩,q⟩:=q1;subst e;cases r1 with
 | cons r rr =>
  cases rr with
  | cons r' rr =>
   cases rr;cases r;cases r';obtain⟨ab,r1,p1,z1⟩:=seqX U qx;obtain⟨ac,r2,p2,z2⟩:=seqX U qy;let lt:∀ {t:Bool}{l:o7}{xs:Array i5},Z3.SqAt t F.heap l xs->l<F.heap.objs.size:=λ {t l xs} q=>by
    cases t with
    | true=>obtain⟨o,e,_⟩:=(show F.heap.IsTuple l xs from q);exact j5 e
    | false=>obtain⟨o,e,_⟩:=(show F.heap.IsList l xs from q);exact j5 e
   exact Z3.jT p1 p2 λ h' O sz kp=>ud8 O.z ?_;let I2:Inv X pins σ H1 { F with heap:=h',toks:=F.toks }:=U.kept (t':=F.toks) kp;exact⟨F.heap.objs.size+4,[F.heap.objs.size+4,F.heap.objs.size+2,F.heap.objs.size+3,F.heap.objs.size,F.heap.objs.size+1],P,H1,rfl,I2,yA (Z3.kN _) (Z3.eN (lt p1)) (Z3.eN (lt p2)),⟨⟨P,.inl rfl,O.z⟩,O.ti,O.to,O.a1,O.a2⟩,λ b hb=>?_,q⟩;let aa:F.heap.objs.size<=b:=by
    simp only [j4,l7,or_false] at hb;rcases hb with rfl | rfl | rfl | rfl | rfl
    ·exact ua5 _ _
    ·exact ua5 _ _
    ·exact ua5 _ _
    ·exact i8 _
    ·exact ua5 _ _
   exact U.fpOk aa (U.hok.fresh aa)
abbrev key2 (a b:Int):List Key:=[.inl a,.inl b]
theorem oT {a b c d:Int}:key2 a b=key2 c d↔a=c/\b=d:=by
 constructor
 ·intro e;unfold key2 at e;simp at e;exact e
 ·rintro ⟨rfl,rfl⟩;rfl
def isE (ts:List Tie)(u v:Int)(k:Nat):Bool:=decide ((tieAt ts k).1=min u v)&&decide ((tieAt ts k).2.1=max u v)
def lenI (ts:List Tie)(ks:List Nat)(u v:Int):Option Int:=(ks.find? (isE ts u v)).map λ k=>(tieAt ts k).2.2
section
variable {n:Int}{ts:List Tie}{ks:List Nat}
theorem isE_iff {u v:Int}{k:Nat}:isE ts u v k=true↔(tieAt ts k).1=min u v/\(tieAt ts k).2.1=max u v:=by
 unfold isE;rw[m7,decide_eq_true_iff,decide_eq_true_iff]
theorem iB (ok:WebOk n ts){u v:Int}{j k:Nat}(hj:j<ts.length)(hk:k<ts.length)(h1:isE ts u v j=true)(h2:isE ts u v k=true):j=k:=by
 obtain⟨q,O⟩:=isE_iff.mp h1;obtain⟨z,F⟩:=isE_iff.mp h2;exact zbi ok hj hk (q.trans z.symm) (O.trans F.symm)
theorem kB (ok:WebOk n ts){u v:Int}{k:Nat}(hk:k<ts.length):isE ts u v k=true↔key2 u v=key2 (tieAt ts k).1 (tieAt ts k).2.1\/key2 u v=key2 (tieAt ts k).2.1 (tieAt ts k).1:=by
 let tk:=ok.tie _ (bN hk).2;rw[isE_iff,oT,oT];left
theorem zde (ok:WebOk n ts)(ko:KeepOk ts.length ks){u v:Nat}{l:Int}(m:(u,v,l)∈arcs ts ks):lenI ts ks (u:Int) (v:Int)=some l:=by
 obtain⟨k,z,U⟩:=arcs_mem.mp m;let q:=ko.2 k z;let tk:=ok.tie _ (bN q).2;let c:isE ts (u:Int) (v:Int) k=true/\(tieAt ts k).2.2=l:=by
  rw[isE_iff];rcases arcs2_mem.mp U with e | e
  ·let F:u=(tieAt ts k).1.toNat:=congrArg (·.1) e;let e2:v=(tieAt ts k).2.1.toNat:=congrArg (·.2.1) e;let O:l=(tieAt ts k).2.2:=congrArg (·.2.2) e;left
  ·let F:u=(tieAt ts k).2.1.toNat:=congrArg (·.1) e;let e2:v=(tieAt ts k).1.toNat:=congrArg (·.2.1) e;let O:l=(tieAt ts k).2.2:=congrArg (·.2.2) e;left
 unfold lenI;cases e:ks.find? (isE ts (u:Int) (v:Int)) with
 | none=>exact absurd c.1 (ubu.mp e k z)
 | some j =>
  let:=iB ok (ko.2 j (ua6 e)) q (ucj e) c.1;rw[this];exact congrArg some c.2
theorem zcw (ok:WebOk n ts)(ko:KeepOk ts.length ks){u v:Nat}{l:Int}(h:lenI ts ks (u:Int) (v:Int)=some l):(u,v,l)∈arcs ts ks:=by
 unfold lenI at h;obtain⟨k,e,rfl⟩:=r6.mp h;let q:=ua6 e;let c:=isE_iff.mp (ucj e);let tk:=ok.tie _ (bN (ko.2 k q)).2;exact arcs_mem.mpr ⟨k,q,arcs2_mem.mpr ?_⟩;rcases ug1 u v with z | z
 ·exact .inl (by rw[show u=(tieAt ts k).1.toNat by left,show v=(tieAt ts k).2.1.toNat by left])
 ·exact .inr (by rw[show u=(tieAt ts k).2.1.toNat by left,show v=(tieAt ts k).1.toNat by left])
def stepY (ts:List Tie)(ks:List Nat)(ws:List Int)(j:Nat):Option Int:=lenI ts ks (ws.getD j 0) (ws.getD (j+1) 0)
def sumY (ts:List Tie)(ks:List Nat)(ws:List Int):Nat->Option Int
 | 0=>some 0
 | j+1=>(sumY ts ks ws j).bind λ x=>(stepY ts ks ws j).map λ l=>x+l
def rightI (n:Int)(ts:List Tie)(ks:List Nat)(ws:List Int):Option Int:=if (ws≠[]/\ws.Nodup)/\ws.all ‹51›=true then sumY ts ks ws ‹104› else none
theorem oD {ws ws':List Int}:∀ {j:Nat},(∀ i,i<=j->ws.getD i 0=ws'.getD i 0)->sumY ts ks ws j=sumY ts ks ws' j
 | 0,_=>rfl
 | j+1,h=>by
  let e:stepY ts ks ws j=stepY ts ks ws' j:=by unfold stepY;rw[h j (by left),h (j+1) (i8 _)]
  rw[sumY,sumY,oD λ i hi=>h i (by left),e]
theorem zdl (ok:WebOk n ts)(ko:KeepOk ts.length ks){a b:Nat}{ws:List Nat}{x:Int}(h:Far.Tr (arcs ts ks) a ws b x):sumY ts ks (keepI ws) ‹104›=some x:=by
 induction h with
 | one=>rfl
 | @snoc ws u v x l t m ih =>
  obtain⟨r,z⟩:=hX t;let lw:ws.length=r.length+1:=by rw[z,i7];rfl
  let q:keepI (ws++[v])=keepI ws++[(v:Int)]:=by unfold keepI;rw[uaq];rfl
  let O:(keepI ws).length=ws.length:=by unfold keepI;rw[c9]
  let F:sumY ts ks (keepI (ws++[v])) r.length=some x:=by
   rw[← ih,show ws.length-1=r.length by left];refine oD λ i hi=>?_;rw[q,c8,c8,uao (by left)]
  let e2:stepY ts ks (keepI (ws++[v])) r.length=some l:=by
   unfold stepY;let U:(keepI (ws++[v])).getD r.length 0=(u:Int):=by
    rw[q,c8,uao (by left),z];unfold keepI;rw[uaq,uab (by rw[c9];exact i8 _),c9,Nat.sub_self];rfl
   let g2:(keepI (ws++[v])).getD (r.length+1) 0=(v:Int):=by
    rw[q,c8,uab (by left),O,lw,Nat.sub_self];rfl
   rw[U,g2];exact zde ok ko m
  rw[i7,j6,Nat.add_sub_cancel,lw,sumY,F,Option.bind_some,e2];rfl
theorem yI (ok:WebOk n ts)(ko:KeepOk ts.length ks){a b:Nat}{ws:List Nat}{x:Int}(ha:a<n.toNat)(m:Far.MinW (arcsB ts ks) a b ws)(t:Far.Tr (arcs ts ks) a ws b x):rightI n ts ks (keepI ws)=some x:=by
 unfold rightI;let nd:=m.nodup;let O:∀ u∈ws,u<n.toNat:=by
  clear m nd;induction t with
  | one=>intro u F;rw[u5.mp F];exact ha
  | @snoc ws u v x l t m ih =>
   intro y hy;rcases uat.mp hy with z | z
   ·exact ih y z
   ·rw[u5.mp z];exact (kG ok ko u v l m).2
 let ne:keepI ws≠[]:=by
  intro e;unfold keepI at e;let:ws=[]:=ugg.mp e;obtain⟨r,U⟩:=hX t;rw[this] at U;simp at U
 let q:(keepI ws).Nodup:=by
  unfold keepI;rw[uau,ua1];exact nd.imp λ z y=>z (by left)
 let al:(keepI ws).all ‹51›=true:=by
  rw[v8];intro i hi;unfold keepI at hi;obtain⟨u,F,rfl⟩:=w8.mp hi;let:=O u F;rw[m7,decide_eq_true_iff,decide_eq_true_iff];left
 let lk:(keepI ws).length=ws.length:=by unfold keepI;rw[c9]
 rw[uh2 ⟨⟨ne,q⟩,al⟩,lk];exact zdl ok ko t
noncomputable def wyK (ts:List Tie)(ks:List Nat)(a b:Nat):Option (List Nat):=@dite _ (∃ ws,Far.MinW (arcsB ts ks) a b ws) ‹97› (λ h=>some (Classical.choose h)) (λ _=>none)
noncomputable def dK (ts:List Tie)(ks:List Nat)(u v:Nat):Option Int:=Classical.epsilon λ o=>Far.Dst (arcs ts ks) u v o
noncomputable def dKL (n:Int)(ts:List Tie)(ks:List Nat)(u:Nat):List (Option Int):=(d8 n.toNat).map λ v=>dK ts ks u v
noncomputable def htK (n:Int)(ts:List Tie)(ks:List Nat)(t:Int)(k:Nat):List Int:=(dKL n ts ks (tieAt ts k).1.toNat).map (capO (t*(tieAt ts k).2.2+1))
end
def winK (ts:List Tie)(ks:List Nat)(t:Int)(k:Nat):Prop:=withinB t (tieAt ts k).2.2 (gO ts ks k)=true
noncomputable def wyT (ts:List Tie)(ks:List Nat)(k:Nat):Option (List Nat):=wyK ts ks (tieAt ts k).1.toNat (tieAt ts k).2.1.toNat
def FirstOut (ts:List Tie)(ks:List Nat)(t:Int)(i k:Nat):Prop:=(outs ts.length ks)[i]?=some k/\¬ winK ts ks t k/\∀ j k',j<i->(outs ts.length ks)[j]?=some k'->winK ts ks t k'
inductive TdD (n:Int)(ts:List Tie)(ks:List Nat)(t:Int):ubo->Prop
 | keeps:allIn ts ks t->TdD n ts ks t (.tuple [.str "keeps",.tuple ((outs ts.length ks).map λ k=>wyD (wyT ts ks k))])
 | far {i k:Nat}:FirstOut ts ks t i k->TdD n ts ks t (.tuple [.str "far",.int (k:Int),tupH (htK n ts ks t k)])
def PairsL (H:Hp)(xs ys zs:List V)(m:Nat):Prop:=zs.length=m/\∀ (j:Nat)(z:V),zs[j]?=some z->∃ (T:o7)(x y:V),z=V.ref T/\xs[j]?=some x/\ys[j]?=some y/\H T=some (.tup [x,y])
section
variable {X:Cx}{pins:List (o7 × Obj)}{σ:L2.St}
theorem zloop {A:uax}{R:Result->i6->Prop}{t1 t2:Bool}{z TI TO i1 i2 l1 l2 L:o7}{xs ys:List V}{res:i5}(hh:A.in1.handled=none)(D:Z3.Ap z TI TO i1 i2)(o1:Z3.Out z TI TO i1 i2 l1)(o2:Z3.Out z TI TO i1 i2 l2)(nl1:l1≠L)(nl2:l2≠L)(lx:xs.length<=1000) :
  ∀ (k i:Nat)(s:i6)(H:Hp)(zs:List V),min xs.length ys.length-i=k->i<=min xs.length ys.length->Inv X pins σ H s->(∀ b∈[z,TI,TO,i1,i2],FpOk X pins H b)->Z3.Zn t1 t2 s.heap z TI TO i1 i2 l1 l2 i->H l1=some (if t1=true then .tup xs else .lst xs)->H l2=some (if t2=true then .tup ys else .lst ys)->H L=some (.lst zs)->PairsL H xs ys zs i ->
  (∀ s' H' zs',Inv X pins σ H' s'->(∀ b o,b≠L->H b=some o->H' b=some o)->H' L=some (.lst zs')->PairsL H' xs ys zs' (min xs.length ys.length)->R (.ok (.ret res)) s') ->
  codeAny ‹38› A (.builtin "list.extend.loop" ⟨[.ref L,.ref z,res],[]⟩) R s:=by
 intro k;induction k with
 | zero =>
  intro i s H zs hk hi I hf st q1 q2 O hp hR;let ak:i=min xs.length ys.length:=by left
  obtain⟨ac,r1,p1,z1⟩:=seqX I (SqX.of (K:=X.K) q1);obtain⟨af,r2,p2,z2⟩:=seqX I (SqX.of (K:=X.K) q2);let e1:=r1.length;let e2:=r2.length;let U:∀ b∈[z,TO,i1,i2],FpOk X pins H b:=λ b q=>hf b (by
   simp only [j4,l7,or_false] at q ⊢;rcases q with rfl | rfl | rfl | rfl <;> simp)
  exact ubp F.entry_extend_loop ?_;rw[Around.under_plainId ue6 _];show j7 _ A.in1 (pyNext (.ref z) >>= _) _ _ s;exact a7 (Z3.mE hh D o1 o2 st p1 p2 ?_ λ h' kp=>?_)
  ·rcases ug1 i xs.length with c | c
   ·exact .inr (by simp;left)
   ·exact .inl (by simp;left)
  ·let I1:Inv X pins σ H { s with heap:=h',toks:=s.toks }:=turns (ch:=[z,TO,i1,i2]) (t':=s.toks) I U λ b o q e=>by
    simp only [j4,l7,or_false,not_or] at q;exact kp b o q.1 q.2.1 q.2.2.1 q.2.2.2 e
   exact c7 (hR _ H zs I1 (λ b o _ e=>e) O (by rw[← ak];exact hp))
 | succ k ih =>
  intro i s H zs hk hi I hf st q1 q2 O hp hR;let ad:i<xs.length:=by left
  let ae:i<ys.length:=by left
  obtain⟨ac,r1,p1,z1⟩:=seqX I (SqX.of (K:=X.K) q1);obtain⟨af,r2,p2,z2⟩:=seqX I (SqX.of (K:=X.K) q2);obtain⟨u1,al,ai⟩:=r1.get (d7 ad);obtain⟨u2,an,am⟩:=r2.get (d7 ae);let U:∀ b∈[z,TO,i1,i2],FpOk X pins H b:=λ b q=>hf b (by
   simp only [j4,l7,or_false] at q ⊢;rcases q with rfl | rfl | rfl | rfl <;> simp)
  exact ubp F.entry_extend_loop ?_;rw[Around.under_plainId ue6 _];show j7 _ A.in1 (pyNext (.ref z) >>= _) _ _ s;exact a7 (Z3.mF D o1 o2 st p1 p2 (x:=u1) (y:=u2) (by simpa using al) (by simpa using an) λ h' zd tp sz kp=>?_);let I1 : Inv X pins σ (upd H ‹128› (.tup [xs[i], ys[i]])) { s with heap := h', toks := s.toks } := turnsTup (ch := [z, TO, i1, i2]) (its := [u1, u2]) I U (λ b o q e => by
      simp only [j4,l7,or_false,not_or] at q;exact kp b o q.1 q.2.1 q.2.2.1 q.2.2.2 e) (i8 _) (by show 2<=p8;rw[ubn];decide) (.cons ai (.cons am .nil)) ⟨_,tp,rfl,⟨_,rfl⟩,rfl⟩
  let fr:H ‹128›=none:=I.fresh;let ah:∀ b∈[z,TI,TO,i1,i2],b≠‹128›:=λ b q e=>by
   let aj:∃ o,s.heap.get? b=some o:=by
    obtain⟨⟨_,_,_,q1⟩,q2,⟨_,_,q3⟩,q4,q5⟩:=st;obtain⟨o4,n4,e4,_,d4⟩:=q4.obj;obtain⟨o5,n5,e5,_,d5⟩:=q5.obj;simp only [j4,l7,or_false] at q;rcases q with rfl | rfl | rfl | rfl | rfl
    ·exact⟨_,q1⟩
    ·exact⟨_,q2⟩
    ·exact⟨_,q3⟩
    ·exact⟨_,e4⟩
    ·exact⟨_,e5⟩
   obtain⟨o,ho⟩:=aj;exact absurd (j5 ho) (by rw[e];exact ubz _)
  let aa:∀ b o,H b=some o->b≠‹128›:=λ b o e=>aW e fr;let ab:(upd H ‹128› (.tup [xs[i],ys[i]])) L=some (.lst zs):=by rw[aL (aa _ _ O)];exact O
  obtain⟨zl,its,nn,rv,hl,e⟩:=I1.lstM ab;let lz:=hp.1;show j7 _ A.in1 (updateSeq L (·.push ‹32›) >>= _) _ _ { s with heap:=h' };let fz:∀ b∈[z,TI,TO,i1,i2],b≠L:=λ b q e=>by
   let:=(hf b q).1;rw[e,O] at this;cases this
  let I2:=I1.lset (its':=its++[Value.ref ‹128›]) (f:=λ a=>a.push (Value.ref ‹128›)) (ys:=zs++[V.ref ‹128›]) (t':=s.toks) ab e (by simp) (rv.append (.cons rfl .nil)) (by rw[i7,j6];exact uaj (show _<=1001 by left) (by rw[ubn];decide));let stay:∀ b o,b≠L->H b=some o->(upd (upd H ‹128› (.tup [xs[i],ys[i]])) L (.lst (zs++[.ref ‹128›]))) b=some o:=λ b o q e=>by rw[aL q,aL (aa _ _ e)];exact e
  exact a7 (uc2 e rfl (c7 ⟨udh ue6 _,ih (i+1) _ _ (zs++[.ref ‹128›]) (by left) (by left) I2 (λ b q=>?_) ?_ ?_ ?_ aM ?_ λ s' H' zs' I' k' h' p'=>hR s' H' zs' I' (λ b o q e=>k' b o q (stay b o q e)) h' p'⟩) ?_ ?_)
  ·obtain⟨f0,f1,f2,f3,f4,f5⟩:=hf b q;exact⟨by rw[aL (fz b q),aL (ah b q)];exact f0,f1,f2,f3,f4,f5⟩
  ·obtain⟨⟨g0,g1,hg,w1⟩,w2,⟨a3,b3,w3⟩,w4,w5⟩:=zd;let up:∀ b∈[z,TI,TO,i1,i2],∀ o,h'.get? b=some o->(h'.update L (Obj.mapSeq (·.push ‹32›))).get? b=some o:=λ b q o e=>(uap _ _ (Ne.symm (fz b q))).trans e;exact⟨⟨g0,g1,hg,up z (by simp) _ w1⟩,up TI (by simp) _ w2,⟨a3,b3,up TO (by simp) _ w3⟩,w4.to λ o e=>up i1 (by simp) o e,w5.to λ o e=>up i2 (by simp) o e⟩
  ·exact stay _ _ nl1 q1
  ·exact stay _ _ nl2 q2
  ·exact⟨by rw[i7,lz];rfl,λ j v hv=>?_⟩;rcases ug1 j i with c | c
   ·rw[uao (by left)] at hv;obtain⟨T,x,y,a1,a2,a3,a4⟩:=hp.2 j v hv;exact⟨T,x,y,a1,a2,a3,stay T _ (λ y=>by rw[y,O] at a4;cases a4) a4⟩
   ·rw[uab (by left),lz] at hv;let:j-i=0:=by
     let:=(j9.mp hv).1;rw[j6] at this;left
    rw[this] at hv;cases hv;let:j=i:=by left
    subst this;exact⟨P,A,d7 ad,d7 ae,by rw[aL (Ne.symm (aa _ _ O)),aM]⟩
  ·show its.toArray.size<=_;rw[k9,← hl,ubn];left
  ·show (its.toArray.push ‹32›).size<=_;rw[Array.size_push,k9,← hl,ubn];left
end
theorem xV:typeLookup (.type "zip") "__len__"=pure none:=by rw[ugj,ue1];kernel_rfl
theorem wQ:typeLookup (.type "zip") "__length_hint__"=pure none:=by rw[ugj,ue1];kernel_rfl
def tLZ (t1 t2:Bool)(ta:TA):TE:=λ σ H Q=>ta σ H λ vs H1=>∃ l1 l2 xs ys,vs=[.ref l1,.ref l2]/\H1 l1=some (if t1=true then .tup xs else .lst xs)/\H1 l2=some (if t2=true then .tup ys else .lst ys)/\xs.length<=1000 /\
 ∀ L zs H',Same H1 H'->H1 L=none->H' L=some (.lst zs)->PairsL H' xs ys zs (min xs.length ys.length)->Q (.ref L) H'
theorem wY {X:Cx}(hh:X.calm=true)(t1 t2:Bool){a b:uc7}{ta:TA}{p p' pos pos':Pos}(hg:Gl X "list")(hm:X.mg "list"=none)(hg2:Gl X "zip")(hm2:X.mg "zip"=none)(ha:PA X [a,b] ta)
  (he:ubi [.Call (.Name "zip" p') [a,b] [] pos'] X.env=[(false,eval (.Call (.Name "zip" p') [a,b] [] pos') X.env)]:=by rfl)
  (hs:ubi [a,b] X.env=[(false,eval a X.env),(false,eval b X.env)]:=by rfl) (hs2:ubi [b] X.env=[(false,eval b X.env)]:=by rfl) :
  PE X (.Call (.Name "list" p) [.Call (.Name "zip" p') [a,b] [] pos'] [] pos) (tLZ t1 t2 ta):=by
 intro pins s σ H Q I h;exact uem (cW I hg hm boot_list (ubb (T:="list") ?_ (by rw[he];rfl) (by rfl)));rw[he];show j7 _ _ (spliced ((false,eval (.Call (.Name "zip" p') [a,b] [] pos') X.env)::backTo pos (ubi [] X.env))) _ _ s;exact Calls.spliced_cons ?_;exact uem (cW I hg2 hm2 boot_zip (ubb (thn (ha pos' pins s σ H _ I h) λ us O ⟨vs,H1,I1,r1,q1⟩=>?_) (by rw[hs,hs2]) (by rw[hs2];rfl)));obtain⟨l1,l2,xs,ys,e,qx,qy,lx,q⟩:=q1;subst e;cases r1 with
 | cons r rr =>
  cases rr with
  | cons r' rr =>
   cases rr;cases r;cases r';obtain⟨ao,r1,p1,z1⟩:=seqX I1 (SqX.of (K:=X.K) qx);obtain⟨ap,r2,p2,z2⟩:=seqX I1 (SqX.of (K:=X.K) qy);let lt:∀ {t:Bool}{l:o7}{xs:Array i5},Z3.SqAt t O.heap l xs->l<O.heap.objs.size:=λ {t l xs} q=>by
    cases t with
    | true=>obtain⟨o,e,_⟩:=(show O.heap.IsTuple l xs from q);exact j5 e
    | false=>obtain⟨o,e,_⟩:=(show O.heap.IsList l xs from q);exact j5 e
   exact Z3.jT p1 p2 λ h' zd sz kp=>?_;let I2:Inv X pins σ H1 { O with heap:=h',toks:=O.toks }:=I1.kept (t':=O.toks) kp;exact Calls.spliced_nil ?_;let hf:∀ b∈[O.heap.objs.size+4,O.heap.objs.size+2,O.heap.objs.size+3,O.heap.objs.size,O.heap.objs.size+1],FpOk X pins H1 b:=λ b U=>by
    let af:O.heap.objs.size<=b:=by
     simp only [j4,l7,or_false] at U;rcases U with rfl | rfl | rfl | rfl | rfl
     ·exact ua5 _ _
     ·exact ua5 _ _
     ·exact ua5 _ _
     ·exact i8 _
     ·exact ua5 _ _
    exact I1.fpOk af (I1.hok.fresh af)
   let ah:∀ b∈[O.heap.objs.size+4,O.heap.objs.size+2,O.heap.objs.size+3,O.heap.objs.size,O.heap.objs.size+1],b<h'.objs.size:=λ b U=>by
    rw[sz];simp only [j4,l7,or_false] at U;left
   let D:=Z3.kN O.heap.objs.size;let O1:=Z3.eN (lt p1);let O2:=Z3.eN (lt p2);let g1:=u7 (lt p1) (show O.heap.objs.size<=h'.objs.size by left);let g2:=u7 (lt p2) (show O.heap.objs.size<=h'.objs.size by left);generalize O.heap.objs.size=N at zd hf ah D O1 O2 sz;let zn:Z3.Zn t1 t2 h' (N+4) (N+2) (N+3) N (N+1) l1 l2 0:=⟨⟨_,_,.inl rfl,zd.z⟩,zd.ti,zd.to,zd.a1,zd.a2⟩
   refine callType_codes (Q₁:=λ obj ac=>obj=.ref h'.objs.size/\ac={ O with heap:=h'.push { cls:=.type "list",data:=.seq #[] } }) F.called_list (F.typeCall_list_1 _) F.entry_list_init (code_list_new _ ⟨rfl,rfl⟩) λ obj ac ae=>?_;obtain⟨rfl,rfl⟩:=ae;have hS:(h'.push { cls:=.type "list",data:=.seq #[] }).get? h'.objs.size=some { cls:=.type "list",data:=.seq #[] }:=i9 _ rfl;refine⟨⟨_,hS,rfl⟩,F.args_list_init_2 _ _,?_⟩;show j7 _ _ (do let old ← Builtin.List.listItems (.ref h'.objs.size);Builtin.List.listUpdate (.ref h'.objs.size) (λ _=>#[]);letGo old.toList.reverse;Builtin.List.listExtendWith (.ref h'.objs.size) (.ref (N+4)) .none) _ _ _;refine a7 ?_;unfold Builtin.List.listItems;refine a7 (uay hS rfl (c7 ?_));show j7 _ _ (updateSeq h'.objs.size (λ _=>#[]) >>= λ _=>letGo (#[]:Array i5).toList.reverse >>= λ _=>Builtin.List.listExtendWith (.ref h'.objs.size) (.ref (N+4)) .none) _ _ _;refine a7 (uc2 hS rfl ?_);have ad:=ua7 (Obj.mapSeq (λ _=>(#[]:Array i5))) hS rfl;refine a7 (udg ?_);have aa:∀ b o,b≠h'.objs.size->h'.get? b=some o->((h'.push { cls:=.type "list",data:=.seq #[] }).update h'.objs.size (Obj.mapSeq (λ _=>(#[]:Array i5)))).get? b=some o:=λ b o U e=>(uap _ _ (Ne.symm U)).trans (a9 _ e);generalize (h'.push { cls:=.type "list",data:=.seq #[] }).update h'.objs.size (Obj.mapSeq (λ _=>(#[]:Array i5)))=h2 at ad aa ⊢;have nz:∀ b∈[N+4,N+2,N+3,N,N+1],b≠h'.objs.size:=λ b U=>k8 (ah b U);have z2:h2.get? (N+4)=some { cls:=.type "zip",dict:=none,data:=.fields #[.none,.bool false,.bool false,.ref (N+2),.ref (N+3)],slots:=#[] }:=aa _ _ (nz _ (by simp)) zd.z;have tz:∀ (hx:Heap)(tk:Nat),hx.get? (N+4)=some { cls:=.type "zip",dict:=none,data:=.fields #[.none,.bool false,.bool false,.ref (N+2),.ref (N+3)],slots:=#[] }->Shared.TypeIs { O with heap:=hx,toks:=tk } (.ref (N+4)) "zip":=λ hx tk e=>⟨_,e,rfl⟩;unfold Builtin.List.listExtendWith;refine a7 (ucx (T:="zip") (tz h2 O.toks z2) ?_);have h1:Builtin.List.listSameRef (.ref h'.objs.size) (.ref (N+4))=false:=by simp only [Builtin.List.listSameRef,beq_eq_false_iff_ne];exact Ne.symm (nz _ (by simp))
   let al:(Value.type "zip"==Value.type "list")=false:=by decide
   let am:(Value.type "zip"==Value.type "tuple")=false:=by decide
   simp only [h1,al,am,uhy,ubm,if_false];exact a7 (ud8 (f0:=.none) z2 ?_);exact a7 (uak ?_);unfold Builtin.List.listLengthHint;exact a7 (uel (tz h2 O.toks z2) xV ?_);show j7 _ _ (specialOf (Value.ref (N+4)) (uai "__length_hint__") >>= _) _ _ _;exact a7 (uel (tz h2 O.toks z2) wQ ?_);exact c7 ?_;exact u4 (λ _=>?_) (λ z=>absurd rfl z);exact a7 (uca ?_);exact a7 ?_;show j7 _ _ (updateSeq h'.objs.size (·.push .none) >>= λ _=>updateSeq h'.objs.size (·.pop)) _ _ _;exact a7 (uc2 ad rfl ?_);let ai:=ua7 ‹71› ad rfl;exact uc2 (hz:=by seq_fits) ai rfl ?_;let aj:=ua7 (Obj.mapSeq (·.pop)) ai rfl;let ab:∀ b o,b≠h'.objs.size->h'.get? b=some o->((h2.update h'.objs.size ‹71›).update h'.objs.size (Obj.mapSeq (·.pop))).get? b=some o:=λ b o U e=>(uap _ _ (Ne.symm U)).trans ((uap _ _ (Ne.symm U)).trans (aa b o U e));generalize (h2.update h'.objs.size ‹71›).update h'.objs.size (Obj.mapSeq (·.pop))=h3 at aj ab ⊢;let fr:H1 h'.objs.size=none:=I2.hok.fresh (i8 _);let I3:Inv X pins σ (upd H1 h'.objs.size (.lst [])) { O with heap:=h3,toks:=O.toks }:=I2.laid (a:=h'.objs.size) (o:=.lst []) (t':=O.toks) (λ b o e=>ab b o (k8 (j5 e)) e) (i8 _) ⟨uae _,[],_,.nil,aj⟩;let up:∀ b∈[N+4,N+2,N+3,N,N+1],∀ o,h'.get? b=some o->h3.get? b=some o:=λ b U o e=>ab b o (nz b U) e;exact c7 ⟨udh ue6 _,zloop (A:=X.A.in1) (t1:=t1) (t2:=t2) (L:=h'.objs.size) (xs:=xs) (ys:=ys) (show X.A.in1.in1.handled=none from I.ok.hd hh) D O1 O2 (k8 g1) (k8 g2) lx _ 0 _ _ [] rfl (uae _) I3 (λ b U=>?_) ?_ ?_ ?_ aM ⟨rfl,λ j z e=>by simp at e⟩ λ s' H' an I' k' ak p'=>⟨rfl,?_⟩⟩
   ·obtain⟨f0,f1,f2,f3,f4,f5⟩:=hf b U;exact⟨by rw[aL (nz b U)];exact f0,f1,f2,f3,f4,f5⟩
   ·exact⟨⟨P,.inl rfl,up _ (by simp) _ zd.z⟩,up _ (by simp) _ zd.ti,by obtain⟨a3,b3,w3⟩:=zd.to;exact⟨a3,b3,up _ (by simp) _ w3⟩,zd.a1.to λ o e=>up _ (by simp) o e,zd.a2.to λ o e=>up _ (by simp) o e⟩
   ·rw[aL (k8 g1)];exact qx
   ·rw[aL (k8 g2)];exact qy
   ·exact⟨.ref h'.objs.size,H',I',rfl,q _ an H' (λ b o e=>k' b o (aW e fr) (by rw[aL (aW e fr)];exact e)) fr ak p'⟩
section
variable {n:Int}{ts:List Tie}{ks:List Nat}
theorem zL (ks:List Nat):inV .non (natV ks)=false:=by
 unfold inV natV;induction ks with
 | nil=>rfl
 | cons k ks ih=>rw[ubc,uey,ih];rfl
theorem zd5 (ok:WebOk n ts)(ko:KeepOk ts.length ks)(u v:Nat):inV (oa (tbN ts u v)) (natV ks)=(lenI ts ks (u:Int) (v:Int)).isSome:=by
 unfold lenI;rw[ufa];cases e:tbN ts u v with
 | none =>
  show inV .non (natV ks)=_;rw[zL];cases f:ks.find? (isE ts (u:Int) (v:Int)) with
  | none=>rfl
  | some k =>
   let h1:=ucj f;let h2:=ko.2 k (ua6 f);unfold tbN at e;exact absurd h1 (ubu.mp e k (m8.mpr h2))
 | some k =>
  let z:=m8.mp (ua6 e);let h1:=ucj e;show inV (.int (k:Int)) (natV ks)=_;rw[zc3 (ua3 _),uav];cases f:ks.find? (isE ts (u:Int) (v:Int)) with
  | none=>exact uh1 λ q=>ubu.mp f k q h1
  | some j =>
   let:=iB ok (ko.2 j (ua6 f)) z (ucj f) h1;exact uhz (this ▸ ua6 f)
theorem eX {ws:List Int}:∀ m,(sumY ts ks ws m).isSome=(d8 m).all λ j=>(stepY ts ks ws j).isSome
 | 0=>rfl
 | m+1=>by
  rw[ubx,List.all_append,← eX m,sumY];cases e:sumY ts ks ws m with
  | none=>rfl
  | some x=>cases e2:stepY ts ks ws m <;> simp [e2]
theorem oC {ws:List Int}:∀ m x,sumY ts ks ws m=some x->((d8 m).map λ j=>(stepY ts ks ws j).getD 0).sum=x
 | 0,x,h=>by cases h;rfl
 | m+1,x,h=>by
  rw[sumY] at h;obtain⟨y,q,h⟩:=ufl.mp h;obtain⟨l,hl,rfl⟩:=r6.mp h;rw[ubx,uaq,List.sum_append,oC m y q];simp [hl]
theorem qM (ok:WebOk n ts)(ko:KeepOk ts.length ks){us:List Nat}{a:Nat}(h0:us[0]?=some a):∀ (j:Nat)(b:Nat)(x:Int),us[j]?=some b->sumY ts ks (keepI us) j=some x->Far.Tr (arcs ts ks) a (us.take (j+1)) b x
 | 0,b,x,hb,hx=>by
  rw[h0] at hb;cases hb;cases hx;let:us.take 1=[a]:=by
   cases us with
   | nil=>cases h0
   | cons y r=>cases h0;rfl
  rw[this];exact .one
 | j+1,b,x,hb,hx=>by
  have F:=(j9.mp hb).1;have q:us[j]?=some us[j]:=d7 (by left);rw[sumY] at hx;obtain⟨y,z,h⟩:=ufl.mp hx;obtain⟨l,hl,rfl⟩:=r6.mp h;have t:=qM ok ko h0 j _ y q z;rw[show us.take (j+1+1)=us.take (j+1)++[b] by rw[udo,hb];rfl];refine .snoc t (zcw ok ko ?_);rw[← hl];unfold stepY keepI;rw[c8,j0,q,c8,j0,hb];rfl
theorem iZ (ok:WebOk n ts)(ko:KeepOk ts.length ks){ws:List Int}{x:Int}(h:rightI n ts ks ws=some x):∃ us:List Nat,ws=keepI us/\us.length<=24/\linked ts us/\wl ts us=x:=by
 unfold rightI at h;split at h
 ·rename_i c;obtain⟨⟨U,nd⟩,al⟩:=c;let aa:=ok.n24;let q:∀ i∈ws,0<=i/\i<n:=λ i hi=>by
   let:=v8.mp al i hi;rw[m7,decide_eq_true_iff,decide_eq_true_iff] at this;exact this
  let F:ws=keepI (ws.map ubk):=by
   unfold keepI;rw[ua0]
   conv=>lhs;rw[← uda ws]
   exact ua2 λ i hi=>?_;show i=((i.toNat:Nat):Int);let:=q i hi;left
  have lw:(ws.map ubk).length=ws.length:=c9 _;have pos:0<ws.length:=ucc.mpr U;have h0:(ws.map ubk)[0]?=some (ws.map ubk)[0]:=d7 (by left);have hl:(ws.map ubk)[ws.length-1]?=some (ws.map ubk)[ws.length-1]:=d7 (by left);rw[F] at h;have lk:(keepI (ws.map ubk)).length=ws.length:=by rw[← F]
  rw[lk] at h;let t:=qM ok ko h0 _ _ _ hl h;rw[ube (by left)] at t;obtain⟨e1,e2⟩:=gA ok ko t;exact⟨ws.map ubk,F,?_,e2,e1⟩;let O:(ws.map ubk).Nodup:=by
   rw[uau,ua1];exact ucb ?_ nd;intro a b ha hb U z;let:=q a ha;let:=q b hb;left
  let:=gX (b:=d8 n.toNat) O λ u hu=>by
   obtain⟨i,hi,rfl⟩:=w8.mp hu;let:=q i hi;exact m8.mpr (by left)
  rw[uaa] at this;left
 ·cases h
end
theorem jR (ds:List ubo):udz (.list ds) (.list [])=decide (ds=[]):=by
 cases ds with
 | nil=>rfl
 | cons d ds=>rfl
section
variable {X:Cx}
end
def leadsI (n:Int)(ts:List Tie)(ks:List Nat)(a b:Int)(ws:List Int):Bool:=(rightI n ts ks ws).isSome&&(decide (ws.getD 0 0=a)&&decide (ws.getD ‹104› 0=b))
def goodW (n:Int)(ts:List Tie)(ks:List Nat)(t:Int)(k:Nat)(ws:List Int):Bool:=leadsI n ts ks (tieAt ts k).1 (tieAt ts k).2.1 ws&&decide ((rightI n ts ks ws).getD 0<=t*(tieAt ts k).2.2)
def beyondI (n:Int)(ts:List Tie)(ks:List Nat)(t:Int)(k:Nat)(hs:List Int):Bool:=holdB n ts ks hs&&decide (acrossI ts hs k>t*(tieAt ts k).2.2)
def waysB (n:Int)(ts:List Tie)(ks:List Nat)(t:Int)(W:List (List Int)):Bool:=decide (W.length=(outs ts.length ks).length)&&(d8 (outs ts.length ks).length).all λ i=>goodW n ts ks t ((outs ts.length ks).getD i 0) (W.getD i [])
def farB (n:Int)(ts:List Tie)(ks:List Nat)(t:Int)(k:Int)(hs:List Int):Bool:=(decide (0<=k)&&decide (k<(ts.length:Int)))&&(!decide (k.toNat∈ks)&&beyondI n ts ks t k.toNat hs)
inductive Ppr where
 | keeps (W:List (List Int)):Ppr
 | far (k:Int) (hs:List Int):Ppr
def Ppr.d:Ppr->ubo
 | .keeps W=>.tuple [.str "keeps",.tuple (W.map tupH)]
 | .far k hs=>.tuple [.str "far",.int k,tupH hs]
def Ppr.ok:Ppr->Prop
 | .keeps W=>W.length<=1000/\∀ ws∈W,ws.length<=40
 | .far _ hs=>hs.length<=1000
def Ppr.right (n:Int)(ts:List Tie)(ks:List Nat)(t:Int):Ppr->Bool
 | .keeps W=>waysB n ts ks t W
 | .far k hs=>farB n ts ks t k hs
end L3
namespace Far
theorem mK {A B:List ‹49›}(h:∀ a∈A,a∈B){s v:Nat}{x:Int}(w:Walk A s v x):Walk B s v x:=by
 induction w with
 | nil=>exact .nil
 | snoc w m ih=>exact .snoc ih (h _ m)
theorem zcf {A B:List Arc}{a b:Nat}{ws S:List Nat}{x y:Int}(r:Rt A a ws S b x y):(∀ c∈A,c.2.2.2∈S->c∈B)->Rt B a ws S b x y:=by
 induction r with
 | one=>intro _;exact .one
 | snoc r m nv ih=>intro h;exact .snoc (ih λ c q hs=>h c q (ubj _ hs)) (h _ m (z0 _ (u5.mpr rfl))) nv
end Far
namespace L3
open PySem PySem.Spec PyProof.Rows L2
section
variable {n:Int}{ts:List Tie}{ks:List Nat}
theorem nS (ko:KeepOk ts.length ks):∀ a∈arcsB ts ks,a∈arcsB ts ‹39›:=λ a h=>by
 obtain⟨k,q,m⟩:=arcsB_mem.mp h;exact arcsB_mem.mpr ⟨k,m8.mpr (ko.2 k q),m⟩
theorem zbt (ok:WebOk n ts)(ko:KeepOk ts.length ks):∀ a∈arcs ts ks,a∈arcs ts ‹39›:=by
 rw[← cM,← cM];intro a h;unfold Far.arcsF at h ⊢;obtain⟨b,q,e⟩:=w8.mp h;exact w8.mpr ⟨b,nS ko b q,e⟩
theorem jI {a b:Nat}{ws:List Nat}(h:wyN ts a b=some ws):Far.MinW (arcsB ts ‹39›) a b ws:=by
 unfold wyN at h;split at h
 ·rename_i ex;have e:=uaz h;rw[← e];exact Classical.choose_spec ex
 ·cases h
theorem rG (ok:WebOk n ts){a b:Nat}(hb:b<n.toNat){x:Int}(eg:dG ts a b=some x):∃ ws,wyN ts a b=some ws/\Far.Tr (arcs ts ‹39›) a ws b x:=by
 let U:=bX ts;let q:=eW ok U;let dst:=eE ok a b;rw[eg] at dst;obtain⟨cs,as,B⟩:=Far.wK q (λ u v l k m=>pH ok U m) hb;let d1:=B.dst1 q a;rw[cM] at d1;let e2:=(d1.back (jH ok U)).unique dst;obtain⟨c,O,F⟩:=r6.mp e2;obtain⟨ws,S,r,tp,_⟩:=B.route q _ _ c O (i8 _);let z:Far.TPw as b ws.reverse.reverse a:=by rw[ugc];exact tp
 let m:=B.minw q z O;obtain⟨S',u⟩:=B.uni q z O;let tr:=u.rt.tr;rw[cM,F] at tr;exact⟨ws.reverse,nU ok m,tr⟩
theorem rF (ok:WebOk n ts){a b:Nat}(eg:dG ts a b=none):wyN ts a b=none:=by
 let dst:=eE ok a b;rw[eg] at dst;exact nV dst
theorem zb1 (ok:WebOk n ts)(ko:KeepOk ts.length ks){a b:Nat}{ws:List Nat}{x:Int}(h:wyN ts a b=some ws)(tr:Far.Tr (arcs ts ‹39›) a ws b x)(d:dG ts a b=some x)(hk:∀ k∈alongN ts ws,k∈ks) :
  Far.MinW (arcsB ts ks) a b ws/\Far.Tr (arcs ts ks) a ws b x/\Far.Dst (arcs ts ks) a b (some x):=by
 obtain⟨S,O,U,r,l⟩:=jI h;let hS:∀ k∈S,k∈ks:=λ k F=>by
  obtain⟨i,hi⟩:=uci.mp F;obtain⟨u,v,l2,eu,ev,m⟩:=r.step hi;let hl:=r.len;let il:=(j9.mp hi).1;exact hk k ?_;unfold alongN;exact w8.mpr ⟨i,m8.mpr (by left),?_⟩;rw[c8,eu,c8,ev];show (tbN ts u v).getD 0=k;rw[zb9 ok (bX ts) m];rfl
 let r2:Far.Rt (arcsB ts ks) a ws S b O U:=Far.zcf r λ c hc hs=>by
  obtain⟨k,hk,m⟩:=arcsB_mem.mp hc;let e:c.2.2.2=k:=by rcases arcs2B_mem.mp m with e | e <;> rw[e]
  exact arcsB_mem.mpr ⟨k,by rw[← e];exact hS _ hs,m⟩
 have z:=r.tr;rw[cM] at z;have q:=r2.tr;rw[cM] at q;have ex:O=x:=by rw[← (gA ok (bX ts) z).1,← (gA ok (bX ts) tr).1]
 rw[ex] at q;exact⟨⟨S,O,U,r2,λ L w=>l L (Far.mK (λ a ha=>?_) w)⟩,q,⟨λ y e=>?_,λ L hL=>?_⟩⟩
 ·obtain⟨u,v,c⟩:=a;obtain⟨l',k,m,e⟩:=Far.arcsC_mem.mp ha;exact Far.arcsC_mem.mpr ⟨l',k,nS ko _ m,e⟩
 ·cases e;let w:=r2.walk;rw[cM,ex] at w;exact w
 ·let dst:=eE ok a b;rw[d] at dst;exact dst.2 L (Far.mK (zbt ok ko) hL)
theorem lP {m:Nat}{ks:List Nat}(h:KeepOk m ks):keepB m (tupI (keepI ks))=true:=by
 show (((keepI ks).map uei).all (numB m)&&risI (((keepI ks).map uei).map intOf))=true;let e:((keepI ks).map uei).map intOf=keepI ks:=by
  rw[ua0];exact (ua2 λ _ _=>rfl).trans (uda _)
 rw[e,(oJ _).mpr (by unfold keepI;rw[ua1];exact h.1.imp λ h=>by left),uef,uck,v8];intro i hi;unfold keepI at hi;obtain⟨k,q,rfl⟩:=w8.mp hi;let:=h.2 k q;show (decide (0<=(k:Int))&&decide ((k:Int)<(m:Int)))=true;rw[uhz (by left:0<=(k:Int)),uhz (by left:(k:Int)<(m:Int))];rfl
theorem jE (us:List Nat):(keepI us).map ubk=us:=by
 unfold keepI;rw[ua0];exact (ua2 λ x _=>uav x).trans (uda us)
theorem zan {A:List ‹49›}{a b:Nat}{ws:List Nat}{x:Int}(t:Far.Tr A a ws b x):(keepI ws).getD 0 0=(a:Int)/\(keepI ws).getD ((keepI ws).length-1) 0=(b:Int):=by
 obtain⟨r,e⟩:=hX t;let F:∃ q,ws=a::q:=by
  clear e;induction t with
  | one=>exact⟨[],rfl⟩
  | snoc t m ih=>obtain⟨q,rfl⟩:=ih;exact⟨q++[_],rfl⟩
 obtain⟨q,z⟩:=F;constructor
 ·rw[z];rfl
 ·rw[e];unfold keepI;rw[uaq,i7,c9,c8,uab (by rw[c9];simp)];simp
end
end L3
namespace Z3
open PySem
theorem tM (a b c:i5):checkTypeCall "zip" ⟨[a,b,c],[]⟩=pure ():=by kernel_rfl
theorem uO (a b c:i5):checkBuiltinCall "zip.__new__" ⟨[.type "zip",a,b,c],[]⟩=pure ():=by kernel_rfl
theorem sA (a b c d:i5):argsOk "object.__init__" ⟨[a,b,c,d],[]⟩:=by
 unfold argsOk;rw[signature?_of (id:="object.__init__") (n:=['_','_','t','i','n','i','_','_']) (o:=['t','c','e','j','b','o']) ‹113› F.owner_object];kernel_rfl
abbrev IsTri (h:Heap)(T:o7)(a b c:i5):Prop:=h.get? T=some { cls:=.type "tuple",data:=.seq #[a,b,c] }
section
variable {prog:o9}{w:uaw}{A:uax}{E:i5->i6->Prop}{s:i6}
theorem iN {T:o7}{a b c x:i5}{k:Nat}{Q:Unit->i6->Prop}(hT:IsTri s.heap T a b c)
  (h:∀ h',h'.get? T=some { cls:=.type "tuple",data:=.seq ((#[a,b,c]:Array i5).setIfInBounds k x) }->Heap.SameBut T s.heap h'->Q () { s with heap:=h' }) :
  j7 (v4 prog w) A (updateSeq T (·.setIfInBounds k x)) Q E s:=by
 exact uc2 hT rfl (h _ ?_ (ua8 ..));rw[ua7 _ hT rfl];simp [Obj.mapSeq]
structure Zt (h:Heap)(z TI TO i1 i2 i3 l1 l2 l3:o7)(f0:i5)(k:Nat):Prop where
 z:IsZip h z TI TO f0
 ti:IsTri h TI (.ref i1) (.ref i2) (.ref i3)
 to:∃ a b c,IsTri h TO a b c
 a1:h.IsTupleIter i1 l1 k
 a2:h.IsTupleIter i2 l2 k
 a3:h.IsTupleIter i3 l3 k
structure At3 (z TI TO i1 i2 i3:o7):Prop where
 n1:TI≠z
 n2:TO≠z
 n3:i1≠z
 n4:i2≠z
 n5:i3≠z
 n6:TI≠TO
 n7:TI≠i1
 n8:TI≠i2
 n9:TI≠i3
 m1:TO≠i1
 m2:TO≠i2
 m3:TO≠i3
 m4:i1≠i2
 m5:i1≠i3
 m6:i2≠i3
def Ot (z TI TO i1 i2 i3 l:o7):Prop:=l≠z/\l≠TI/\l≠TO/\l≠i1/\l≠i2/\l≠i3
theorem bO {h h':Heap}{it l:o7}{i:Nat}(x:h.IsTupleIter it l i)(e:∀ o,h.get? it=some o->h'.get? it=some o):h'.IsTupleIter it l i:=Heap.IsTupleIter.at x e
theorem eS {h h':Heap}{l:o7}{xs:Array i5}(x:h.IsTuple l xs)(e:∀ o,h.get? l=some o->h'.get? l=some o):h'.IsTuple l xs:=Heap.IsTuple.at x e
theorem zbz {z TI TO i1 i2 i3 l1 l2 l3:o7}{k:Nat}{xs ys zs:Array i5}{x y u:i5}{Q:i5->i6->Prop}(D:At3 z TI TO i1 i2 i3)(o1:Ot z TI TO i1 i2 i3 l1)(o2:Ot z TI TO i1 i2 i3 l2)(o3:Ot z TI TO i1 i2 i3 l3)
  (Z:Zt s.heap z TI TO i1 i2 i3 l1 l2 l3 .none k) (hl1:s.heap.IsTuple l1 xs) (hl2:s.heap.IsTuple l2 ys) (hl3:s.heap.IsTuple l3 zs) (hx:xs[k]?=some x) (hy:ys[k]?=some y) (hu:zs[k]?=some u)
  (hQ:∀ h',Zt h' z TI TO i1 i2 i3 l1 l2 l3 (rawInt ‹128›) (k+1)->IsTri h' ‹128› x y u->h'.objs.size=‹128›+1 ->
   (∀ c o,c≠z->c≠TO->c≠i1->c≠i2->c≠i3->s.heap.get? c=some o->h'.get? c=some o)->Q ‹32› { s with heap:=h' }) :
  j7 (v4 prog w) A ‹60› (λ fin s'=>∃ v,fin=.done (.ret v)/\Q v s') E s:=by
 obtain⟨hz,ab,⟨a,b,c,ad⟩,h1,h2,h3⟩:=Z;show j7 _ _ (field (.ref z) 2 >>= _) _ _ s;exact a7 (v7 hz rfl (x:=.bool false) rfl ?_);show j7 _ _ (field (.ref z) 3 >>= _) _ _ s;exact a7 (v7 hz rfl (x:=.ref TI) rfl ?_);exact a7 (uay ab rfl ?_);show j7 _ _ ‹48› _ _ s;exact a7 ?_;unfold Builtin.SmallTypes.ownedTupleIsFree;exact a7 (v7 hz rfl (x:=.none) rfl (c7 ?_));simp only [if_true];exact a7 (uca ?_);exact a7 (v7 hz rfl (x:=.ref TO) rfl ?_);exact a7 (x9 hz (by simp) λ g1 z1 e1=>?_);replace z1:IsZip g1 z TI TO .ellipsis:=z1;exact a7 ?_;simp only [ud0,ud9,ubr,ub6]
 exact a7 (a7 (ucl ?_));show j7 _ _ ‹41› _ _ { s with heap:=g1 };exact a7 (hG (bO h1 λ o e=>e1.extBut _ _ D.n3 e) (eS hl1 λ o e=>e1.extBut _ _ o1.1 e) hx λ g2 a2 e2=>c7 ?_);let b2:IsTri g2 TO a b c:=e2.extBut _ _ D.m1 (e1.extBut _ _ D.n2 ad);exact a7 (uay b2 rfl ?_);exact a7 (iN b2 λ g3 b3 e3=>?_);replace b3:IsTri g3 TO x b c:=b3;exact a7 (udg (c7 ?_))
 exact a7 (a7 (ucl ?_));show j7 _ _ ‹78› _ _ { s with heap:=g3 };let k3:∀ c o,c≠z->c≠i1->c≠TO->s.heap.get? c=some o->g3.get? c=some o:=λ c o F U O e=>e3.extBut _ _ O (e2.extBut _ _ U (e1.extBut _ _ F e));exact a7 (hG (bO h2 λ o e=>k3 _ _ D.n4 D.m4.symm D.m2.symm e) (eS hl2 λ o e=>k3 _ _ o2.1 o2.2.2.2.1 o2.2.2.1 e) hy λ g4 a4 e4=>c7 ?_);let b4:IsTri g4 TO x b c:=e4.extBut _ _ D.m2 b3;exact a7 (uay b4 rfl ?_);exact a7 (iN b4 λ g5 b5 e5=>?_);replace b5:IsTri g5 TO x y c:=b5;exact a7 (udg (c7 ?_))
 exact a7 (a7 (ucl ?_));show j7 _ _ (Builtin.SmallTypes.nextOf (.ref i3) >>= _) _ _ { s with heap:=g5 };let k5:∀ c o,c≠z->c≠i1->c≠TO->c≠i2->s.heap.get? c=some o->g5.get? c=some o:=λ c o F U O c4 e=>e5.extBut _ _ O (e4.extBut _ _ c4 (k3 c o F U O e));exact a7 (hG (bO h3 λ o e=>k5 _ _ D.n5 D.m5.symm D.m3.symm D.m6.symm e) (eS hl3 λ o e=>k5 _ _ o3.1 o3.2.2.2.1 o3.2.2.1 o3.2.2.2.2.1 e) hu λ g6 a6 e6=>c7 ?_);let b6:IsTri g6 TO x y c:=e6.extBut _ _ D.m3 b5;exact a7 (uay b6 rfl ?_);exact a7 (iN b6 λ q b7 e7=>?_);replace b7:IsTri q TO x y u:=b7;exact a7 (udg (c7 (c7 ?_)));exact a7 (uay b7 rfl ?_);exact a7 (uev ?_);let sz:q.objs.size=‹128›:=by rw[e7.1,e6.1,e5.1,e4.1,e3.1,e2.1,e1.1]
 let k7:∀ c o,c≠z->c≠TO->c≠i1->c≠i2->c≠i3->s.heap.get? c=some o->q.get? c=some o:=λ c o F U O c4 c5 e=>e7.extBut _ _ U (e6.extBut _ _ c5 (k5 c o F O U c4 e));let z7:IsZip q z TI TO .ellipsis:=e7.extBut _ _ D.n2.symm (e6.extBut _ _ D.n5.symm (e5.extBut _ _ D.n2.symm (e4.extBut _ _ D.n4.symm (e3.extBut _ _ D.n2.symm ‹108›))));let F:q.IsTupleIter i1 l1 (k+1):=bO a2 λ o e=>e7.extBut _ _ D.m1.symm (e6.extBut _ _ D.m5 (e5.extBut _ _ D.m1.symm (e4.extBut _ _ D.m4 (e3.extBut _ _ D.m1.symm e))));let U:q.IsTupleIter i2 l2 (k+1):=bO a4 λ o e=>e7.extBut _ _ D.m2.symm (e6.extBut _ _ D.m6 (e5.extBut _ _ D.m2.symm e));let O:q.IsTupleIter i3 l3 (k+1):=bO a6 λ o e=>e7.extBut _ _ D.m3.symm e;let ac:z<q.objs.size:=j5 z7;show j7 _ _ ‹83› _ _ { s with heap:=_ };exact a7 ?_;unfold Builtin.SmallTypes.ownedTupleHandOut;let z8:IsZip (q.push { cls:=.type "tuple",data:=.seq #[x,y,u] }) z TI TO .ellipsis:=a9 _ z7;exact a7 (x9 z8 (by simp) λ g9 z9 e9=>?_);replace z9:IsZip g9 z TI TO (rawInt q.objs.size):=z9;exact x9 z9 (by simp) λ ga za ea=>?_;replace za:IsZip ga z TI TO (rawInt q.objs.size):=za;let up:∀ c o,c≠z->q.get? c=some o->ga.get? c=some o:=λ c o F e=>ea.extBut _ _ F (e9.extBut _ _ F (a9 _ e));let ta:IsTri ga q.objs.size x y u:=ea.extBut _ _ (ub9 ac) (e9.extBut _ _ (ub9 ac) (i9 _ rfl));let aa:ga.objs.size=q.objs.size+1:=by rw[ea.1,e9.1,uan]
 rw[sz] at za ta aa;exact c7 ⟨A,?_⟩;show Q (.ref q.objs.size) { s with heap:=ga };rw[sz];exact hQ ga ⟨za,up _ _ D.n1 (k7 _ _ D.n1 D.n6 D.n7 D.n8 D.n9 ab),⟨x,y,u,up _ _ D.n2 b7⟩,bO F λ o e=>up _ o D.n3 e,bO U λ o e=>up _ o D.n4 e,bO O λ o e=>up _ o D.n5 e⟩ ta aa λ c o d1 d2 d3 d4 d5 e=>up c o d1 (k7 c o d1 d2 d3 d4 d5 e)
theorem zby {z TI TO i1 i2 i3 l1 l2 l3:o7}{k:Nat}{xs:Array i5}{Q:Fin->i6->Prop}(hh:A.handled=none)(D:At3 z TI TO i1 i2 i3)(o1:Ot z TI TO i1 i2 i3 l1)
  (Z:Zt s.heap z TI TO i1 i2 i3 l1 l2 l3 .none k) (hl1:s.heap.IsTuple l1 xs) (hx:xs[k]?=none)
  (hE:∀ h' e,(∀ c o,c≠z->c≠TO->c≠i1->c≠i2->c≠i3->s.heap.get? c=some o->h'.get? c=some o)->(∃ o,h'.get? e=some o/\o.cls=.type "StopIteration")->E (.ref e) { s with heap:=h' }) :
  j7 (v4 prog w) A ‹60› Q E s:=by
 obtain⟨F,aa,⟨a,b,c,ab⟩,h1,h2,h3⟩:=Z;show j7 _ _ (field (.ref z) 2 >>= _) _ _ s;exact a7 (v7 F rfl (x:=.bool false) rfl ?_);show j7 _ _ (field (.ref z) 3 >>= _) _ _ s;exact a7 (v7 F rfl (x:=.ref TI) rfl ?_);exact a7 (uay aa rfl ?_);show j7 _ _ ‹48› _ _ s;exact a7 ?_;unfold Builtin.SmallTypes.ownedTupleIsFree;exact a7 (v7 F rfl (x:=.none) rfl (c7 ?_));simp only [if_true];exact a7 (uca ?_);exact a7 (v7 F rfl (x:=.ref TO) rfl ?_);exact a7 (x9 F (by simp) λ g1 z1 O=>?_);replace z1:IsZip g1 z TI TO .ellipsis:=z1;exact a7 ?_;simp only [ud0,ud9,ubr,ub6];exact a7 (a7 (ucl ?_));show j7 _ _ ‹41› _ _ { s with heap:=g1 };exact a7 (oF hh (bO h1 λ o e=>O.extBut _ _ D.n3 e) (eS hl1 λ o e=>O.extBut _ _ o1.1 e) hx λ g2 e e2 he=>?_);obtain⟨oe,U,p2⟩:=he;let z2:IsZip g2 z TI TO .ellipsis:=e2 _ _ D.n3.symm z1;let ez:e≠z:=λ q=>by subst q;rw[z2] at U;cases U;simp at p2
 exact x9 z2 (by simp) λ g3 _ e3=>hE g3 e (λ c o c1 _ c3 _ _ q=>e3.extBut _ _ c1 (e2 _ _ c3 (O.extBut _ _ c1 q))) ⟨oe,e3.extBut _ _ ez U,p2⟩
theorem zct {z TI TO i1 i2 i3 l1 l2 l3:o7}{k:Nat}{xs ys zs:Array i5}{x y u:i5}{Q:Option i5->i6->Prop}(D:At3 z TI TO i1 i2 i3)(o1:Ot z TI TO i1 i2 i3 l1)(o2:Ot z TI TO i1 i2 i3 l2)(o3:Ot z TI TO i1 i2 i3 l3)
  (Z:Zt s.heap z TI TO i1 i2 i3 l1 l2 l3 .none k) (hl1:s.heap.IsTuple l1 xs) (hl2:s.heap.IsTuple l2 ys) (hl3:s.heap.IsTuple l3 zs) (hx:xs[k]?=some x) (hy:ys[k]?=some y) (hu:zs[k]?=some u)
  (hQ:∀ h',Zt h' z TI TO i1 i2 i3 l1 l2 l3 (rawInt ‹128›) (k+1)->IsTri h' ‹128› x y u->h'.objs.size=‹128›+1 ->
   (∀ c o,c≠z->c≠TO->c≠i1->c≠i2->c≠i3->s.heap.get? c=some o->h'.get? c=some o)->Q (some ‹32›) { s with heap:=h' }) :
  j7 (v4 prog w) A (pyNext (.ref z)) Q E s:=by
 let q:s.TypeIs (.ref z) "zip":=⟨_,Z.z,rfl⟩;unfold pyNext;exact a7 (ucm (v9 (name := uai "__next__") q ubt (uaf ubt q ud6
     (zbz D o1 o2 o3 Z hl1 hl2 hl3 hx hy hu λ h' U b2 O F=>c7 (hQ h' U b2 O F)) (udu _))))
theorem zcs {z TI TO i1 i2 i3 l1 l2 l3:o7}{k:Nat}{xs:Array i5}{Q:Option i5->i6->Prop}(hh:A.handled=none)(D:At3 z TI TO i1 i2 i3)(o1:Ot z TI TO i1 i2 i3 l1)
  (Z:Zt s.heap z TI TO i1 i2 i3 l1 l2 l3 .none k) (hl1:s.heap.IsTuple l1 xs) (hx:xs[k]?=none)
  (hQ:∀ h',(∀ c o,c≠z->c≠TO->c≠i1->c≠i2->c≠i3->s.heap.get? c=some o->h'.get? c=some o)->Q none { s with heap:=h' }):j7 (v4 prog w) A (pyNext (.ref z)) Q E s:=by
 let q:s.TypeIs (.ref z) "zip":=⟨_,Z.z,rfl⟩;unfold pyNext;exact a7 (ucm (v9 (name := uai "__next__") q ubt (uaf ubt q ud6
     (zby hh D o1 Z hl1 hx λ h' e O F=>?_) (udu _))))
 obtain⟨o,U,p2⟩:=F;exact a7 ‹91›
abbrev zt3 (h:Heap)(l1 l2 l3:o7):Heap:=((h.push (itObj true l1)).push (itObj true l2)).push (itObj true l3)
abbrev zt4 (h:Heap)(l1 l2 l3:o7):Heap:=(zt3 h l1 l2 l3).push { cls:=.type "tuple",data:=.seq #[.ref h.objs.size,.ref (h.push (itObj true l1)).objs.size,.ref ((h.push (itObj true l1)).push (itObj true l2)).objs.size] }
abbrev zt5 (h:Heap)(l1 l2 l3:o7):Heap:=(zt4 h l1 l2 l3).push { cls:=.type "tuple",data:=.seq #[.none,.none,.none] }
abbrev zt6 (h:Heap)(l1 l2 l3:o7):Heap:=(zt5 h l1 l2 l3).push { cls:=.type "zip",data:=.fields #[.none,.bool false,.bool false,.ref (zt3 h l1 l2 l3).objs.size,.ref (zt4 h l1 l2 l3).objs.size] }
theorem zdg (l1 l2 l3:o7)(xs ys zs:Array i5) :
  Meets (Builtin.«zip.__new__» ⟨[.type "zip",.ref l1,.ref l2,.ref l3],[]⟩) (λ _ R s=>s.heap.IsTuple l1 xs/\s.heap.IsTuple l2 ys/\s.heap.IsTuple l3 zs/\R (.ok (.ret (.ref (zt5 s.heap l1 l2 l3).objs.size))) { s with heap:=zt6 s.heap l1 l2 l3 }) :=
 .of_wp λ prog w A R s h=>by
  obtain⟨q,g,d,tk,z⟩:=s;obtain⟨O,U,F,h⟩:=h;let aa:=sub_zip;let b1:SqAt true (Shared.heap ⟨q,g,d,tk,z⟩) l1 xs:=O;let b2:SqAt true (Shared.heap ⟨q.push (itObj true l1),g,d,tk,z⟩) l2 ys:=eS U λ o e=>a9 _ e;let b3:SqAt true (Shared.heap ⟨(q.push (itObj true l1)).push (itObj true l2),g,d,tk,z⟩) l3 zs:=eS F λ o e=>a9 _ (a9 _ e)
  wp_walk using dM b1,dM b2,dM b3
  exact⟨A,h⟩
theorem zY {l1 l2 l3:o7}{xs ys zs:Array i5}{Q:i5->i6->Prop}(hl1:s.heap.IsTuple l1 xs)(hl2:s.heap.IsTuple l2 ys)(hl3:s.heap.IsTuple l3 zs)
  (h:∀ h',Zt h' (‹128›+5) (‹128›+3) (‹128›+4) ‹128› ‹66› (‹128›+2) l1 l2 l3 .none 0->h'.objs.size=‹128›+6 ->
   (∀ c o,s.heap.get? c=some o->h'.get? c=some o)->Q (.ref (‹128›+5)) { s with heap:=h' }) :
  j7 (v4 prog w) A (call (.type "zip") [.ref l1,.ref l2,.ref l3]) Q E s:=by
 exact uhi F.called_zip (by decide) (tM _ _ _) (uO _ _ _) (λ obj=>sA obj _ _ _) F.entry_zip_new (zdg l1 l2 l3 xs ys zs) ⟨hl1,hl2,hl3,?_⟩;let z1:‹126›.objs.size=‹128›+1:=uan ..;let O:(‹126›.push (itObj true l2)).objs.size=‹128›+2:=by rw[uan,z1]
 let z3:(zt3 s.heap l1 l2 l3).objs.size=‹128›+3:=by rw[uan,O]
 let z4:(zt4 s.heap l1 l2 l3).objs.size=‹128›+4:=by rw[uan,z3]
 let U:(zt5 s.heap l1 l2 l3).objs.size=‹128›+5:=by rw[uan,z4]
 let z6:(zt6 s.heap l1 l2 l3).objs.size=‹128›+6:=by rw[uan,U]
 let z:∀ {h:Heap}{o:Obj}{c:o7}{q:Obj},h.get? c=some q->(h.push o).get? c=some q:=λ e=>a9 _ e;let g6:(zt6 s.heap l1 l2 l3).get? (zt5 s.heap l1 l2 l3).objs.size=some _:=i9 _ rfl;let g5:(zt6 s.heap l1 l2 l3).get? (zt4 s.heap l1 l2 l3).objs.size=some _:=z (i9 _ rfl);let g4:(zt6 s.heap l1 l2 l3).get? (zt3 s.heap l1 l2 l3).objs.size=some _:=z (z (i9 _ rfl));let g3:(zt6 s.heap l1 l2 l3).IsTupleIter (‹126›.push (itObj true l2)).objs.size l3 0:=bO (ItAt.new (t:=true) (h:=‹126›.push (itObj true l2)) (l:=l3)) λ o e=>z (z (z e));let g2:(zt6 s.heap l1 l2 l3).IsTupleIter ‹126›.objs.size l2 0:=bO (ItAt.new (t:=true) (h:=s.heap.push (itObj true l1)) (l:=l2)) λ o e=>z (z (z (z e)));let g1:(zt6 s.heap l1 l2 l3).IsTupleIter ‹128› l1 0:=bO (ItAt.new (t:=true) (h:=s.heap) (l:=l1)) λ o e=>z (z (z (z (z e))));show _/\_;rw[z3,z4,U] at g6;rw[z1,O,z3] at g4;rw[z4] at g5;rw[O] at g3;rw[z1] at g2;rw[U];exact⟨⟨_,g6,rfl⟩,h _ ⟨g6,g4,⟨P,_,g5⟩,g1,g2,g3⟩ z6 λ c o q=>z (z (z (z (z (z q)))))⟩
theorem zdd (n:Nat):At3 (n+5) (n+3) (n+4) n (n+1) (n+2):=by
 constructor <;> (show (_:Nat)≠(_:Nat)) <;> left
theorem kH {n l:Nat}(h:l<n):Ot (n+5) (n+3) (n+4) n (n+1) (n+2) l:=by
 exact⟨?_,?_,?_,?_,?_,?_⟩ <;> (show (_:Nat)≠(_:Nat)) <;> left
end
end Z3
namespace L3
open PySem PySem.Spec PyProof.Rows L2
def Itz3 (K:b8)(l1 l2 l3:o7):It :=
 ⟨λ i H=>∃ xs ys zs x y u,SqT K H l1 xs/\SqT K H l2 ys/\SqT K H l3 zs/\xs[i]?=some x/\ys[i]?=some y/\zs[i]?=some u,
  λ i H v H'=>∃ T x y u,H T=none/\v=.ref T/\H'=upd H T (.tup [x,y,u])/\(∀ xs,SqT K H l1 xs->xs[i]?=some x)/\(∀ ys,SqT K H l2 ys->ys[i]?=some y)/\(∀ zs,SqT K H l3 zs->zs[i]?=some u),
  λ i H=>∃ xs,SqT K H l1 xs/\xs.length<=i⟩
theorem yB {P:o9}{w:uaw}{K:b8}{elts:List uc7}{kk:Nat}{pos:Pos}{z TI TO i1 i2 i3 l1 l2 l3:o7}(D:Z3.At3 z TI TO i1 i2 i3)(o1:Z3.Ot z TI TO i1 i2 i3 l1)(o2:Z3.Ot z TI TO i1 i2 i3 l2)(o3:Z3.Ot z TI TO i1 i2 i3 l3) :
  L2.Turn P w K (.Tuple elts kk pos) (Itz3 K l1 l2 l3) [z,TI,TO,i1,i2,i3] z (λ i h=>Z3.Zt h z TI TO i1 i2 i3 l1 l2 l3 .none i) where
 mem:=by simp
 obj:=λ i h st b F=>by
  obtain⟨O,U,⟨_,_,_,q3⟩,q4,q5,q6⟩:=st;obtain⟨o4,e4,_,d4⟩:=q4;obtain⟨o5,e5,_,d5⟩:=q5;obtain⟨o6,e6,_,d6⟩:=q6;simp only [j4,l7,or_false] at F;rcases F with rfl | rfl | rfl | rfl | rfl | rfl
  ·exact⟨_,O,λ v q=>by cases q⟩
  ·exact⟨_,U,λ v q=>by cases q⟩
  ·exact⟨_,q3,λ v q=>by cases q⟩
  ·exact⟨_,e4,λ v q=>by rw[d4] at q;cases q⟩
  ·exact⟨_,e5,λ v q=>by rw[d5] at q;cases q⟩
  ·exact⟨_,e6,λ v q=>by rw[d6] at q;cases q⟩
 keep:=λ i h h' st k=>by
  obtain⟨O,U,⟨a,b,c,q3⟩,q4,q5,q6⟩:=st;exact⟨k z (by simp) _ O,k TI (by simp) _ U,⟨a,b,c,k TO (by simp) _ q3⟩,Z3.bO q4 λ o e=>k i1 (by simp) o e,Z3.bO q5 λ o e=>k i2 (by simp) o e,Z3.bO q6 λ o e=>k i3 (by simp) o e⟩
 item:=by
  intro X hP hw hK hc i pins s σ H E I hf st hg;subst hP hw hK;obtain⟨xs,ys,zs,x,y,u,O,U,q3,hx,hy,hu⟩:=hg;obtain⟨ac,r1,p1,z1⟩:=I.tuple O;obtain⟨an,r2,p2,z2⟩:=I.tuple U;obtain⟨am,r3,p3,z3⟩:=I.tuple q3;obtain⟨u1,ai,ad⟩:=r1.get hx;obtain⟨u2,al,aj⟩:=r2.get hy;obtain⟨u3,af,ak⟩:=r3.get hu;let aa:∀ b∈[z,TO,i1,i2,i3],FpOk X pins H b:=λ b F=>hf b (by
   simp only [j4,l7,or_false] at F ⊢;rcases F with rfl | rfl | rfl | rfl | rfl <;> simp)
  exact Z3.zct D o1 o2 o3 st p1 p2 p3 (x:=u1) (y:=u2) (u:=u3) (by simpa using ai) (by simpa using al) (by simpa using af) λ h' zd tp sz kp=>?_;let I1 : Inv X pins σ (upd H ‹128› (.tup [x, y, u])) { s with heap := h', toks := s.toks } := turnsTup (ch := [z, TO, i1, i2, i3]) (its := [u1, u2, u3]) I aa (λ b o F e => by
      simp only [j4,l7,or_false,not_or] at F;exact kp b o F.1 F.2.1 F.2.2.1 F.2.2.2.1 F.2.2.2.2 e) (i8 _) (by show 3<=p8;rw[ubn];decide) (.cons ad (.cons aj (.cons ak .nil))) ⟨_,tp,rfl,⟨_,rfl⟩,rfl⟩
  let fr:H ‹128›=none:=I.fresh;let ab:∀ b∈[z,TI,TO,i1,i2,i3],b≠‹128›:=λ b F e=>by
   let ae:∃ o,s.heap.get? b=some o:=by
    obtain⟨O,U,⟨_,_,_,q3⟩,⟨o4,e4,_⟩,⟨o5,e5,_⟩,⟨o6,e6,_⟩⟩:=st;simp only [j4,l7,or_false] at F;rcases F with rfl | rfl | rfl | rfl | rfl | rfl
    ·exact⟨_,O⟩
    ·exact⟨_,U⟩
    ·exact⟨_,q3⟩
    ·exact⟨_,e4⟩
    ·exact⟨_,e5⟩
    ·exact⟨_,e6⟩
   obtain⟨o,ho⟩:=ae;exact absurd (j5 ho) (by rw[e];exact ubz _)
  exact⟨A,wpAny_letOwnedTupleGo_zip zd.z λ h2 ah sb=>?_⟩;obtain⟨f0,f1,f2,f3,f4,f5⟩:=hf z (by simp);let I2:Inv X pins σ (upd H ‹128› (.tup [x,y,u])) { s with heap:=h2,toks:=s.toks }:=Inv.turned (s:={ s with heap:=h',toks:=s.toks }) (it:=z) (t':=s.toks) I1 (λ b o F e=>sb.extBut b o F e) (by rw[aL (ab z (by simp))];exact f0) f1 f3 f4 f5;exact⟨.ref ‹128›,_,I2,rfl,⟨_,x,y,u,fr,M,λ zs hz=>by rw[I.tuple_inj hz O];exact hx,λ zs hz=>by rw[I.tuple_inj hz U];exact hy,λ zs hz=>by rw[I.tuple_inj hz q3];exact hu⟩,?_,λ b F=>by rw[aL (ab b F)];exact (hf b F).1⟩;obtain⟨_,w2,⟨a3,b3,c3,w3⟩,w4,w5,w6⟩:=zd;exact⟨ah,sb.extBut _ _ D.n1 w2,⟨a3,b3,c3,sb.extBut _ _ D.n2 w3⟩,Z3.bO w4 λ o e=>sb.extBut _ _ D.n3 e,Z3.bO w5 λ o e=>sb.extBut _ _ D.n4 e,Z3.bO w6 λ o e=>sb.extBut _ _ D.n5 e⟩
 done:=by
  intro X hP hw hK hc i pins s σ H E I hf st hg;subst hP hw hK;obtain⟨xs,O,hx⟩:=hg;obtain⟨ac,r1,p1,z1⟩:=I.tuple O;let l1:=r1.length;let aa:∀ b∈[z,TO,i1,i2,i3],FpOk X pins H b:=λ b F=>hf b (by
   simp only [j4,l7,or_false] at F ⊢;rcases F with rfl | rfl | rfl | rfl | rfl <;> simp)
  exact Z3.zcs (I.ok.hd hc) D o1 st p1 (by simp;left) λ h' kp=>⟨rfl,?_⟩;exact turns (ch:=[z,TO,i1,i2,i3]) (t':=s.toks) I aa λ b o F e=>by
   simp only [j4,l7,or_false,not_or] at F;exact kp b o F.1 F.2.1 F.2.2.1 F.2.2.2.1 F.2.2.2.2 e
 self:=λ _ _ _ _ _ st h=>ud8 st.z h
def iZip3 (K:b8)(ta:TA):TI:=λ σ H R=>ta σ H λ vs H1=>∃ l1 l2 l3,vs=[.ref l1,.ref l2,.ref l3]/\(∃ xs,SqT K H1 l1 xs)/\(∃ ys,SqT K H1 l2 ys)/\(∃ zs,SqT K H1 l3 zs)/\R (Itz3 K l1 l2 l3) H1
theorem zcm {X:Cx}{elts:List uc7}{kk:Nat}{pos':Pos}{a b c:uc7}{ta:TA}{p pos:Pos}(hg:Gl X "zip")(hm:X.mg "zip"=none)(ha:PA X [a,b,c] ta)
  (hs:ubi [a,b,c] X.env=[(false,eval a X.env),(false,eval b X.env),(false,eval c X.env)]:=by rfl) (hs2:ubi [b,c] X.env=[(false,eval b X.env),(false,eval c X.env)]:=by rfl) :
  PI X (.Tuple elts kk pos') (.Call (.Name "zip" p) [a,b,c] [] pos) (iZip3 X.K ta):=by
 intro pins s σ H R I h;exact Call_ (cW I hg hm boot_zip (ubb (thn ‹77› λ us F ⟨vs,H1,O,r1,q1⟩=>?_) (by rw[hs,hs2]) (by rw[hs2];rfl)));obtain⟨l1,l2,l3,e,⟨xs,qx⟩,⟨ys,qy⟩,⟨zs,qz⟩,q⟩:=q1;subst e;cases r1 with
 | cons r rr =>
  cases rr with
  | cons r' rr =>
   cases rr with
   | cons r'' rr =>
    cases rr;cases r;cases r';cases r'';obtain⟨ab,r1,p1,z1⟩:=O.tuple qx;obtain⟨ac,r2,p2,z2⟩:=O.tuple qy;obtain⟨aa,r3,p3,z3⟩:=O.tuple qz;let lt:∀ {l:o7}{xs:Array i5},F.heap.IsTuple l xs->l<F.heap.objs.size:=λ {l xs} q=>by
     obtain⟨o,e,_⟩:=q;exact j5 e
    exact Z3.zY p1 p2 p3 λ h' zd sz kp=>ud8 zd.z ?_;let I2:Inv X pins σ H1 { F with heap:=h',toks:=F.toks }:=O.kept (t':=F.toks) kp;exact⟨F.heap.objs.size+5,[F.heap.objs.size+5,F.heap.objs.size+3,F.heap.objs.size+4,F.heap.objs.size,F.heap.objs.size+1,F.heap.objs.size+2],P,H1,rfl,I2,yB (Z3.zdd _) (Z3.kH (lt p1)) (Z3.kH (lt p2)) (Z3.kH (lt p3)),zd,λ b hb=>?_,q⟩;let U:F.heap.objs.size<=b:=by
     simp only [j4,l7,or_false] at hb;rcases hb with rfl | rfl | rfl | rfl | rfl | rfl
     ·exact ua5 _ _
     ·exact ua5 _ _
     ·exact ua5 _ _
     ·exact i8 _
     ·exact ua5 _ _
     ·exact ua5 _ _
    exact O.fpOk U (O.hok.fresh U)
section
variable {g:TG}{te:TE}{own:List Str}{js:List Nat}{σ:L2.St}{H1:Hp}{Q:VK}
theorem zU {K:b8}{a b c:o7}{xs ys zs:List V}(hx:H1 a=some (.tup xs))(hy:H1 b=some (.tup ys))(hz:H1 c=some (.tup zs))(Sg:L2.St->Prop)(R:Nat->V->Hp->Prop)(hn:xs.length<=1000)(e1:ys.length=xs.length)(e2:zs.length=xs.length)
  (h0:Sg ‹93›) (mono:∀ i v H H',TupKeep H H'->R i v H->R i v H')
  (step:∀ i x y z T σ' H',xs[i]?=some x->ys[i]?=some y->zs[i]?=some z->Same H1 H'->H' T=none->Sg σ'->∀ C:L2.St->V->Hp->Prop,(∀ σ3 v H5,Sg σ3->Same H' H5->R i v H5->C σ3 v H5)->g (.ref T) σ' (upd H' T (.tup [x,y,z])) λ σ3 H3=>te σ3 H3 λ v H5=>C σ3 v H5)
  (fin:∀ D vs H',H1 D=none->Same H1 H'->H' D=some (.lst vs)->vs.length=xs.length->(∀ i v,vs[i]?=some v->R i v H')->Q (.ref D) H'):CompGo own js g tTrue te σ Q (Itz3 K a b c) H1:=by
 exact fK xs.length Sg R hn h0 mono (λ i H' hi s=>⟨xs,ys,zs,xs[i],ys[i]'(by left),zs[i]'(by left),SqT.of (s _ _ hx),SqT.of (s _ _ hy),SqT.of (s _ _ hz),by simp [hi],by simp [show i<ys.length by left],by simp [show i<zs.length by left]⟩)
  (λ H' s=>⟨xs,SqT.of (s _ _ hx),i8 _⟩) (λ i x σ' H' H2 hi s q sg C hC=>?_) fin
 obtain⟨T,x1,F,U,O,rfl,rfl,f1,f2,f3⟩:=q;exact step i x1 F U T σ' H' (f1 _ (SqT.of (s _ _ hx))) (f2 _ (SqT.of (s _ _ hy))) (f3 _ (SqT.of (s _ _ hz))) s O sg C hC
end
section
variable {X:Cx}
end
end L3
namespace Lay9
open PySem
def it (m:Nat):Nat->Nat->Nat
 | 0,i=>i
 | n+1,i=>it m n ((i*5+1)%m)
def Full (m:Nat):Prop:=∀ i,i<m->∀ j,j<m->∃ n,n<m/\it m n i=j
theorem jB {mask:Nat}{ow:Array (Option Nat)}{f i p:Nat}(h:SetTable.layClean.free mask ow (f+1) i p=none):(ow.getD i (some 0)).isNone=false/\SetTable.layClean.free mask ow f ((i*5+1+p / 32)%(mask+1)) (p / 32)=none:=by
 unfold SetTable.layClean.free at h;split at h
 ·cases h
 ·rename_i e;exact⟨?_,h⟩;let r:i<=SetTable.runEnd mask i:=by unfold SetTable.runEnd;split <;> left
  let:=ubu.mp e 0 (m8.mpr (by left));rw[Nat.add_zero] at this;exact uce.mpr this
theorem mT {mask:Nat}{ow:Array (Option Nat)}:∀ {n f i:Nat},SetTable.layClean.free mask ow (f+n+1) i 0=none->(ow.getD (it (mask+1) n i) (some 0)).isNone=false
 | 0,f,i,h=>(jB h).1
 | n+1,f,i,h=>mT (n:=n) (f:=f) (by let:=(jB h).2;rw[Nat.add_zero] at this;exact this)
theorem mS {mask:Nat}{ow:Array (Option Nat)}:∀ {k f i p:Nat},p<32^k->SetTable.layClean.free mask ow (f+k) i p=none->i<mask+1->∃ i',i'<mask+1/\SetTable.layClean.free mask ow f i' 0=none
 | 0, f, i, p, hp, h, hi => ⟨i, hi, by let : p = 0 := by simpa using hp
                                       subst this;exact h⟩
 | k+1,f,i,p,hp,h,hi=>mS (k:=k) (f:=f) (p:=p / 32) (by rw[Nat.pow_succ] at hp;exact (Nat.div_lt_iff_lt_mul (by decide)).mpr hp) (jB h).2 (uhw _ (by left))
theorem zO {mask:Nat}{ow:Array (Option Nat)}(full:Full (mask+1)){j:Nat}(hj:j<mask+1)(free:ow.getD j (some 0)=none){i p:Nat}(hi:i<mask+1)(hp:p<2^64):∃ k,SetTable.layClean.free mask ow (SetTable.turns mask) i p=some k:=by
 cases e:SetTable.layClean.free mask ow (SetTable.turns mask) i p with
 | some k=>exact⟨k,rfl⟩
 | none =>
  let t:SetTable.turns mask=(mask+2)+13:=by unfold SetTable.turns;left
  rw[t] at e;obtain⟨F,q,z⟩:=mS (k:=13) (u7 hp (by decide)) e hi;obtain⟨n,O,en⟩:=full F q j hj;let:=mT (n:=n) (f:=mask+1-n) (by rw[show mask+1-n+n+1=mask+2 by left];exact z);rw[en,free] at this;cases this
theorem qC {mask:Nat}{ow:Array (Option Nat)}:∀ {f i p k:Nat},SetTable.layClean.free mask ow f i p=some k->ow.getD k (some 0)=none
 | 0,i,p,k,h=>by cases h
 | f+1,i,p,k,h=>by
  unfold SetTable.layClean.free at h;split at h
  ·rename_i d e;cases h;let:=ucj e;simpa using this
  ·exact qC h
theorem iI {m:Nat}:∀ {a b i:Nat},it m (a+b) i=it m b (it m a i)
 | 0,b,i=>by rw[Nat.zero_add];rfl
 | a+1,b,i=>by rw[Nat.add_right_comm];exact iI (a:=a)
def orb (m:Nat):Nat->Nat->List Nat
 | 0,_=>[]
 | n+1,i=>i::orb m n ((i*5+1)%m)
theorem pT {m:Nat}:∀ {n i j:Nat},j∈orb m n i->∃ b,b<n/\it m b i=j
 | 0,i,j,h=>by cases h
 | n+1,i,j,h=>by
  rcases j4.mp h with rfl | h
  ·exact⟨0,by left,rfl⟩
  ·obtain⟨b,q,e⟩:=pT h;exact⟨b+1,by left,e⟩
theorem eB {m:Nat}(h1:((d8 m).all λ j=>(orb m m 0).contains j)=true)(h2:it m m 0=0):Full m:=by
 let q:∀ j,j<m->∃ b,b<m/\it m b 0=j:=λ j z=>pT (uf6.mp (v8.mp h1 j (m8.mpr z)));intro i hi j z;obtain⟨a,ha,O⟩:=q i hi;obtain⟨b,U,F⟩:=q j z;by_cases c:a<=b
 ·refine⟨b-a,by left,?_⟩;rw[← O,← iI,show a+(b-a)=b by left];exact F
 ·refine⟨m-a+b,by left,?_⟩;rw[← O,← iI,show a+(m-a+b)=m+b by left,iI,h2];exact F
theorem full8:Full 8:=eB (by symm) (by symm)
theorem full16:Full 16:=eB (by symm) (by symm)
theorem full32:Full 32:=eB (by symm) (by symm)
theorem full64:Full 64:=eB (by symm) (by symm)
theorem full128:Full 128:=eB (by symm) (by symm)
theorem full256:Full 256:=eB (by symm) (by symm)
theorem full512:Full 512:=eB (by symm) (by symm)
theorem size_full {n:Nat}(h:n<512):Full (SetTable.sizeAbove n)/\n<SetTable.sizeAbove n/\SetTable.sizeAbove n<=512:=by
 let q:∀ f s,SetTable.sizeAbove.go n (f+1) s=if s<=n then SetTable.sizeAbove.go n f (s*2) else s:=λ _ _=>rfl
 unfold SetTable.sizeAbove;rw[q 63];split
 ·rw[q 62];split
  ·rw[q 61];split
   ·rw[q 60];split
    ·rw[q 59];split
     ·rw[q 58];split
      ·rw[q 57];split
       ·left
       ·exact⟨full512,by left,by decide⟩
      ·exact⟨full256,by left,by decide⟩
     ·exact⟨full128,by left,by decide⟩
    ·exact⟨full64,by left,by decide⟩
   ·exact⟨full32,by left,by decide⟩
  ·exact⟨full16,by left,by decide⟩
 ·exact⟨full8,by left,by decide⟩
theorem mU:∀ {l m:List Nat},l.Nodup->(∀ x∈l,x∈m)->l.length<=m.length
 | [],_,_,_=>uae _
 | a::l,m,nd,h=>by
  let F:=h a (l9 ..);let O:=uba.mp nd;let:=mU (l:=l) (m:=m.erase a) O.2 λ x q=>by
   have U:x≠a:=λ z=>O.1 (by rw[← z];exact q);exact (uet U).mpr (h x (j8 _ q))
  rw[ud5 F] at this;let pos:0<m.length:=List.length_pos_of_mem F;rw[uas];left
structure Own (mask:Nat)(ow:Array (Option Nat))(k:Nat):Prop where
 size:ow.size=mask+1
 lt:∀ j v,ow.getD j none=some v->v<k
 has:∀ v,v<k->∃ j,ow.getD j none=some v
 one:∀ j j' v,ow.getD j none=some v->ow.getD j' none=some v->j=j'
theorem nC {ow:Array (Option Nat)}{j:Nat}:ow.getD j (some 0)=none->j<ow.size/\ow.getD j none=none:=λ h=>by
 by_cases c:j<ow.size
 ·exact⟨c,?_⟩;simp only [uez,c,dif_pos] at h ⊢;exact h
 ·simp only [uez,c,dif_neg,not_false_eq_true] at h;cases h
theorem Own.free {mask k:Nat}{ow:Array (Option Nat)}(o:Own mask ow k)(hk:k<=mask):∃ j,j<mask+1/\ow.getD j (some 0)=none:=by
 by_cases c:∃ j,j<mask+1/\ow.getD j (some 0)=none
 ·exact c
 ·exfalso;let all:∀ j,j<mask+1->∃ v,ow.getD j none=some v:=λ j q=>by
   let hs:j<ow.size:=by rw[o.size];exact q
   cases e:ow.getD j none with
   | some v=>exact⟨v,rfl⟩
   | none =>
    exact absurd ⟨j,q,?_⟩ c;simp only [uez,hs,dif_pos] at e ⊢;exact e
  let l:=mU (l:=(d8 (mask+1)).map λ j=>(ow.getD j none).getD 0) (m:=d8 k) ?_ ?_
  ·rw[c9,uaa,uaa] at l;left
  ·rw[uhe,ua1];refine ucb ?_ (ubw (n:=mask+1));intro a b ha hb lt e;obtain⟨va,O⟩:=all a (m8.mp ha);obtain⟨vb,z⟩:=all b (m8.mp hb);rw[O,z] at e;have e:va=vb:=e;rw[← e] at z;have:=o.one _ _ _ O z;left
  ·intro x U;obtain⟨j,q,rfl⟩:=w8.mp U;obtain⟨v,F⟩:=all j (m8.mp q);rw[F];exact m8.mpr (o.lt _ _ F)
theorem Own.next {mask k j:Nat}{ow:Array (Option Nat)}(o:Own mask ow k)(hj:ow.getD j (some 0)=none):Own mask (ow.setIfInBounds j (some k)) (k+1):=by
 obtain⟨hs,O⟩:=nC hj;let q:∀ i,(ow.setIfInBounds j (some k)).getD i none=if i=j then some k else ow.getD i none:=λ i=>by
  rw[ubd,ubd,Array.getElem?_setIfInBounds];by_cases c:j=i
  ·subst c;rw[uh2 rfl,uh2 hs,uh2 rfl];rfl
  ·rw[uh3 c,uh3 (Ne.symm c)]
 exact⟨by rw[Array.size_setIfInBounds];exact o.size,λ i v h=>?_,λ v U=>?_,λ i i' v h h'=>?_⟩
 ·rw[q] at h;split at h
  ·cases h;left
  ·let:=o.lt _ _ h;left
 ·by_cases c:v=k
  ·exact⟨j,by rw[q,uh2 rfl,c]⟩
  ·obtain⟨i,hi⟩:=o.has v (by left);exact⟨i,?_⟩;rw[q,uh3 (λ z=>by rw[z,O] at hi;cases hi)];exact hi
 ·rw[q] at h h';split at h
  ·rename_i e;cases h;split at h'
   ·rename_i F;rw[e,F]
   ·exact absurd (o.lt _ _ h') (by left)
  ·split at h'
   ·cases h';exact absurd (o.lt _ _ h) (by left)
   ·exact o.one _ _ _ h h'
theorem zdc (h:Int):SetTable.bits h<2^64:=by
 unfold SetTable.bits;let:=uco h (show (0:Int)<2^64 by decide);let:=ucw h (show (2:Int)^64≠0 by decide);left
theorem oS {mask:Nat}(full:Full (mask+1)):∀ (hs:List Int)(ow:Array (Option Nat))(k:Nat),Own mask ow k->k+hs.length<=mask+1 ->
  ∃ ow',hs.foldl (λ (acc:Option (Array (Option Nat) × Nat)) h=>do
   let (owner,k) ← acc;let j ← SetTable.layClean.free mask owner (SetTable.turns mask) (SetTable.bits h%(mask+1)) (SetTable.bits h)
   pure (owner.setIfInBounds j (some k),k+1)) (some (ow,k))=some (ow',k+hs.length)/\Own mask ow' (k+hs.length)
 | [],ow,k,o,_=>⟨ow,rfl,o⟩
 | h::hs,ow,k,o,hk=>by
  rw[uas] at hk;obtain⟨j,O,F⟩:=o.free (by left);obtain⟨i,q⟩:=zO full O F (i:=SetTable.bits h%(mask+1)) (p:=SetTable.bits h) (uhw _ (by left)) (zdc h);have z:=qC q;obtain⟨ow',e,o'⟩:=oS full hs _ (k+1) (o.next z) (by left);refine⟨ow',?_,by rw[uas,show k+(hs.length+1)=k+1+hs.length by left];exact o'⟩;rw[List.foldl_cons,uas,show k+(hs.length+1)=k+1+hs.length by left,← e];show uhu _ (do let j ← SetTable.layClean.free mask ow (SetTable.turns mask) (SetTable.bits h%(mask+1)) (SetTable.bits h);pure (ow.setIfInBounds j (some k),k+1)) hs=_;rw[q];rfl
theorem yS (mask:Nat):Own mask (Array.replicate (mask+1) none) 0:=by
 let n:∀ j:Nat,(Array.replicate (mask+1) (none:Option Nat)).getD j none=none:=λ j=>by
  rw[ubd,Array.getElem?_replicate];split <;> rfl
 exact⟨by simp,λ j v h=>(by rw[n] at h;cases h),λ v h=>(by left),λ j q v h=>(by rw[n] at h;cases h)⟩
theorem uQ {mask:Nat}(full:Full (mask+1)){hs:Array Int}(h:hs.size<=mask+1):∃ ow,SetTable.layClean mask hs=some ow/\Own mask ow hs.size:=by
 obtain⟨ow,e,o⟩:=oS full hs.toList _ 0 (yS mask) (by simpa using h);refine⟨ow,?_,by simpa using o⟩;unfold SetTable.layClean;rw[← Array.foldl_toList];have:=congrArg (ue9 (·.1)) e;exact this
theorem laid_some {mask finger moves:Nat}{led plain:Bool}(full:Full (mask+1)){hs:Array Int}(h:hs.size<=mask+1) :
  ∃ t order,SetTable.laid mask finger moves led plain hs=some (t,order)/\order.toList.Perm (d8 hs.size)/\t.place.toList.Pairwise (·<·)/\t.place.size=hs.size/\t.led=led/\t.plain=plain/\t.mask=mask/\t.dummies=#[]/\t.finger=finger/\t.moves=moves:=by
 obtain⟨O,e,o⟩:=uQ full h;let pm:(‹100›.map (·.2)).Perm (d8 hs.size):=by
  let e2:‹100›.map (·.2)=(d8 (mask+1)).filterMap λ j=>O.getD j none:=by
   rw[udi];exact congrArg (λ g=>ufd g _) (funext λ j=>?_);cases O.getD j none <;> rfl
  rw[e2];exact (List.perm_ext_iff_of_nodup ?_ List.nodup_range).mpr λ v=>?_
  ·rw[uhe,uhx];exact ubw.imp λ lt v F v' q z=>?_;subst z;let:=o.one _ _ _ F q;left
  ·rw[ueb,m8];constructor
   ·rintro ⟨j,_,U⟩;exact o.lt _ _ U
   ·intro F;obtain⟨j,U⟩:=o.has v F;exact⟨j,m8.mpr ?_,U⟩;rcases ug1 j (mask+1) with z | z
    ·exact z
    ·rw[ubd,Array.getElem?_eq_none (by rw[o.size];exact z)] at U;cases U
 exact⟨P,by unfold SetTable.laid;rw[e];rfl,pm,?_,?_,M,M,M⟩
 ·show (‹100›.map (·.1)).Pairwise (·<·);rw[ua1,uhx];exact ubw.imp λ lt v F v' q=>?_;cases e1:O.getD _ none with
  | none=>rw[e1] at F;cases F
  | some x =>
   rw[e1] at F;cases F;rename_i b;cases e3:O.getD b none with
   | none=>rw[e3] at q;cases q
   | some y=>rw[e3] at q;cases q;exact lt
 ·let:=pm.length_eq;simpa using this
end Lay9
namespace Stb
open PySem PyProof.Rows
section
variable {prog:o9}{w:uaw}{A:uax}{E:i5->i6->Prop}{s:i6}
theorem lZ {es:Array (Int × i5)}{order:Array Nat}(pm:order.toList.Perm (d8 es.size)):(order.filterMap (es[·]?)).toList.Perm es.toList:=by
 let h:=pm.filterMap (es[·]?);rw[filterMap_getElem?_range] at h;simpa using h
theorem zci {a:o7}{S:Int->Bool}{n wanted:Nat}{Q:Unit->i6->Prop}(st:SetT prog w s.heap a S n)(hw:n<wanted)(hl:wanted<512)
  (fin:∀ h',Heap.SameBut a s.heap h'->SetT prog w h' a S n->Q () { s with heap:=h' }):j7 (v4 prog w) A (setRelay a wanted) Q E s:=by
 obtain⟨⟨o,es,ep,t,ho,ox,od,el,me,small,aj,en⟩,o',al,am,t',ac,ad,ti⟩:=st;rw[ho] at ac;cases ac;rw[od] at ad;cases ad;obtain⟨aa,gt,le⟩:=Lay9.size_full hl;let hm:SetTable.sizeAbove wanted-1+1=SetTable.sizeAbove wanted:=by left
 obtain⟨t2,F,e,pm,ak,sz,ae,ai,U,ab,_,_⟩:=Lay9.laid_some (mask:=SetTable.sizeAbove wanted-1) (finger:=t.finger) (moves:=t.movedTo (SetTable.sizeAbove wanted-1)) (led:=t.led) (plain:=t.plain) (hm ▸ aa) (hs:=es.map (·.1)) (by rw[uge,hm];left);rw[uge] at pm sz;have pe:=lZ pm;have O:(F.filterMap (es[·]?)).size=es.size:=by rw[← r8,pe.length_eq,r8]
 let ah:t2.fits (F.filterMap (es[·]?)).size=true:=by
  unfold SetTable.fits SetTable.fill;rw[O,sz,U,ab];simp;left
 unfold setRelay;exact a7 (uar ho od aj ?_);let af:¬ SetTable.sizeAbove wanted>p8:=by rw[ubn];left
 let er:t.relaid (es.map (·.1)) wanted=some (t2,F):=e;dsimp only;rw[uh3 af,er];exact a7 ?_
 wp_delta
 let nb:((F.filterMap (es[·]?)).size != es.size)=false:=by rw[O];simp
 dsimp only;rw[nb];exact u4 ‹40› λ _=>?_;exact c7 (ucz ho od ?_ (uc0 (O ▸ small)));obtain⟨g1,s1⟩:=ufg (knd:=intKind prog w) ho ox od (el.perm pe) (λ k=>(me k).trans ⟨λ ⟨e,he,q⟩=>⟨e,pe.mem_iff.mpr he,q⟩,λ ⟨e,he,q⟩=>⟨e,pe.mem_iff.mp he,q⟩⟩) (O ▸ small) ah;rw[O,en] at s1;exact fin _ (ua8 s.heap a _) ⟨s1,P,P,g1,rfl,Asc.list.mpr ak,ae.trans ti.2⟩
theorem zds {a:o7}{S:Int->Bool}{n more:Nat}{Q:Unit->i6->Prop}(st:SetT prog w s.heap a S n)(hm:0<more)(hl:(n+more)*2<512)
  (fin:∀ h',Heap.SameBut a s.heap h'->SetT prog w h' a S n->Q () { s with heap:=h' }):j7 (v4 prog w) A (setRoomFor a more) Q E s:=by
 obtain⟨o,es,ep,t,ho,ox,F,el,me,small,q,en⟩:=st.1;let U:t.place.size=n:=by
  simp only [SetTable.fits,m7,beq_iff_eq] at q;rw[q.1];exact en
 unfold setRoomFor;exact a7 (uar ho F q ?_);dsimp only;unfold SetTable.roomFor;split
 ·rename_i z e;split at e
  ·cases e;exact zci st (by left) (by left) fin
  ·cases e
 ·let O:s={ s with heap:=s.heap }:=by cases s;rfl
  exact c7 (by rw[O];exact fin _ (ubq _ _) st)
end
end Stb
namespace Stb
open PySem PyProof.Rows
section
variable {prog:o9}{w:uaw}{A:uax}{E:i5->i6->Prop}{s:i6}
def Fr (w:uaw)(h:Heap)(a:o7)(m:Nat):Prop:=∃ o ep t,h.get? a=some o/\o.ExactSet/\o.data=.set #[] ep t/\t.place=#[]/\t.dummies=#[]/\Lay9.Full (t.mask+1)/\t.led=ledOf w/\m<=t.mask
theorem kE {t:SetTable}(h1:t.place=#[])(h2:t.dummies=#[]):t.fits 0=true:=by
 unfold SetTable.fits SetTable.fill;rw[h1,h2];simp
theorem zcg {a:o7}{more:Nat}{Q:Unit->i6->Prop}(fr:Fr w s.heap a 0)(hm:0<more)(hl:more*2<512)
  (fin:∀ h',Heap.SameBut a s.heap h'->Fr w h' a more->Q () { s with heap:=h' }):j7 (v4 prog w) A (setRoomFor a more) Q E s:=by
 obtain⟨o,ep,t,ho,ox,od,pl,du,aa,led,_⟩:=fr;let ab:=kE pl du;unfold setRoomFor;exact a7 (uar ho od ab ?_);dsimp only;unfold SetTable.roomFor;let f0:t.fill=0:=by unfold SetTable.fill;rw[pl,du];rfl
 split
 ·rename_i ai e;rw[f0,pl] at e;split at e
  ·cases e;let ew:((#[]:Array Nat).size+more)*2=more*2:=by simp
   rw[ew];obtain⟨F,gt,le⟩:=Lay9.size_full hl;let ad:SetTable.sizeAbove (more*2)-1+1=SetTable.sizeAbove (more*2):=by left
   obtain⟨U,O,e,pm,aj,sz,ae,ah,q,ac,_,_⟩:=Lay9.laid_some (mask:=SetTable.sizeAbove (more*2)-1) (finger:=t.finger) (moves:=t.movedTo (SetTable.sizeAbove (more*2)-1)) (led:=t.led) (plain:=t.plain) (ad ▸ F) (hs:=(#[]:Array (Int × i5)).map (·.1)) (by simp);let er:t.relaid ((#[]:Array (Int × i5)).map (·.1)) (more*2)=some (U,O):=e;unfold setRelay;exact a7 (uar ho od ab ?_);let af:¬ SetTable.sizeAbove (more*2)>p8:=by rw[ubn];left
   dsimp only;rw[uh3 af,er];exact a7 ?_
   wp_delta
   let o0:O=#[]:=by
    let:=pm.length_eq;simp at this;exact this
   subst o0;dsimp only;exact u4 ‹40› λ _=>?_;exact c7 (ucz ho od ?_ (uae _));let hg:(s.heap.update a (Obj.putSet #[] U)).get? a=some { o with data:=.set #[] (ep+1) U }:=by
    let:=ua7 (Obj.putSet #[] U) ho (by rw[putSet_of #[] U od];rfl);rw[putSet_of #[] U od] at this;exact this
   let p0:U.place=#[]:=by
    let:=sz;simp at this;exact this
   exact fin _ (ua8 s.heap a _) ⟨P,_,hg,ox,rfl,p0,ac,by rw[q,ad];exact F,ae.trans led,by rw[q];left⟩
  ·cases e
 ·rename_i e;rw[f0,pl] at e;by_cases c:(0+more)*5 ≥ t.mask*3
  ·rw[uh2 c] at e;exact (e _ rfl).elim
  ·let e0:s={ s with heap:=s.heap }:=by cases s;rfl
   exact c7 (by rw[e0];exact fin _ (ubq _ _) ⟨o,ep,t,ho,ox,od,pl,du,aa,led,by left⟩)
theorem jM {a b:o7}{S:Int->Bool}{n:Nat}{each:Sem Unit}{Q:Unit->i6->Prop}(ne:a≠b)(fr:Fr w s.heap a 0)(st:SetT prog w s.heap b S n)(hl:n*2<512)
  (fin:∀ h',Heap.SameBut a s.heap h'->SetT prog w h' a S n->Q () { s with heap:=h' }):j7 (v4 prog w) A (setMerge a b each) Q E s:=by
 obtain⟨⟨o,es,ep,t,ho,ox,od,el,me,small,al,en⟩,o',aw,ax,t',an,ap,ti⟩:=id st;rw[ho] at an;cases an;rw[od] at ap;cases ap;unfold setMerge;let nb:(a==b)=false:=by simpa using ne
 rw[nb];exact u4 ‹40› λ _=>?_;exact a7 (uar ho od al ?_);dsimp only;exact u4 (λ z=>?_) λ z=>?_
 ·let e0:es=#[]:=by simpa using z
  subst e0;obtain⟨oa,ai,ta,O,ae,F,ab,af,_,ac,_⟩:=fr;let e1:s={ s with heap:=s.heap }:=by cases s;rfl
  let aj:Asc ta.place:=by
   rw[ab];intro i j _ h;simp at h
  exact c7 (by rw[e1];exact fin _ (ubq _ _) ⟨⟨oa,#[],ai,ta,O,ae,F,el,me,small,kE ab af,en⟩,oa,#[],ai,ta,O,F,aj,ac⟩)
 ·let pos:0<es.size:=by
   let:es≠#[]:=by simpa using z
   exact Array.size_pos_iff.mpr this
  exact a7 (zcg fr pos (by left) λ h1 ao au=>?_);obtain⟨oa,ai,ta,O,ae,F,ab,af,ak,ac,av⟩:=au;exact a7 (uar O F (kE ab af) ?_);dsimp only;let f0:ta.fill=0:=by unfold SetTable.fill;rw[ab,af];rfl
  let rd:ta.road t=if ta.mask==t.mask&&t.dummies.isEmpty then .slotForSlot else .clean:=by
   unfold SetTable.road;rw[f0];rfl
  rw[rd];let ledB:(ta.led&&t.led)=ledOf w:=by rw[ac,ti.2,Bool.and_self]
  by_cases c:(ta.mask==t.mask&&t.dummies.isEmpty)=true
  ·rw[uh2 c];dsimp only;exact ucz O F ?_ (uc0 small);let ad:SetTable.fits { t with finger:=ta.finger,led:=ta.led&&t.led,moves:=ta.moves,plain:=ta.plain&&t.plain } es.size=true:=al;obtain⟨g1,s1⟩:=ufg (knd:=intKind prog w) O ae F el me small ad;rw[en] at s1;exact fin _ (ao.trans (ua8 _ a _)) ⟨s1,P,P,g1,rfl,ti.1,ledB⟩
  ·rw[uh3 c];dsimp only;obtain⟨t2,U,e,pm,aj,sz,aq,ar,ah,am,_,_⟩:=Lay9.laid_some (mask:=ta.mask) (finger:=ta.finger) (moves:=ta.moves) (led:=ta.led&&t.led) (plain:=ta.plain&&t.plain) ak (hs:=es.map (·.1)) (by rw[uge];left);rw[uge] at pm sz;have pe:=lZ pm;have aa:(U.filterMap (es[·]?)).size=es.size:=by rw[← r8,pe.length_eq,r8]
   let ad:t2.fits (U.filterMap (es[·]?)).size=true:=by
    unfold SetTable.fits SetTable.fill;rw[aa,sz,ah,am];simp;left
   rw[e];exact a7 ?_
   wp_delta
   let nb:((U.filterMap (es[·]?)).size != es.size)=false:=by rw[aa];simp
   dsimp only;rw[nb];exact u4 ‹40› λ _=>?_;exact c7 (ucz O F ?_ (uc0 (aa ▸ small)));obtain⟨g1,s1⟩:=ufg (knd:=intKind prog w) O ae F (el.perm pe) (λ k=>(me k).trans ⟨λ ⟨e,he,q⟩=>⟨e,pe.mem_iff.mpr he,q⟩,λ ⟨e,he,q⟩=>⟨e,pe.mem_iff.mp he,q⟩⟩) (aa ▸ small) ad;rw[aa,en] at s1;exact fin _ (ao.trans (ua8 _ a _)) ⟨s1,P,P,g1,rfl,Asc.list.mpr aj,aq.trans ledB⟩
end
end Stb
namespace Stb
open PySem PyProof.Rows
def Cn (S:Int->Bool)(n:Nat):Prop:=∃ l:List Int,l.Nodup/\l.length=n/\∀ k,S k=true↔k∈l
theorem Cn.add {S:Int->Bool}{n:Nat}(c:Cn S n)(k:Int):Cn (λ y=>S y||decide (y=k)) (if S k then n else n+1):=by
 obtain⟨l,nd,F,q⟩:=c;cases e:S k with
 | true =>
  refine⟨l,nd,by rw[uh2 rfl];exact F,λ y=>?_⟩;rw[uc6,decide_eq_true_eq,← q y];exact⟨λ z=>z.elim id λ y=>y ▸ e,.inl⟩
 | false =>
  exact⟨l++[k],?_,by rw[i7,F];rfl,λ y=>?_⟩
  ·exact udp.mpr ⟨nd,by simp,λ a U b O z=>?_⟩;rw[u5.mp O] at z;let:=(q k).mpr (z ▸ U);rw[e] at this;cases this
  ·rw[uc6,decide_eq_true_eq,uat,u5,q y]
section
variable {prog:o9}{w:uaw}{A:uax}{E:i5->i6->Prop}{s:i6}
theorem xZ {a:o7}{es:Array (Int × i5)}{ep:Nat}{t:SetTable}{Q:Array (Int × i5)->i6->Prop}{o:Obj}(ho:s.heap.get? a=some o)(od:o.data=.set es ep t)(fit:t.fits es.size=true)(led:t.led=ledOf w)
  (h:∀ ord d',ord.toList.Perm es.toList->Q ord { s with drawn:=d' }):j7 (v4 prog w) A (setWalk a) Q E s:=by
 let q:s={ s with drawn:=s.drawn }:=by cases s;rfl
 unfold setWalk setsByText;exact a7 (uar ho od fit ?_);exact a7 (a7 (ub4 (c7 ?_)));dsimp only;exact u4 (λ z=>?_) λ z=>?_
 ·exact a7 (ub4 (c7 ?_));rw[q];exact h _ _ (mR _ _)
 ·let lt:ledOf w=true:=by
   let z':w.params.followText "set-order"=false:=uce.mpr z;unfold ledOf;rw[z'];rfl
  exact u4 (λ F=>?_) λ F=>?_
  ·exact a7 (lJ _ _ _ _ (by simp) λ ys d' U=>c7 (h _ d' (by simpa using U)))
  ·exact a7 ?_
   wp_delta
   rw[led,lt];exact u4 (λ O=>absurd O (by simp)) λ _=>?_;exact c7 (c7 ?_);rw[q];exact h _ _ (ue2 _)
theorem mG {α β:Type}(b:β)(f:α->β->Sem (ForInStep β)):∀ es:List α,(∀ x∈es,f x b=pure (.yield b))->forIn es b f=(pure b:Sem β)
 | [],_=>by rw[ub6]
 | x::es,hf=>by
  rw[ubr,hf x l9];show forIn es b f=pure b;exact mG b f es λ y q=>hf y (j8 _ q)
theorem nD {α β:Type}(b:β)(f:α->β->Sem (ForInStep β))(es:Array α)(hf:∀ x∈es.toList,f x b=pure (.yield b)):forIn es b f=(pure b:Sem β):=by
 rw[← ugm];exact mG b f _ hf
theorem gZ {es:List (Int × i5)}(el:ElemsOf ‹44› es){e:Int × i5}(he:e∈es):∃ k t,e.2=.int k t/\‹44›.is k e.2=true/\e.1=‹44›.hash k/\e.2.scannable=true:=by
 obtain⟨⟨k,h1,h2⟩,h3⟩:=el e he;obtain⟨t,z⟩:∃ t,e.2=.int k t:=by
  obtain⟨F,x⟩:=e;let q:Value.isInt k x=true:=h1;cases x <;> simp [Value.isInt] at q;rename_i i t;exact⟨t,by rw[q]⟩
 exact⟨k,t,z,h1,h2,h3⟩
theorem zck {a b:o7}{S S':Int->Bool}{n m:Nat}{Q:Bool->i6->Prop}(sa:SetT prog w s.heap a S n)(sb:SetT prog w s.heap b S' m)(h:Q true s):j7 (v4 prog w) A (setsQuiet [a,b]) Q E s:=by
 obtain⟨oa,ea,ad,ta,O,_,U,aa,_,_,q,_⟩:=sa.1;obtain⟨ob,eb,ae,tb,F,_,ab,ac,_,_,z,_⟩:=sb.1;let go : ∀ {es : Array (Int × i5)}, ElemsOf ‹44› es.toList → ∀ (x : Int × i5), x∈es.toList → (match x.2 with
     | Value.ref a=>do
       let r ← specialOf x.2 (uai "__eq__")
       if (r != some (Value.builtin "object.__eq__"))=true then pure (ForInStep.done (some false,()))
       else pure (ForInStep.yield (none,()))
     | x=>(pure (ForInStep.yield (none,())):Sem (ForInStep (Option Bool × Unit))))=pure (.yield (none,())):=λ el x hx=>by
  obtain⟨k,t,e,_⟩:=gZ el hx;rw[e]
 unfold setsQuiet;simp only [ubr,ub6];exact a7 (a7 (a7 (uc3 O U q ?_)));rw[nD _ _ _ (go aa)];exact a7 (c7 (c7 ?_));dsimp only;exact a7 (a7 (uc3 F ab z ?_));rw[nD _ _ _ (go ac)];exact a7 (c7 (c7 (c7 (c7 h))))
theorem nY {a b:o7}{S S':Int->Bool}{n m:Nat}{Q:Array (Int × i5)->i6->Prop}(ne:a≠b)(sa:SetT prog w s.heap a S n)(sb:SetT prog w s.heap b S' m){ob:Obj}{eb:Array (Int × i5)}{epb:Nat}{tb:SetTable}(hob:s.heap.get? b=some ob)(odb:ob.data=.set eb epb tb)
  (h:∀ ord h' d',ord.toList.Perm eb.toList->Heap.SameBut a s.heap h'->SetT prog w h' a S n->Q ord { s with heap:=h',drawn:=d' }):j7 (v4 prog w) A (setWalkUnseen b [a] (some a)) Q E s:=by
 obtain⟨⟨o,es,ep,t,ho,ox,od,el,me,small,ad,en⟩,o',ap,aq,t',ae,af,ti⟩:=id sb;rw[ho] at ae;cases ae;rw[od] at af;cases af;obtain rfl:o=ob:=uaz (ho.symm.trans hob);obtain⟨rfl,rfl,rfl⟩:es=eb/\ep=epb/\t=tb:=by
  let:=od.symm.trans odb;injection this with a b c;exact⟨a,b,c⟩
 let e0:∀ d,({ s with drawn:=d }:i6)={ s with heap:=s.heap,drawn:=d }:=λ d=>rfl;let wk:∀ {Q':Array (Int × i5)->i6->Prop},(∀ ord d',ord.toList.Perm es.toList->Q' ord { s with drawn:=d' })->j7 (v4 prog w) A (setWalk b) Q' E s:=λ h=>xZ ho od ad ti.2 h;let ac:∀ ord d',ord.toList.Perm es.toList->Q ord { s with drawn:=d' }:=λ ord d' pm=>by rw[e0];exact h ord s.heap d' pm (ubq _ _) sa
 unfold setWalkUnseen setsByText;exact a7 (uar ho od ad ?_);exact a7 (a7 (ub4 (c7 ?_)));dsimp only;exact u4 (λ z=>wk ac) λ z=>?_;exact a7 (zck sb sa ?_);exact u4 ‹40› λ _=>?_;exact a7 (uca ?_);obtain⟨⟨oa,ea,an,ta,O,ai,F,al,ak,q,U,aj⟩,ar,au,am,ao,ab,aa,ah⟩:=id sa;rw[O] at ab;cases ab;rw[F] at aa;cases aa;exact a7 (uar O F U ?_);dsimp only;exact u4 (λ z=>?_) λ z=>?_
 ·exact a7 (ucz O F (c7 ?_) (uc0 q));obtain⟨g1,s1⟩:=ufg (knd:=intKind prog w) (t':={ ta with led:=ta.led&&t.led,plain:=ta.plain&&t.plain }) O ai F al ak q U;rw[aj] at s1;exact h es _ s.drawn (ue2 _) (ua8 _ a _) ⟨s1,P,P,g1,rfl,ah.1,by show (ta.led&&t.led)=_;rw[ah.2,ti.2,Bool.and_self]⟩
 ·exact c7 (ac es s.drawn (ue2 _))
end
end Stb
namespace Stb
open PySem PyProof.Rows
section
variable {prog:o9}{w:uaw}{A:uax}{E:i5->i6->Prop}{s:i6}
theorem qU {a b:o7}{each:Sem Unit}{ob:Obj}{eb:Array (Int × i5)}{epb:Nat}{tb:SetTable}(ne:a≠b)(odb:ob.data=.set eb epb tb)(fitb:tb.fits eb.size=true)(elb:ElemsOf ‹44› eb.toList)
  (heach:∀ (z:i6)(U:Unit->i6->Prop),z.heap.get? b=some ob->U () z->j7 (v4 prog w) A each U E z) :
  ∀ (l:List (Int × i5))(s:i6)(S:Int->Bool)(n:Nat)(Q:Unit->i6->Prop),(∀ e∈l,e∈eb.toList)->s.heap.get? b=some ob->SetT prog w s.heap a S n->Cn S n->n+l.length+1<scanBound ->
  (∀ h' S2 n2,Heap.SameBut a s.heap h'->SetT prog w h' a S2 n2->Cn S2 n2->(∀ k,S2 k=true↔S k=true\/∃ e∈l,‹44›.is k e.2=true)->Q () { s with heap:=h' }) ->
  j7 (v4 prog w) A (forIn l PUnit.unit λ x (_:PUnit)=>do
   let _ ← holding [x.2] (setAddHashed a x.2 x.1)
   each
   let st ← setState b
   if (st.2.1 != epb)=true then do
    (unsupported "set.changed-during-merge":Sem PUnit)
    pure (ForInStep.yield PUnit.unit)
   else pure (ForInStep.yield PUnit.unit)) Q E s
 | [],s,S,n,Q,_,_,st,c,_,fin=>by
  rw[ub6];let e0:s={ s with heap:=s.heap }:=by cases s;rfl
  exact c7 ?_;rw[e0];exact fin s.heap S n (ubq _ _) st c λ k=>by simp
 | e::l,s,S,n,Q,hl,hb,st,c,room,fin=>by
  rw[ubr];obtain⟨k,t,ek,h1,h2,h3⟩:=gZ elb (hl e l9);rw[uas] at room;exact a7 (a7 (uak ?_));rw[h2];exact kX h1 h3 st (by left) λ h' sb ab=>?_;let q:h'.get? b=some ob:=sb.extBut _ _ ne.symm hb;exact a7 (heach _ _ q ?_);exact a7 (uar q odb fitb ?_);let nb:(epb != epb)=false:=by simp
  dsimp only;rw[nb];exact u4 ‹40› λ _=>c7 ?_;dsimp only;exact qU ne odb fitb elb heach l { s with heap:=h' } _ _ _ (λ y hy=>hl y (j8 _ hy)) q ab (c.add k) (by split <;> left) λ O S2 n2 sb2 aa c2 m2=>?_;exact fin O S2 n2 (sb.trans sb2) aa c2 λ y=>?_;rw[m2 y,uc6,decide_eq_true_eq,or_assoc];let ky:y=k↔‹44›.is y e.2=true:=by
   rw[ek];show y=k↔Value.isInt y (.int k t)=true;simp [Value.isInt];exact⟨λ z=>z.symm,λ z=>z.symm⟩
  constructor
  ·rintro (z | z | ⟨x,F,z⟩)
   ·exact .inl z
   ·exact .inr ⟨e,l9,ky.mp z⟩
   ·exact .inr ⟨x,j8 _ F,z⟩
  ·rintro (z | ⟨x,F,z⟩)
   ·exact .inl z
   ·rcases j4.mp F with rfl | F
    ·exact .inr (.inl (ky.mpr z))
    ·exact .inr (.inr ⟨x,F,z⟩)
theorem zcu {a b:o7}{S S':Int->Bool}{n m:Nat}{each:Sem Unit}{Q:Unit->i6->Prop}(ne:a≠b)(sa:SetT prog w s.heap a S n)(sb:SetT prog w s.heap b S' m)(ca:Cn S n)(n0:0<n)(hl:(n+m)*2<512)
  (heach:∀ (ob:Obj)(z:i6)(U:Unit->i6->Prop),s.heap.get? b=some ob->z.heap.get? b=some ob->U () z->j7 (v4 prog w) A each U E z)
  (fin:∀ h' d' S2 n2,Heap.SameBut a s.heap h'->SetT prog w h' a S2 n2->Cn S2 n2->(∀ k,S2 k=true↔S k=true\/S' k=true)->Q () { s with heap:=h',drawn:=d' }):j7 (v4 prog w) A (setMerge a b each) Q E s:=by
 obtain⟨⟨o,es,ep,t,ho,ox,od,el,me,small,ab,en⟩,o',av,ax,t',ac,ae,ti⟩:=id sb;rw[ho] at ac;cases ac;rw[od] at ae;cases ae;unfold setMerge;let nb:(a==b)=false:=by simpa using ne
 rw[nb];exact u4 ‹40› λ _=>?_;exact a7 (uar ho od ab ?_);dsimp only;let e0:s={ s with heap:=s.heap,drawn:=s.drawn }:=by cases s;rfl
 exact u4 (λ z=>?_) λ z=>?_
 ·let ez:es=#[]:=by simpa using z
  subst ez;let no:∀ k,S' k=true↔False:=λ k=>(me k).trans (by simp);exact c7 ?_;rw[e0];exact fin s.heap s.drawn S n (ubq _ _) sa ca λ k=>by rw[no k];simp
 ·let pos:0<es.size:=by
   let:es≠#[]:=by simpa using z
   exact Array.size_pos_iff.mpr this
  exact a7 (zds sa pos (by left) λ h1 aa ad=>?_);let af:h1.get? b=some o:=aa.extBut _ _ ne.symm ho;obtain⟨oa,ea,au,ta,ao,aw,ak,aB,az,ai,F,am⟩:=ad.1;exact a7 (uar ao ak F ?_);dsimp only;let aq:ta.place.size=n:=by
   simp only [SetTable.fits,m7,beq_iff_eq] at F;rw[F.1];exact am
  let rd:ta.road t=.oneByOne:=by
   unfold SetTable.road;let:(ta.fill != 0)=true:=by
    unfold SetTable.fill;rw[aq];let:n+ta.dummies.size≠0:=by left
    simpa using this
   rw[uh2 this]
  rw[rd];dsimp only;have aj:SetT prog w h1 b S' m:=sb.keep λ x hx=>aa.extBut _ _ ne.symm hx;refine a7 (nY (s:={ s with heap:=h1 }) ne ad aj af od λ O h2 d2 pm sb2 an=>?_);have ap:h2.get? b=some o:=sb2.extBut _ _ ne.symm af;rw[← ugm];have ay:O.toList.length=m:=by rw[pm.length_eq,r8,en]
  let sc:600<=scanBound:=by unfold scanBound;decide
  let ah:n+O.toList.length+1<scanBound:=by left
  exact a7 (qU ne od ab el (λ z U hz hU=>heach o z U ho hz hU) O.toList { s with heap:=h2,drawn:=d2 } S n _ (λ e he=>pm.mem_iff.mp he) ap an ca ah λ h3 S2 n2 ar al c3 m3=>c7 ?_);exact fin h3 d2 S2 n2 (aa.trans (sb2.trans ar)) al c3 λ k=>?_;rw[m3 k,me k];exact or_congr Iff.rfl ⟨λ ⟨e,he,q⟩=>⟨e,pm.mem_iff.mp he,q⟩,λ ⟨e,he,q⟩=>⟨e,pm.mem_iff.mpr he,q⟩⟩
end
end Stb
namespace Stb
open PySem PyProof.Rows
theorem zeq:entryFor table "set.__or__"=some Builtin.«frozenset.__or__»:=ugu (id':="frozenset.__or__") ‹113› rfl (by symm) ‹113›
section
variable {prog:o9}{w:uaw}{A:uax}{E:i5->i6->Prop}{s:i6}
theorem eG {a:o7}{Q:Bool->i6->Prop}(hT:s.TypeIs (.ref a) "set")(h:Q true s):j7 (v4 prog w) A (Builtin.Frozenset.isAnySet (.ref a)) Q E s:=by
 unfold Builtin.Frozenset.isAnySet;unfold orM;exact a7 (ub3 (T:="set") (b:=true) hT (by rw[ud7];kernel_rfl) ?_);exact c7 h
theorem SetT.typ {h:Heap}{a:o7}{S:Int->Bool}{n:Nat}(st:SetT prog w h a S n):∃ o,h.get? a=some o/\o.cls=.type "set":=by
 obtain⟨⟨o,es,ep,t,z,q,F,_⟩,_⟩:=st;exact⟨o,z,q.1⟩
theorem zeu {a b:o7}{S S':Int->Bool}{n m:Nat}{Q:i5->i6->Prop}(sa:SetT prog w s.heap a S n)(sb:SetT prog w s.heap b S' m)(ca:Cn S n)(cb:Cn S' m)(hl:(n+m)*2<512)(ne:a≠b)
  (fin:∀ h' d' S2 n2,(∀ c o,s.heap.get? c=some o->h'.get? c=some o)->SetT prog w h' ‹128› S2 n2->Cn S2 n2->(∀ k,S2 k=true↔S k=true\/S' k=true)->Q ‹32› { s with heap:=h',drawn:=d' }) :
  j7 (v4 prog w) A (binaryOp .BitOr (.ref a) (.ref b)) Q E s:=by
 obtain⟨oa,av,aL⟩:=sa.typ;obtain⟨ob,an,aI⟩:=sb.typ;let tA:s.TypeIs (.ref a) "set":=⟨oa,av,aL⟩;let tB:s.TypeIs (.ref b) "set":=⟨ob,an,aI⟩;exact wpAny_binaryOp_same (op:=.BitOr) (T:="set") tA tB PySem.F.fills_set_or PySem.F.slot_set_or ?_;exact uaf PySem.F.slot_set_or tA zeq ?_ (PySem.F.args_set_or_2 _ _);unfold Builtin.«frozenset.__or__»
 wp_delta
 exact a7 (m:=Builtin.Frozenset.slot1 "__or__" { pos:=[Value.ref a,Value.ref b] }) (c7 ?_);dsimp only;rw[uh3 (by decide)];dsimp only;unfold andM;exact a7 (a7 (eG tA ?_));exact eG tB ?_;exact u4 ‹40› λ _=>?_;exact a7 (m:=Builtin.Frozenset.addrOf (.ref a)) (c7 ?_);exact a7 ?_
 wp_delta
 refine a7 ?_;unfold Builtin.Frozenset.copyOf Builtin.Frozenset.baseOf;refine a7 (a7 (ub3 (T:="set") (b:=true) tA (by rw[ud7];kernel_rfl) (c7 ?_)));rw[uh2 rfl];unfold newSet setsByText;refine a7 (a7 (a7 (ub4 (c7 (uac ?_)))));have lo:(!(v4 prog w).w.params.followText "set-order")=ledOf w:=rfl;rw[lo];generalize hR:‹128›=R;rw[hR] at fin;have af:‹50›.get? R=some { cls:=.type "set",data:=.set #[] 0 (.fresh 0 0 (ledOf w)) }:=by rw[← hR];exact i9 _ rfl
 have up:∀ c o,s.heap.get? c=some o->‹50›.get? c=some o:=λ c o e=>a9 _ e;have nR:∀ c o,s.heap.get? c=some o->c≠R:=λ c o e=>by rw[← hR];exact k8 (j5 e)
 generalize s.heap.push { cls:=.type "set",data:=.set #[] 0 (.fresh 0 0 (ledOf w)) }=h1 at af up ⊢;let full8:Lay9.Full 8:=by
  let:=(Lay9.size_full (n:=1) (by decide)).1;exact this
 let fr:Fr w h1 R 0:=⟨_,_,_,af,⟨rfl,rfl,rfl⟩,rfl,rfl,rfl,full8,rfl,uae _⟩;let ao:SetT prog w h1 a S n:=sa.keep λ x hx=>up _ _ hx;let aN:SetT prog w h1 b S' m:=sb.keep λ x hx=>up _ _ hx;let ar:=nR a oa av;let aj:=nR b ob an;let aw:(Value.ref b != Value.ref a)=true:=by
  let:Value.ref b≠Value.ref a:=λ z=>by injection z with z;exact ne z.symm
  simpa using this
 let ea:∀ (aa:Obj)(es:Array (Int × i5))(ep:Nat)(t:SetTable),aa.data=.set es ep t->t.fits es.size=true->∀ (z:i6)(U:Unit->i6->Prop),z.heap.get? b=some aa->U () z->j7 (v4 prog w) A.in1 (Builtin.Frozenset.unchanged (toString "frozenset."++toString "__or__") b ep) U E z:=λ aa es ep t od ax z U hz hU=>by
  unfold Builtin.Frozenset.unchanged;exact a7 (udx hz od ax ?_);let:(ep != ep)=false:=by simp
  rw[this];exact c7 hU
 exact a7 (m:=Builtin.Frozenset.addrOf (.ref R)) (c7 ?_);let ae : ∀ (h2 : Heap)(d2 : Drawn), (∀ c o, c ≠ R → h1.get? c = some o → h2.get? c = some o) → ((n = 0 /\ Fr w h2 R 0) \/ (0<n /\ SetT prog w h2 R S n)) → j7 (v4 prog w) A.in1 (pure (Value.ref R)) (λ ah s' => j7 (v4 prog w) A.in1
       (have q:=λ (al:PUnit)=>(pure ah:Sem i5);
       if (Value.ref b != Value.ref a)=true then do
         let __do_lift ← Builtin.Frozenset.addrOf ah;let al ← holding [ah] (Builtin.Frozenset.updateFrom (toString "frozenset."++toString "__or__") __do_lift (Value.ref b))
         q al
       else q ())
       (λ a s'=>j7 (v4 prog w) A.in1 (ret a) (λ fin s'=>∃ v,fin=Fin.done (Flow.ret v)/\v≠Value.notImplemented/\Q v s') E s') E s') E { s with heap:=h2,drawn:=d2 }:=λ h2 d2 k2 cs=>by
  exact c7 ?_;rw[aw];exact u4 (λ _=>?_) λ z=>absurd rfl z;exact a7 (m:=Builtin.Frozenset.addrOf (.ref R)) (c7 (a7 (uak ?_)));let sb2:SetT prog w h2 b S' m:=aN.keep λ x hx=>k2 _ _ aj hx;obtain⟨aF,am,ap⟩:=sb2.typ;obtain⟨o2,au,ay,t2,ad,az,ac,aG,aJ,ab,O,aq⟩:=sb2.1;unfold Builtin.Frozenset.updateFrom Builtin.Frozenset.merge;exact a7 (eG ⟨aF,am,ap⟩ ?_);exact u4 (λ _=>?_) λ z=>absurd rfl z;exact a7 (m:=Builtin.Frozenset.addrOf (.ref b)) (c7 ?_);exact a7 (udx ad ac O ?_);rcases cs with ⟨rfl,f2⟩ | ⟨n0,s2⟩
  ·exact jM (s:={ s with heap:=h2,drawn:=d2 }) aj.symm f2 sb2 (by left) λ h3 ai ak=>?_;exact c7 (c7 ⟨A,by simp,fin h3 d2 S' m (λ c o e=>ai.extBut _ _ (nR c o e) (k2 _ _ (nR c o e) (up _ _ e))) ak cb λ k=>?_⟩);obtain⟨l,_,ll,hm⟩:=ca;let:l=[]:=uby ll;rw[hm k,this];simp
  ·exact zcu (s:={ s with heap:=h2,drawn:=d2 }) aj.symm s2 sb2 ca n0 hl (λ aa z U aD hz hU=>?_) λ h3 d3 S2 n2 ai ak c3 m3=>?_
   ·obtain rfl:o2=aa:=uaz (ad.symm.trans aD);exact ea _ _ _ _ ac O z U hz hU
   ·exact c7 (c7 ⟨A,by simp,fin h3 d3 S2 n2 (λ c o e=>ai.extBut _ _ (nR c o e) (k2 _ _ (nR c o e) (up _ _ e))) ak c3 m3⟩)
 rcases ugr n with n0 | n0
 ·subst n0;obtain⟨o2,au,ay,t2,ad,az,ac,aG,aJ,ab,O,aq⟩:=ao.1;let ez:au=#[]:=Array.size_eq_zero_iff.mp aq;unfold setMerge;let nb:(R==a)=false:=by simpa using ar.symm
  rw[nb];exact a7 ?_;exact u4 ‹40› λ _=>?_;exact a7 (uar ad ac O ?_);dsimp only;rw[ez];exact u4 (λ _=>?_) λ z=>absurd rfl z;exact c7 (ae h1 s.drawn (λ _ _ _ e=>e) (.inl ⟨rfl,fr⟩))
 ·exact a7 (jM (s:={ s with heap:=h1 }) ar.symm fr ao (by left) λ h2 sb2 aB=>?_);exact ae h2 s.drawn (λ c o hc e=>sb2.extBut _ _ hc e) (.inr ⟨n0,aB⟩)
end
end Stb
namespace L3
open PySem PySem.Spec PyProof.Rows L2
section
variable {X:Cx}
theorem zdz:OpR X (binaryOp .BitOr) (λ x y H Q=>∃ (p q:o7)(S S':Int->Bool)(n m:Nat),x=.ref p/\y=.ref q/\p≠q/\H p=some (SetO X.prog X.w p S n)/\H q=some (SetO X.prog X.w q S' m)/\Stb.Cn S n/\Stb.Cn S' m/\(n+m)*2<512 /\
  ∀ r S2 n2 H',Same H H'->H r=none->H' r=some (SetO X.prog X.w r S2 n2)->Stb.Cn S2 n2->(∀ k,S2 k=true↔S k=true\/S' k=true)->Q (.ref r) H'):=by
 intro pins s σ H x y u v Q I rx ry h;obtain⟨p,q,S,S',n,m,rfl,rfl,ne,U,hq,cp,cq,hl,F⟩:=h;cases rx;cases ry;let sp:Stb.SetT X.prog X.w s.heap p S n:=(show ObjOk X.prog X.w H s.heap p (SetO X.prog X.w p S n) from I.hok p _ U).1;let sq:Stb.SetT X.prog X.w s.heap q S' m:=(show ObjOk X.prog X.w H s.heap q (SetO X.prog X.w q S' m) from I.hok q _ hq).1;exact Stb.zeu sp sq cp cq hl ne λ h' d' S2 n2 O st c2 m2=>?_;let fr:H ‹128›=none:=I.hok.fresh (i8 _);let z:=I.laid (a:=‹128›) (o:=SetO X.prog X.w ‹128› S2 n2) (t':=s.toks) O (i8 _) ⟨st,by obtain⟨o,e,_⟩:=st.typ;exact⟨o,e⟩,λ h1 h2 x k=>x.keep k⟩;let I2:Inv X pins σ (upd H ‹128› (SetO X.prog X.w ‹128› S2 n2)) { s with heap:=h',drawn:=d' }:=⟨z.ok,z.os,z.bare,z.base,z.loc,z.cell,z.free,z.freeC,z.pin,z.hok,z.len⟩;exact⟨.ref ‹128›,_,I2,rfl,F _ S2 n2 _ (aU fr) fr aM c2 m2⟩
theorem iL (ns:List Int):Stb.Cn (HT.setS ns ns.length) (HT.setN ns ns.length):=by
 obtain⟨h1,h2⟩:=eU ‹42› ns.length;refine⟨firstMet ‹42› ns.length,h1,rfl,λ k=>?_⟩;show ((firstMet ‹42› ns.length).any (·==k))=true↔_;rw[ucn];exact⟨λ ⟨x,q,e⟩=>by rw[← (by simpa using e:x=k)];exact q,λ h=>⟨k,h,by simp⟩⟩
theorem eQ {S:Int->Bool}{n m:Nat}(c:Stb.Cn S n)(h:∀ k,S k=true->0<=k/\k<m):n<=m:=by
 obtain⟨l,nd,ll,q⟩:=c;have e:l.length=(l.map ubk).length:=(c9 _).symm;rw[← ll,e];refine Peel.jC m _ ?_ λ p hp=>?_
 ·rw[uau,ua1];exact ucb ?_ nd;intro a b U F ne z;let:=h a ((q a).mpr U);let:=h b ((q b).mpr F);left
 ·obtain⟨x,O,rfl⟩:=w8.mp hp;let:=h x ((q x).mpr O);left
end
section
variable {n:Int}{ts:List Tie}{ks:List Nat}{hs:List Int}{r:Nat}
end
end L3
namespace Stb
open PySem PyProof.Rows
theorem zee:entryFor table "set.__xor__"=some Builtin.«frozenset.__xor__»:=ugu (id':="frozenset.__xor__") ‹113› rfl (by symm) ‹113›
theorem iV {α:Type}(xs:Array α){i:Nat}(h:i<xs.size):(SetTable.eraseAt xs i).toList=xs.toList.take i++xs.toList.drop (i+1):=by
 unfold SetTable.eraseAt;simp [Array.toList_extract,List.extract];exact ube (by rw[m9,r8];left)
theorem qR:∀ {l m:List Int},l.Nodup->(∀ x∈l,x∈m)->l.length<=m.length
 | [],_,_,_=>uae _
 | x::l,m,nd,h=>by
  obtain⟨p,q,rfl⟩:=List.append_of_mem (h x l9);obtain⟨U,O⟩:=uba.mp nd;let:=qR (m:=p++q) O λ y F=>by
   let:=h y (j8 _ F);rcases uat.mp this with z | z
   ·exact ubj _ z
   ·rcases j4.mp z with z | z
    ·exact absurd (z ▸ F) U
    ·exact z0 _ z
  rw[i7] at this;rw[uas,i7,uas];left
theorem rM:∀ {l m:List Int},l.Nodup->(∀ x∈l,x∈m)->m.length<=l.length->m.Nodup
 | [],m,_,_,h=>by
  rw[uby (Nat.le_zero.mp h)];exact ufc
 | x::l,m,nd,h,le=>by
  obtain⟨p,q,rfl⟩:=List.append_of_mem (h x l9);obtain⟨n1,n2⟩:=uba.mp nd;let F:∀ y∈l,y∈p++q:=λ y O=>by
   let:=h y (j8 _ O);rcases uat.mp this with z | z
   ·exact ubj _ z
   ·rcases j4.mp z with z | z
    ·exact absurd (z ▸ O) n1
    ·exact z0 _ z
  let U:(p++q).length<=l.length:=by
   rw[i7,uas,uas] at le;rw[i7];left
  let ih:=rM n2 F U;let nx:x∉p++q:=λ z=>by
   let:=qR (m:=p++q) nd λ y O=>(j4.mp O).elim (λ e=>e ▸ z) (F y);rw[uas] at this;left
  let pm:(p++x::q).Perm (x::(p++q)):=ug2;exact pm.nodup_iff.mpr (uba.mpr ⟨nx,ih⟩)
def keyE (e:Int × i5):Int:=match e.2 with
 | .int k _=>k
 | _=>0
section
variable {prog:o9}{w:uaw}{A:uax}{E:i5->i6->Prop}{s:i6}
theorem eP {es:List (Int × i5)}(el:ElemsOf ‹44› es){e:Int × i5}(he:e∈es)(k:Int):‹44›.is k e.2=true↔keyE e=k:=by
 obtain⟨q,t,z,_,_,_⟩:=gZ el he;unfold keyE;rw[z];show Value.isInt k (.int q t)=true↔q=k;simp [Value.isInt]
theorem pZ {es:List (Int × i5)}{S:Int->Bool}{n:Nat}(el:ElemsOf ‹44› es)(me:∀ k,S k=true↔∃ e∈es,‹44›.is k e.2=true)(en:es.length=n)(c:Cn S n):(es.map keyE).Nodup:=by
 obtain⟨l,nd,O,F⟩:=c;exact rM nd (λ x z=>?_) (by rw[c9];left);obtain⟨e,q,h⟩:=(me x).mp ((F x).mpr z);exact w8.mpr ⟨e,q,(eP el q x).mp h⟩
theorem Cn.del {S:Int->Bool}{n:Nat}(c:Cn S n)(k:Int)(h:S k=true):Cn (λ y=>S y&&!decide (y=k)) (n-1):=by
 obtain⟨l,nd,z,q⟩:=c;exact⟨l.erase k,nd.erase k,by rw[ud5 ((q k).mp h),z],λ y=>?_⟩;rw[nd.mem_erase_iff,m7,q y,ugw,decide_eq_false_iff_not];exact⟨λ ⟨a,b⟩=>⟨b,a⟩,λ ⟨a,b⟩=>⟨b,a⟩⟩
theorem zb8 {b:Bool}{t:SetTable}(h:TI b t){i:Nat}(hi:i<t.place.size):TI b (t.drop i):=by
 unfold SetTable.drop;rw[ubh hi];exact⟨?_,h.2⟩;show Asc (SetTable.eraseAt t.place i);rw[Asc.list,iV _ hi];let q:=Asc.list.mp h.1;let:(t.place.toList.take i++t.place.toList.drop (i+1)).Sublist t.place.toList:=by
  let e:t.place.toList.take i++t.place.toList.drop i=t.place.toList:=uen _ _
  conv=>rhs;rw[← e]
  refine List.Sublist.append (List.Sublist.refl _) ?_;rw[show i+1=i+1 from rfl,← List.drop_drop];exact List.drop_sublist _ _
 exact q.sublist this
theorem zP {t:SetTable}{n:Nat}(h:t.fits n=true){i:Nat}(hi:i<n):(t.drop i).fits (n-1)=true:=by
 unfold SetTable.fits at h ⊢;rw[m7,beq_iff_eq,decide_eq_true_iff] at h;obtain⟨h1,h2⟩:=h;let z:i<t.place.size:=by left
 unfold SetTable.drop;rw[ubh z];let q:(SetTable.eraseAt t.place i).size=n-1:=by
  rw[← r8,iV _ z,i7,o8,m9,r8];left
 let e2:∀ j,(SetTable.insertAt t.dummies (SetTable.below t.dummies j) j).size=t.dummies.size+1:=λ j=>by
  rw[← r8,SetTable.toList_insertAt,← r8 (xs:=t.dummies)];simp;left
 rw[m7,beq_iff_eq,decide_eq_true_iff];exact⟨q,?_⟩;unfold SetTable.fill at h2 ⊢;dsimp only;rw[q,e2];left
theorem zR {a:o7}{S:Int->Bool}{n:Nat}{k:Int}{x:i5}{Q:Bool->i6->Prop}(kx:‹44›.is k x=true)(sx:x.scannable=true)(st:SetT prog w s.heap a S n)(c:Cn S n)
  (fin:∀ h',Heap.SameBut a s.heap h'->(S k=true->SetT prog w h' a (λ y=>S y&&!decide (y=k)) (n-1))->(S k=false->SetT prog w h' a S n)->Q (S k) { s with heap:=h' }) :
  j7 (v4 prog w) A (setDiscardHashed a x (‹44›.hash k)) Q E s:=by
 obtain⟨⟨o,es,ep,t,ho,ox,od,el,me,small,U,en⟩,o',es',ak,t',ad,ae,ti⟩:=id st;rw[ho] at ad;cases ad;rw[od] at ae;cases ae;let af:s={ s with heap:=s.heap }:=by cases s;rfl
 unfold setDiscardHashed setFind setFindIn;exact a7 (a7 (uar ho od U ?_));dsimp only;rw[byScan_of sx small el,uh2 rfl];exact a7 (uca (a7 (wpAny_setScan_of kx ho od U el ?_)));let nd:=pZ el me (by rw[r8];exact en) c;cases fd:List.findIdx? (λ e=>‹44›.is k e.2) es.toList with
 | none =>
  dsimp only;let sk:S k=false:=by
   cases c:S k with
   | false=>rfl
   | true=>obtain⟨e,O,hp⟩:=(me k).mp c;let:=uhl.mp fd e O;rw[hp] at this;cases this
  exact c7 (c7 ?_);let q:=fin s.heap (ubq a s.heap) (λ z=>by rw[sk] at z;cases z) λ _=>st;rw[sk] at q;rw[af];exact q
 | some j =>
  dsimp only;obtain⟨jl,jp,_⟩:=ugn.mp fd;let sk:S k=true:=(me k).mpr ⟨es.toList[j],udd jl,jp⟩;let ac:j<es.size:=by simpa using jl
  exact c7 ?_;rw[Nat.zero_add];let al:t.place.size=es.size:=by
   simp only [SetTable.fits,m7,beq_iff_eq] at U;exact U.1
  let er:=iV es ac;let ez:(SetTable.eraseAt es j).size=es.size-1:=by
   rw[← r8,er,i7,o8,m9,r8];left
  let F:es.toList=es.toList.take j++es.toList[j]::es.toList.drop (j+1):=by
   rw[← ufe jl,uen]
  let aa:∀ e∈(SetTable.eraseAt es j).toList,e∈es.toList:=λ e O=>by
   rw[er] at O;rw[F];exact (uat.mp O).elim (ubj _) λ h=>z0 _ (j8 _ h)
  let kj:keyE es.toList[j]=k:=(eP el (udd jl) k).mp jp;let aj:∀ y,(S y&&!decide (y=k))=true↔∃ e∈(SetTable.eraseAt es j).toList,‹44›.is y e.2=true:=λ y=>by
   rw[m7,me y,ugw,decide_eq_false_iff_not];have ai:(es.toList.take j++es.toList[j]::es.toList.drop (j+1)).map keyE=es.toList.map keyE:=by rw[← F]
   rw[← ai,uaq,ubc] at nd;have pm:((es.toList.take j).map keyE++keyE es.toList[j]::(es.toList.drop (j+1)).map keyE).Perm (keyE es.toList[j]::((es.toList.take j).map keyE++(es.toList.drop (j+1)).map keyE)):=ug2;have nj:=(uba.mp (pm.nodup_iff.mp nd)).1;constructor
   ·rintro ⟨⟨e,O,hp⟩,ne⟩;exact⟨e,?_,hp⟩;let ke:=(eP el O y).mp hp;rw[er];rw[F] at O;rcases uat.mp O with h | h
    ·exact ubj _ h
    ·rcases j4.mp h with h | h
     ·exfalso;apply ne;rw[← ke,h];exact kj
     ·exact z0 _ h
   ·rintro ⟨e,O,hp⟩;refine⟨⟨e,aa e O,hp⟩,λ z=>nj ?_⟩;have ke:=(eP el (aa e O) y).mp hp;rw[kj,← z,← ke,← uaq];rw[er] at O;exact w8.mpr ⟨e,O,rfl⟩
  exact a7 (uar ho od U ?_);dsimp only;let ab:(SetTable.eraseAt es j).size<scanBound:=by left
  let ah:(t.drop j).fits (SetTable.eraseAt es j).size=true:=by rw[ez];exact zP U ac
  exact a7 (ucz ho od ?_ (uc0 ab));obtain⟨g1,s1⟩:=ufg (knd:=intKind prog w) ho ox od (es':=SetTable.eraseAt es j) (t':=t.drop j) (λ e O=>el e (aa e O)) aj ab ah;exact a7 (wpAny_point (c7 ?_));let q:=fin _ (ua8 s.heap a (Obj.putSet (SetTable.eraseAt es j) (t.drop j))) (λ _=>⟨by rw[ez,en] at s1;exact s1,_,_,_,_,g1,rfl,zb8 ti (by left)⟩) λ z=>by rw[sk] at z;cases z
  rw[sk] at q;exact q
theorem qT {a b:o7}{flip:Int->i5->Sem Unit}{each:Sem Unit}{ob:Obj}{eb:Array (Int × i5)}{epb:Nat}{tb:SetTable}(ne:a≠b)(odb:ob.data=.set eb epb tb)(elb:ElemsOf ‹44› eb.toList)
  (hflip:∀ h x,flip h x=holding [x] (do
   let __do_lift ← setDiscardHashed a x h
   if (!__do_lift) = true then do
       let _ ← setAddHashed a x h
       pure ()
    else pure ()))
  (heach:∀ (z:i6)(U:Unit->i6->Prop),z.heap.get? b=some ob->U () z->j7 (v4 prog w) A each U E z) :
  ∀ (l:List (Int × i5))(s:i6)(S:Int->Bool)(n:Nat)(Q:PUnit->i6->Prop),(∀ e∈l,e∈eb.toList)->(l.map keyE).Nodup->s.heap.get? b=some ob->SetT prog w s.heap a S n->Cn S n->n+l.length+1<scanBound ->
  (∀ h' S2 n2,Heap.SameBut a s.heap h'->SetT prog w h' a S2 n2->Cn S2 n2->(∀ k,S2 k=true↔¬ (S k=true↔k∈l.map keyE))->Q PUnit.unit { s with heap:=h' }) ->
  j7 (v4 prog w) A (forIn l PUnit.unit λ x (_:PUnit)=>do
   flip x.1 x.2
   each
   pure (ForInStep.yield PUnit.unit)) Q E s
 | [],s,S,n,Q,_,_,_,st,c,_,fin=>by
  rw[ub6];let e0:s={ s with heap:=s.heap }:=by cases s;rfl
  exact c7 ?_;rw[e0];exact fin s.heap S n (ubq _ _) st c λ k=>by simp
 | e::l,s,S,n,Q,hl,nd,hb,st,c,room,fin=>by
  rw[ubr];obtain⟨k,t,ek,h1,h2,h3⟩:=gZ elb (hl e l9);let ke:keyE e=k:=by unfold keyE;rw[ek]
  rw[ubc,ke] at nd;obtain⟨nk,af⟩:=uba.mp nd;rw[uas] at room;let q : ∀ (R : ForInStep PUnit → i6 → Prop) (_ : ∀ s', j7 (v4 prog w) A (forIn l PUnit.unit λ x (_ : PUnit) => do
        flip x.1 x.2
        each
        pure (ForInStep.yield PUnit.unit)) Q E s'->R (.yield PUnit.unit) s') (h':Heap) (S1:Int->Bool) (n1:Nat),Heap.SameBut a s.heap h'->SetT prog w h' a S1 n1->Cn S1 n1->n1<=n+1->(∀ y,S1 y=true↔¬ (S y=true↔y=k))->j7 (v4 prog w) A (do
      each
      pure (ForInStep.yield PUnit.unit)) R E { s with heap:=h' }:=λ R hR h' S1 n1 sb ae c1 l1 m1=>by
   let aa:h'.get? b=some ob:=sb.extBut _ _ ne.symm hb;exact a7 (heach _ _ aa (c7 (hR _ ?_)));exact qT ne odb elb hflip heach l { s with heap:=h' } S1 n1 _ (λ y hy=>hl y (j8 _ hy)) af aa ae c1 (by left) λ ah S2 n2 sb2 ac c2 m2=>?_;exact fin ah S2 n2 (sb.trans sb2) ac c2 λ y=>?_;rw[m2 y,m1 y,ubc,ke,j4];by_cases F:y=k
   ·subst F;by_cases sy:S y=true <;> simp [sy,nk]
   ·by_cases sy:S y=true <;> by_cases ym:y∈l.map keyE <;> simp [sy,ym,F]
  exact a7 ?_;rw[hflip];exact a7 (uak (a7 ?_));rw[h2];exact zR h1 h3 st c λ h' sb d1 d2=>?_;cases O:S k with
  | true =>
   exact u4 (λ z=>absurd z (by simp)) λ _=>c7 ?_;exact q _ (λ _ h=>h) h' _ _ sb (d1 O) (c.del k O) (by left) λ y=>?_;rw[m7,ugw,decide_eq_false_iff_not];by_cases F:y=k
   ·subst F;simp [O]
   ·simp [F]
  | false =>
   exact u4 (λ _=>?_) λ z=>absurd rfl z;exact a7 (kX (s:={ s with heap:=h' }) h1 h3 (d2 O) (by left) λ ad ai ab=>c7 ?_);rw[O] at ab;let ca:=c.add k;rw[O] at ca;exact q _ (λ _ h=>h) ad _ _ (sb.trans ai) ab ca (i8 _) λ y=>?_;rw[uc6,decide_eq_true_iff];by_cases F:y=k
   ·subst F;simp [O]
   ·simp [F]
theorem zej {a b:o7}{S S':Int->Bool}{n m:Nat}{Q:i5->i6->Prop}(sa:SetT prog w s.heap a S n)(sb:SetT prog w s.heap b S' m)(ca:Cn S n)(cb:Cn S' m)(hl:(n+m)*2<512)(ne:a≠b)
  (fin:∀ h' d' S2 n2,(∀ c o,s.heap.get? c=some o->h'.get? c=some o)->SetT prog w h' ‹128› S2 n2->Cn S2 n2->(∀ k,S2 k=true↔¬ (S k=true↔S' k=true))->Q ‹32› { s with heap:=h',drawn:=d' }) :
  j7 (v4 prog w) A (binaryOp .BitXor (.ref a) (.ref b)) Q E s:=by
 obtain⟨oa,au,aJ⟩:=sa.typ;obtain⟨ob,ah,ap⟩:=sb.typ;let tA:s.TypeIs (.ref a) "set":=⟨oa,au,aJ⟩;let tB:s.TypeIs (.ref b) "set":=⟨ob,ah,ap⟩;exact wpAny_binaryOp_same (op:=.BitXor) (T:="set") tA tB PySem.F.fills_set_xor uhv ?_;exact uaf uhv tA zee ?_ (PySem.F.args_set_xor_2 _ _);unfold Builtin.«frozenset.__xor__»
 wp_delta
 exact a7 (m:=Builtin.Frozenset.slot1 "__xor__" { pos:=[Value.ref a,Value.ref b] }) (c7 ?_);dsimp only;rw[uh3 (by decide)];dsimp only;unfold andM;exact a7 (a7 (eG tA ?_));exact eG tB ?_;exact u4 ‹40› λ _=>?_;exact a7 (m:=Builtin.Frozenset.addrOf (.ref a)) (c7 ?_);exact a7 ?_
 wp_delta
 refine a7 ?_;unfold Builtin.Frozenset.baseOf;refine a7 (ub3 (T:="set") (b:=true) tA (by rw[ud7];kernel_rfl) (c7 ?_));rw[uh2 rfl];refine a7 ?_;unfold Builtin.Frozenset.newFrom newSet setsByText;refine a7 (a7 (a7 (ub4 (c7 (uac ?_)))));have lo:(!(v4 prog w).w.params.followText "set-order")=ledOf w:=rfl;rw[lo];generalize hR:‹128›=R;rw[hR] at fin;have ad:‹50›.get? R=some { cls:=.type "set",data:=.set #[] 0 (.fresh 0 0 (ledOf w)) }:=by rw[← hR];exact i9 _ rfl
 have up:∀ c o,s.heap.get? c=some o->‹50›.get? c=some o:=λ c o e=>a9 _ e;have nR:∀ c o,s.heap.get? c=some o->c≠R:=λ c o e=>by rw[← hR];exact k8 (j5 e)
 generalize s.heap.push { cls:=.type "set",data:=.set #[] 0 (.fresh 0 0 (ledOf w)) }=h1 at ad up ⊢;let full8:Lay9.Full 8:=by
  let:=(Lay9.size_full (n:=1) (by decide)).1;exact this
 let fr:Fr w h1 R 0:=⟨_,_,_,ad,⟨rfl,rfl,rfl⟩,rfl,rfl,rfl,full8,rfl,uae _⟩;let aB:SetT prog w h1 a S n:=sa.keep λ x hx=>up _ _ hx;let ar:SetT prog w h1 b S' m:=sb.keep λ x hx=>up _ _ hx;let ab:=nR a oa au;let aL:=nR b ob ah;let az:h1.get? b=some ob:=up _ _ ah;exact a7 (m:=Builtin.Frozenset.addrOf (.ref R)) (c7 (a7 (uak ?_)));obtain⟨o2,a4,aS,t2,aR,aU,aG,a1,a2,aw,av,a3⟩:=ar.1;unfold Builtin.Frozenset.updateFrom Builtin.Frozenset.merge;exact a7 (eG ⟨ob,az,ap⟩ ?_);exact u4 (λ _=>?_) λ z=>absurd rfl z;exact a7 (m:=Builtin.Frozenset.addrOf (.ref b)) (c7 ?_);exact a7 (udx aR aG av ?_);exact jM (s:={ s with heap:=h1 }) aL.symm fr ar (by left) λ h3 ao aO=>?_;exact c7 ?_;exact a7 (m:=Builtin.Frozenset.addrOf (.ref R)) (c7 (a7 (uak ?_)));let ai:SetT prog w h3 a S n:=aB.keep λ x hx=>ao.extBut _ _ ab hx;obtain⟨am,ac,ae⟩:=ai.typ;obtain⟨o4,aT,ak,t4,aj,a0,q,aa,al,ax,af,aq⟩:=ai.1;unfold Builtin.Frozenset.symmetricDifferenceUpdate;let aD:(Value.ref a==Value.ref R)=false:=by
  let:Value.ref a≠Value.ref R:=λ z=>by injection z with z;exact ab z
  simpa using this
 rw[aD];refine u4 ‹40› λ _=>?_;refine a7 (ucx (T:="set") ⟨am,ac,ae⟩ ?_);refine u4 ‹40› λ _=>?_;refine a7 (eG ⟨am,ac,ae⟩ ?_);refine u4 (λ _=>?_) λ z=>absurd rfl z;refine a7 (c7 ?_);refine a7 (m:=Builtin.Frozenset.addrOf (.ref a)) (c7 ?_);refine a7 (udx aj q af ?_);refine uak ?_;have ns:R≠a:=ab.symm;refine a7 (nY (s:={ s with heap:=h3 }) ns aO ai aj q λ O h5 d5 pm an ay=>?_);have aF:h5.get? a=some o4:=an.extBut _ _ ab aj;rw[← ugm];have sc:600<=scanBound:=by unfold scanBound;decide
 let aW:O.toList.length=n:=by rw[pm.length_eq,r8,aq]
 let kn:=pZ aa al (by rw[r8];exact aq) ca;let aI:(O.toList.map keyE).Nodup:=(pm.map keyE).nodup_iff.mpr kn;exact a7 (qT (flip := λ h x => holding [x] (do
     let __do_lift ← setDiscardHashed R x h
     if (!__do_lift) = true then do
         let _ ← setAddHashed R x h
         pure ()
       else pure ())) ns q aa ‹34› (λ z U hz hU=>?_) O.toList { s with heap:=h5,drawn:=d5 } S' m _ (λ e he=>pm.mem_iff.mp he) aI aF ay cb (by left) λ h6 S6 n6 aQ aN c6 m6=>?_)
 ·unfold Builtin.Frozenset.unchanged;exact a7 (udx hz q af ?_);let:(ak != ak)=false:=by simp
  rw[this];exact c7 hU
 ·exact c7 (c7 (c7 ⟨A,by simp,fin h6 d5 S6 n6 (λ c o e=>aQ.extBut _ _ (nR c o e) (an.extBut _ _ (nR c o e) (ao.extBut _ _ (nR c o e) (up _ _ e)))) aN c6 λ k=>?_⟩));rw[m6 k];let:k∈O.toList.map keyE↔S k=true:=by
   rw[al k,w8];constructor
   ·rintro ⟨e,he,z⟩;exact⟨e,pm.mem_iff.mp he,(eP aa (pm.mem_iff.mp he) k).mpr z⟩
   ·rintro ⟨e,he,z⟩;exact⟨e,pm.mem_iff.mpr he,(eP aa he k).mp z⟩
  rw[this];exact not_congr ⟨λ h=>h.symm,λ h=>h.symm⟩
end
end Stb
namespace L3
open PySem PySem.Spec PyProof.Rows L2
section
variable {X:Cx}
theorem zco:OpR X (binaryOp .BitXor) (λ x y H Q=>∃ (p q:o7)(S S':Int->Bool)(n m:Nat),x=.ref p/\y=.ref q/\p≠q/\H p=some (SetO X.prog X.w p S n)/\H q=some (SetO X.prog X.w q S' m)/\Stb.Cn S n/\Stb.Cn S' m/\(n+m)*2<512 /\
  ∀ r S2 n2 H',Same H H'->H r=none->H' r=some (SetO X.prog X.w r S2 n2)->Stb.Cn S2 n2->(∀ k,S2 k=true↔¬ (S k=true↔S' k=true))->Q (.ref r) H'):=by
 intro pins s σ H x y u v Q I rx ry h;obtain⟨p,q,S,S',n,m,rfl,rfl,ne,U,hq,cp,cq,hl,F⟩:=h;cases rx;cases ry;let sp:Stb.SetT X.prog X.w s.heap p S n:=(show ObjOk X.prog X.w H s.heap p (SetO X.prog X.w p S n) from I.hok p _ U).1;let sq:Stb.SetT X.prog X.w s.heap q S' m:=(show ObjOk X.prog X.w H s.heap q (SetO X.prog X.w q S' m) from I.hok q _ hq).1;exact Stb.zej sp sq cp cq hl ne λ h' d' S2 n2 O st c2 m2=>?_;let fr:H ‹128›=none:=I.hok.fresh (i8 _);let z:=I.laid (a:=‹128›) (o:=SetO X.prog X.w ‹128› S2 n2) (t':=s.toks) O (i8 _) ⟨st,by obtain⟨o,e,_⟩:=st.typ;exact⟨o,e⟩,λ h1 h2 x k=>x.keep k⟩;let I2:Inv X pins σ (upd H ‹128› (SetO X.prog X.w ‹128› S2 n2)) { s with heap:=h',drawn:=d' }:=⟨z.ok,z.os,z.bare,z.base,z.loc,z.cell,z.free,z.freeC,z.pin,z.hok,z.len⟩;exact⟨.ref ‹128›,_,I2,rfl,F _ S2 n2 _ (aU fr) fr aM c2 m2⟩
end
end L3
namespace Hx
open PySem PySem.W
structure Ch where
 i:Nat
 a:Nat
 t:Nat
 j:Nat
 u:Nat
 b:Nat:=0
def stt (p:o9)(i:Nat):ud3:=p.main.body.getD i (.Pass ⟨0,0,0,0⟩)
def fileS:Str:=uai "/claim/cut.py"
def mdV (p:o9)(c:Ch):i5:=match stt p c.j with
 | .Assign _ (.Constant (.str x) _ _) _=>.str x c.u
 | _=>.str (uai "__main__") c.u
def sT (xs:List i5):Obj:=⟨.type "tuple",none,.seq xs.toArray 0,#[]⟩
def fE (xs:List i5):Obj:=⟨.none,none,.fields xs.toArray,#[]⟩
def tks:List Str->Nat->List i5
 | [],_=>[]
 | v::r,t=>.str v t::tks r (t+1)
def z:i5:=.int 0 0
def cdO (nm q:Str)(t:Nat)(l:Int)(na fl:Int)(k:i5)(fn:Bool)(tb vs cs tp:i5)(u:Nat):Obj :=
 ⟨.type "code",none,.fields #[.str nm t,.str q (t+1),.str fileS (t+2),.int l 0,.int na 0,z,z,.int fl 0,k,.bool fn,.int 181 0,tb,.none,vs,cs,tp,.int u 0,.int l 0,.str fileS (u+1)],#[]⟩
def ent (P:Params)(s:Str)(t:Nat)(v:i5):DictEntry:=⟨PyData.keyHash P s,.str s t,v⟩
def dO (es:List DictEntry)(n:Nat):Obj:=⟨.type "dict",none,.dict es.toArray n,#[]⟩
structure Got where
 os:List Obj
 en:List DictEntry
 tb:List i5
def fO (P:Params)(md:i5)(a t:Nat)(name:Str)(args:Arguments)(body:List ud3)(scope:Scope)(bind:Str)(pos:Pos):Got :=
 let fd:FuncData:=⟨name,bind,args,.stmts body,scope,0,[],.none,.none,.none,.none,none,.none,.none,0⟩;let k (vs cs:i5) (b u:Nat) (h:List Obj):Got :=
  ⟨h++[⟨.none,none,.func fd,#[]⟩,cdO name bind t pos.line args.args.length 3 (.ref a) true (.ref (a+1)) vs cs (.ref b) u,
   ⟨.type "function",none,.func ⟨name,bind,args,.stmts body,scope,3,[],.none,.none,.none,md,none,.ref (b+1),.none,0⟩,#[]⟩],
   [ent P name (u+2) (.ref (b+2))],[.int pos.line 0,.int pos.col 0,.ref (b+1)]⟩
 match localNames args scope (.stmts body) with
 | none=>k .none .none (a+2) (t+3) [sT [],fE []]
 | some (vs,cs)=>k (.ref (a+2)) (.ref (a+3)) (a+4) (t+3+vs.length+cs.length) [sT [],fE [],sT (tks vs (t+3)),sT (tks cs (t+3+vs.length))]
def mro0:List i5:=[.type "ValueError",.type "Exception",.type "BaseException",.type "object"]
def clO (P:Params)(md:i5)(a t:Nat)(base:Option Nat)(sub:List i5)(name bind:Str)(pos:Pos):Got :=
 let l:Int:=pos.line;let w:=base.isNone;let C:=a+9-(if w then 0 else 0);let bs:i5:=match base with | none=>.type "ValueError" | some b=>.ref b
 let q:=ent P (uai "__module__") (t+7) md;let e2:=ent P (uai "__firstlineno__") (t+11) (.int l (t+10));let z:=ent P (uai "__static_attributes__") (t+12) (.ref (a+7))
 ⟨[sT [bs],⟨.type "builtin_function_or_method",none,.fields #[.builtin "type.__prepare__",.type "type"],#[]⟩,
  dO [q,ent P (uai "__qualname__") (t+9) (.str bind (t+8)),e2,z] 4,sT [],fE [],
  cdO name bind (t+2) l 0 0 (.ref (a+3)) false (.ref (a+4)) .none .none .none (t+5),
  ⟨.type "frame",none,.plain,#[some (.ref (a+5)),some (.ref 3),some (.ref (a+2)),none,some md,none,some (.ref 0)]⟩,sT [],
  dO (q::e2::z::(if w then [ent P (uai "__weakref__") (t+14) (.ref (a+10)),ent P (uai "__doc__") (t+15) .none] else [ent P (uai "__doc__") (t+13) .none])) (if w then 3 else 2),
  ⟨.type "type",none,.cls ⟨name,[bs],.ref C::(match base with | none=>mro0 | some b=>.ref b::mro0),a+8,bind,true,[],sub,false,none,false⟩,
   #[some (.ref a),none,some (.str name t),some (.str bind (t+8)),some (.builtin "ValueError.__new__"),some (.bool true)]⟩] ++
  (if w then [⟨.type "getset_descriptor",none,.fields #[.str (uai "__weakref__") (t+13),.ref C,.builtin "ExceptionGroup.__weakref__",.none],#[]⟩] else []) ++
  [⟨.type "super",none,.fields #[.ref C,.ref C,.ref C],#[]⟩,⟨.type "builtin_function_or_method",none,.fields #[.builtin "object.__init_subclass__",.ref C],#[]⟩],
  [ent P name (t+(if w then 17 else 15)) (.ref C)],[.int l 0,.int pos.col 0,.ref (a+5)]⟩
def got (p:o9)(P:Params)(cs:List Ch)(c:Ch):Got:=match stt p c.i with
 | .FunctionDef name args body _ _ _ scope _ bind pos=>fO P (mdV p c) c.a c.t name args body scope bind pos
 | .ClassDef name _ _ _ _ _ _ _ bind _ pos=>clO P (mdV p c) c.a c.t (if c.b==0 then none else some c.b) (cs.filterMap λ d=>if d.b==c.a+9 then some (.ref (d.a+9)) else none) name bind pos
 | _=>⟨[],[],[]⟩
def nameNow (p:o9)(cs:List Ch):Option i5:=match cs.getLast? with
 | some c=>some (mdV p { c with j:=c.j,u:=c.u })
 | none=>none
def setName (P:Params)(v:Option i5):List DictEntry->List DictEntry
 | e::r=>(match v with | some v=>{ e with val:=v } | none=>e)::r
 | []=>[]
def globO (p:o9)(P:Params)(cs:List Ch)(en:List DictEntry):Obj->Obj
 | ⟨c,d,.dict es n,s⟩=>⟨c,d,.dict (setName P (nameNow p cs) es.toList++en).toArray (n+en.length),s⟩
 | o=>o
def objs (p:o9)(P:Params)(B:List Obj)(cs:List Ch):List Obj :=
 let q:=cs.map (got p P cs)
 match B with
 | b0::b1::b2::b3::r=>b0::b1::b2::globO p P cs (q.flatMap (·.en)) b3::(r++(sT []::fE (q.flatMap (·.tb)) ::
  cdO (uai "<module>") (uai "<module>") 182 1 0 0 (.ref 11) false (.ref 12) .none .none .none 185 ::
  ⟨.type "frame",none,.plain,#[some (.ref 13),some (.ref 3),some (.ref 3),none,some (.str (uai "__main__") 164),none,some (.ref 0)]⟩::q.flatMap (·.os)))
 | _=>[]
def spl:List Obj->List Obj × List Obj
 | []=>([],[])
 | x::r=>(x::(spl r).2,(spl r).1)
def braun:Nat->List Obj->BT
 | 0,_=>.nil
 | _+1,[]=>.nil
 | f+1,o::r=>.node o (braun f (spl r).1) (braun f (spl r).2)
structure Cut where
 k:Nat
 n:Nat
 t:Nat
def hpT (p:o9)(B:Params->List Obj)(cs:List Ch)(c:Cut)(P:Params):Heap:=absHeap (braun 12 (objs p P (B P) (cs.take c.k))) c.n {}
def stT (p:o9)(B:Params->List Obj)(D:Drawn)(cs:List Ch)(c:Cut)(w:uaw)(os:OsState):SharedT :=
 ⟨braun 12 (objs p w.params (B w.params) (cs.take c.k)),c.n,{},ufr [],D,c.t,os⟩
def env (p:o9):Env:={ scope:=p.main.scope,locals:=mainNs,globals:=mainNs,cells:=[],code:=.ref 13,frame:=some 14 }
def cE (p:o9):Code:=.body p.main.body (env p)
def pos0:Pos:=⟨0,0,0,0⟩
def posOf (p:o9):Nat->Pos
 | 0=>pos0
 | k+1=>match stt p k with
  | .Assign [.Name _ q] _ _=>q
  | .FunctionDef _ _ _ _ _ _ _ _ _ q=>q
  | .ClassDef _ _ _ _ _ _ _ _ _ _ q=>q
  | _=>pos0
def ann0:Option i5:=some (.ref 6)
def PieceT (p:o9)(B:Params->List Obj)(D:Drawn)(cs:List Ch)(a b:Cut)(N:Nat):Prop:=∀ w:uaw,
 (λ q=>segRunT treeTable p w 11 ann0 1 N (stT p B D cs a w q) (piecesOf ((p.main.body.drop a.k).take (b.k-a.k)) (env p) (cE p) (posOf p a.k) [topFrame pos0]))=λ q=>some (Flow.next,stT p B D cs b w q,cE p,posOf p b.k)
def PreT (p:o9)(B:Params->List Obj)(D:Drawn)(h:Params->Heap)(t:Nat)(cs:List Ch)(a:Cut):Prop:=∀ w:uaw,
 (λ q=>topGo treeTable p w 11 ann0 12 ⟨h w.params,ufr [],D,t,q⟩ (topStub p))=λ q=>some ((stT p B D cs a w q).abs,⟨denote treeTable (cE p),cE p,pos0,[topFrame pos0]⟩)
def BlockT (p:o9):Prop:=∀ (w:uaw)(s:i6),segRun treeTable p w 11 ann0 1 1 s (blockOf p.main.body (env p) (cE p) pos0 [topFrame pos0])=some (.next,s,cE p,pos0)
noncomputable def boots (P:Params):List Obj:=[boot_o_0 P,boot_o_1 P,boot_o_2 P,boot_o_3 P,boot_o_4 P,boot_o_5 P,boot_o_6 P,boot_o_7 P,boot_o_8 P,boot_o_9 P,boot_o_10 P]
def qv (p:o9)(is:List Nat):o9:={ p with main:={ p.main with body:=is.map (stt p) } }
def nmO:ud3->Option Str
 | .FunctionDef n ..=>some n
 | .ClassDef n ..=>some n
 | _=>none
def lz (p:o9)(is:List Nat)(n:Nat):List Str:=(d8 n).filterMap λ i=>if is.contains i then none else nmO (stt p i)
def kk (a:Nat)(g:Got):List (Nat × Obj):=match g.os with
 | [_,_,_,c,f]=>[(a+3,c),(a+4,f)]
 | [_,_,_,_,_,c,f]=>[(a+5,c),(a+6,f)]
 | _::_::_::_::_::_::_::_::d::C::_=>[(a+8,d),(a+9,C)]
 | _=>[]
def Kf (p:o9)(B:Params->List Obj)(cs:List Ch)(P:Params):Frag :=
 let q:=cs.map (got p P cs)
 (3,globO p P cs (q.flatMap (·.en)) ((B P).getD 3 (sT [])))::(cs.zip q).flatMap λ c=>kk c.1.a c.2
def LookA (p:o9)(B:Params->List Obj)(D:Drawn)(h:Params->Heap)(cs:List Ch)(c:Cut):Prop:=∀ w:uaw,(λ q =>
  (staticsOk (importedModules p.main.body) (h w.params) (hpT p B cs c w.params)&&namesBound p (hpT p B cs c w.params)&&gensDone ⟨hpT p B cs c w.params,ufr [],D,c.t,q⟩&&laidKept (h w.params) (hpT p B cs c w.params)))=λ _:OsState=>true
def LookB (p:o9)(B:Params->List Obj)(D:Drawn)(cs:List Ch)(c:Cut)(is:List Nat)(rc:WRecords):Prop:=∀ w:uaw,(λ q =>
  openSeen (qv p is) (lz p is c.k) (importedModules p.main.body) (λ s=>xlAt (qv p is) [] s&&recOk rc s) true ⟨hpT p B cs c w.params,ufr [],D,c.t,q⟩)=λ _:OsState=>openGood (qv p is) (lz p is c.k)
def LookC (p:o9)(B:Params->List Obj)(cs:List Ch)(c:Cut)(as:List Nat):Prop:=∀ w:uaw,as.map (hpT p B cs c w.params).get?=(Kf p B cs w.params).map λ p=>some p.2
section
variable {p:o9}{D:Drawn}{cs:List Ch}
theorem zc5 {w:uaw}{s:i6}{c:Code}{q:Pos}:topRun treeTable p w 11 ann0 2 s ⟨doneF .next,c,q,[topFrame pos0]⟩=some s:=rfl
theorem zX {w:uaw}{os:OsState}{c:Cut}(h:p.main.body.drop c.k=[]) :
  topRun treeTable p w 11 ann0 2 (stT p boots boot_drawn cs c w os).abs (restOf (p.main.body.drop c.k) (env p) (cE p) (posOf p c.k) [topFrame pos0])=some (stT p boots boot_drawn cs c w os).abs:=by
 rw[h];exact piece_nil zc5
theorem chain {w:uaw}{os:OsState}{a b:Cut}{N M:Nat}{r:i6}(h:PieceT p boots boot_drawn cs a b N)(le:a.k<=b.k)
  (k:topRun treeTable p w 11 ann0 M (stT p boots boot_drawn cs b w os).abs (restOf (p.main.body.drop b.k) (env p) (cE p) (posOf p b.k) [topFrame pos0])=some r) :
  topRun treeTable p w 11 ann0 (N+M) (stT p boots boot_drawn cs a w os).abs (restOf (p.main.body.drop a.k) (env p) (cE p) (posOf p a.k) [topFrame pos0])=some r:=by
 let e:p.main.body.drop a.k=(p.main.body.drop a.k).take (b.k-a.k)++p.main.body.drop b.k:=by
  let x:=(uen (b.k-a.k) (p.main.body.drop a.k)).symm;rw[List.drop_drop,Nat.add_sub_cancel' le] at x;exact x
 rw[e];exact piece_app (segRun_of (congrFun (h w) os)) k
theorem zce {w:uaw}{os:OsState}{M:Nat}{r:i6}(pre:PreT p boots boot_drawn boot_heap boot_toks cs ⟨0,15,187⟩)(bl:BlockT p)
  (k:topRun treeTable p w 11 ann0 M (stT p boots boot_drawn cs ⟨0,15,187⟩ w os).abs (restOf (p.main.body.drop 0) (env p) (cE p) (posOf p 0) [topFrame pos0])=some r) :
  topRun treeTable p w 11 ann0 (12+(1+M)) ⟨boot_heap w.params,ufr [],boot_drawn,boot_toks,os⟩ (topStub p)=some r :=
 go_top (congrFun (pre w) os) (piece_block (bl w _) k)
theorem zcy {is as:List Nat}{rc:WRecords}{c:Cut}{M N:Nat}{e:∀ P,as=(Kf p boots cs P).map (·.1)}
  (op:opening p=plainProg p.main.scope.names) (hN:Nat.ble 600 N=true) (fe:∀ s,fenceModules? p s=some s)
  (size:∀ w:uaw,((boot_heap w.params).isNs uad&&(ufr []:Array GenState).size==0,(boot_heap w.params).objs.size,(boot_heap w.params).nsMap uad "__annotations__")=(true,11,ann0))
  (run:∀ (w:uaw)(os:OsState),topRun treeTable p w 11 ann0 M ⟨boot_heap w.params,ufr [],boot_drawn,boot_toks,os⟩ (topStub p)=some (stT p boots boot_drawn cs c w os).abs) (le:Nat.ble M N=true)
  (hA:LookA p boots boot_drawn boot_heap cs c) (hB:LookB p boots boot_drawn cs c is rc) (hC:LookC p boots cs c as) :
  LeftO p (qv p is) (lz p is c.k) (λ s=>xlAt (qv p is) [] s&&recOk rc s) (Hook.obs (kHook (Kf p boots cs) as e)) (Hook.val (kHook (Kf p boots cs) as e)) N :=
 LeftO.of_pieces (H₀:=boot_heap) (H₁:=hpT p boots cs c) (boot_open op hN fe) size run le λ w=>funext λ os=>by
  let a:=congrFun (hA w) os;let b:=congrFun (hB w) os;let c:=hC w;exact looks_pair a (looks_pair b c)
end
end Hx
set_option hygiene false
local macro_rules | `(tactic| exists $k, $s) => `(tactic| (refine rO (k := $k) D $s (fun vs H Q E h => by first | (obtain ⟨_, rfl, _⟩ := h; rfl) | (obtain ⟨_, _, rfl, _⟩ := h; rfl) | (obtain ⟨_, _, _, rfl, _⟩ := h; rfl) | (obtain ⟨_, _, _, _, rfl, _⟩ := h; rfl) | (obtain ⟨_, _, _, _, _, rfl, _⟩ := h; rfl) | (obtain ⟨_, _, _, _, _, _, rfl, _⟩ := h; rfl) | (obtain ⟨_, _, _, _, _, _, _, rfl, _⟩ := h; rfl) | (obtain ⟨_, _, _, _, _, _, _, _, rfl, _⟩ := h; rfl) | (obtain ⟨_, _, _, _, _, _, _, _, _, rfl, _⟩ := h; rfl) | (obtain ⟨_, _, _, _, _, _, _, _, _, _, rfl, _⟩ := h; rfl) | (obtain ⟨_, _, _, _, _, _, _, _, _, _, _, rfl, _⟩ := h; rfl) | (obtain ⟨_, _, _, _, _, _, _, _, _, _, _, _, rfl, _⟩ := h; rfl) | (obtain ⟨_, _, _, _, _, _, _, _, _, _, _, _, _, rfl, _⟩ := h; rfl) | (obtain ⟨_, _, _, _, _, _, _, _, _, _, _, _, _, _, rfl, _⟩ := h; rfl) | (obtain ⟨_, _, _, _, _, _, _, _, _, _, _, _, _, _, _, rfl, _⟩ := h; rfl) | (obtain ⟨_, _, _, _, _, _, _, _, _, _, _, _, _, _, _, _, rfl, _⟩ := h; rfl)) (fun f cdv A outer s H vs Q E hr h => ?_); have nd := ($s).nd))
local macro_rules | `(tactic| exists $k, $s, $s2) => `(tactic| refine rO (k := $k) D $s (fun vs H Q E h => ?_) (fun f cdv A outer s H vs Q E hr h => ?_))
local macro_rules | `(‹$n:num›) => if n.getNat < 30 then `(Ok P w K mg base $n) else Lean.Macro.throwUnsupported
set_option hygiene true
namespace Me
open PySem PySem.Spec PyProof.Rows L2 L3
def top (i:Nat):ud3:=a8.main.body.getD i (.Pass ⟨0,0,0,0⟩)
abbrev s_is_whole:ud3:=top 1
theorem sc_is_whole:FnScope ["thing"] ["thing"] (defScope s_is_whole):=by right
abbrev s_is_wholes:ud3:=top 2
theorem sc_is_wholes:FnScope ["thing"] ["thing"] (defScope s_is_wholes):=by right
abbrev s_is_rising:ud3:=top 3
theorem sc_is_rising:FnScope ["parts"] ["parts"] (defScope s_is_rising):=by right
abbrev s_is_tuple_of:ud3:=top 4
theorem sc_is_tuple_of:FnScope ["thing","many"] ["thing","many"] (defScope s_is_tuple_of):=by right
abbrev s_is_place:ud3:=top 6
theorem sc_is_place:FnScope ["web","thing"] ["web","thing"] (defScope s_is_place):=by right
abbrev s_is_tie_number:ud3:=top 7
theorem sc_is_tie_number:FnScope ["web","thing"] ["web","thing"] (defScope s_is_tie_number):=by right
abbrev s_is_keep:ud3:=top 8
theorem sc_is_keep:FnScope ["web","thing"] ["web","thing"] (defScope s_is_keep):=by right
abbrev s_whole:ud3:=top 9
theorem sc_whole:FnScope ["web"] ["web"] (defScope s_whole):=by right
abbrev s_tie_between:ud3:=top 10
theorem sc_tie_between:FnScope ["web","a","b","ends","number","tie"] ["web","a","b"] (defScope s_tie_between):=by right
abbrev s_are_unlike_places:ud3:=top 12
theorem sc_are_unlike_places:FnScope ["web","thing"] ["web","thing"] (defScope s_are_unlike_places):=by right
abbrev s_ties_along:ud3:=top 13
theorem sc_ties_along:FnScope ["web","places"] ["web","places"] (defScope s_ties_along):=by right
abbrev s_way_right:ud3:=top 14
theorem sc_way_right:FnScope ["web","keep","way"] ["web","keep","way"] (defScope s_way_right):=by right
abbrev s_leads_between:ud3:=top 15
theorem sc_leads_between:FnScope ["web","keep","a","b","way"] ["web","keep","a","b","way"] (defScope s_leads_between):=by right
abbrev s_way_length:ud3:=top 16
theorem sc_way_length:FnScope ["web","way"] ["web","way"] (defScope s_way_length):=by right
abbrev s_tie_weights:ud3:=top 17
theorem sc_tie_weights:FnScope ["web","weights","weight","tie"] ["web"] (defScope s_tie_weights):=by right
abbrev s_cost_with:ud3:=top 18
theorem sc_cost_with:FnScope ["cost","length","weight"] ["cost","length","weight"] (defScope s_cost_with):=by right
abbrev s_reached_from:ud3:=top 19
theorem sc_reached_from:FnScope ["web","keep","root","weights","costs","ahead","again","tie","a","b","length","one","other","cost"] ["web","keep","root"] (defScope s_reached_from):=by right
abbrev s_fars_from:ud3:=top 20
theorem sc_fars_from:FnScope ["web","keep","root","costs","ahead"] ["web","keep","root"] (defScope s_fars_from):=by right
abbrev s_tree_from:ud3:=top 21
theorem sc_tree_from:FnScope ["web","keep","root","costs","ahead"] ["web","keep","root"] (defScope s_tree_from):=by right
abbrev s_the_way:ud3:=top 22
theorem sc_the_way:FnScope ["web","keep","a","b","tree","way"] ["web","keep","a","b"] (defScope s_the_way):=by right
abbrev s_across:ud3:=top 24
theorem sc_across:FnScope ["web","tie","heights","a","b","length"] ["web","tie","heights"] (defScope s_across):=by right
abbrev s_heights_hold:ud3:=top 25
theorem sc_heights_hold:FnScope ["web","keep","heights"] ["web","keep","heights"] (defScope s_heights_hold):=by right
abbrev s_heights_from:ud3:=top 26
theorem sc_heights_from:FnScope ["web","keep","a","roof"] ["web","keep","a","roof"] (defScope s_heights_from):=by right
abbrev s_web_heights:ud3:=top 28
theorem sc_web_heights:FnScope ["web","place"] ["web","place"] (defScope s_web_heights):=by right
abbrev s_out_of_reach:ud3:=top 29
theorem sc_out_of_reach:FnScope ["height"] ["height"] (defScope s_out_of_reach):=by right
abbrev s_ties_of_ways:ud3:=top 31
theorem sc_ties_of_ways:FnScope ["web","ways","ties","way"] ["web","ways"] (defScope s_ties_of_ways):=by right
abbrev s_pairs_told:ud3:=top 32
theorem sc_pairs_told:FnScope ["web","pairs","ways","heights"] ["web","pairs"] (defScope s_pairs_told):=by right
abbrev s_pair_right:ud3:=top 33
theorem sc_pair_right:FnScope ["web","keep","pair","way","heights","a","b","rise"] ["web","keep","pair","way","heights"] (defScope s_pair_right):=by right
abbrev s_pairs_right:ud3:=top 34
theorem sc_pairs_right:FnScope ["web","pairs","told","keep","ways","papers"] ["web","pairs","told"] (defScope s_pairs_right):=by right
abbrev s__law_pot:ud3:=top 36
theorem sc__law_pot:FnScope ["script","k","cell","prime"] ["script","k"] (defScope s__law_pot):=by right
abbrev s__law_take:ud3:=top 37
theorem sc__law_take:FnScope ["pot","many","found"] ["pot","many"] (defScope s__law_take):=by right
abbrev s__law_length:ud3:=top 38
theorem sc__law_length:FnScope ["pot","way"] ["pot","way"] (defScope s__law_length):=by right
abbrev s__law_tied:ud3:=top 39
theorem sc__law_tied:FnScope ["pot","n","style","a","b","beside"] ["pot","n","style","a","b"] (defScope s__law_tied):=by right
abbrev s__law_order:ud3:=top 40
theorem sc__law_order:FnScope ["pot","many","left","found","turn"] ["pot","many"] (defScope s__law_order):=by right
abbrev s__law_web:ud3:=top 41
theorem sc__law_web:FnScope ["pot","most","n","style","way","names","ties","b","a","one","other"] ["pot","most"] (defScope s__law_web):=by right
abbrev s__law_pairs:ud3:=top 43
theorem sc__law_pairs:FnScope ["pot","n","way","rare","one","found","a","b"] ["pot","n"] (defScope s__law_pairs):=by right
abbrev s__law_lengths:ud3:=top 44
theorem sc__law_lengths:FnScope ["web","found","number","a","b","length"] ["web"] (defScope s__law_lengths):=by right
abbrev s__law_way_right:ud3:=top 45
theorem sc__law_way_right:FnScope ["web","pair","way","heights","more","lengths","steps"] ["web","pair","way","heights"] (defScope s__law_way_right):=by right
abbrev s__law_told_right:ud3:=top 46
theorem sc__law_told_right:FnScope ["web","pairs","told","keep","ways","heights","lengths","found","way","step"] ["web","pairs","told"] (defScope s__law_told_right):=by right
abbrev s__law_other_way:ud3:=top 47
theorem sc__law_other_way:FnScope ["pot","web","pair","way","turn","at","row","step","ends","fresh"] ["pot","web","pair","way"] (defScope s__law_other_way):=by right
abbrev s__law_other_heights:ud3:=top 48
theorem sc__law_other_heights:FnScope ["pot","heights","at","more","turn"] ["pot","heights"] (defScope s__law_other_heights):=by right
abbrev s__law_changed:ud3:=top 49
theorem sc__law_changed:FnScope ["pot","web","pairs","told","keep","ways","heights","turn","at","other","numbers","more","number"] ["pot","web","pairs","told"] (defScope s__law_changed):=by right
abbrev s_law:ud3:=top 50
theorem sc_law:FnScope ["script","at","pot","web","pairs","told","turn","other","found"] ["script"] (defScope s_law):=by right
section
variable {P:o9}{w:uaw}{K:b8}{mg:Str->Option i5}{base:Heap}
theorem vE (T:Bi mg)(D:DefOk K mg "_law_take" s__law_take ["pot","many"]):‹1› "_law_take" ["pot","many"] spTake:=by
 exists 0,sc__law_take;obtain⟨p,m,rfl,⟨a,b,z,ha,hb,U⟩,F,O,q⟩:=h;exact⟨_,(aD (aS (aO eT (aG aY (pv 0) aC ‹34›) aC (nomark _)) (aD (aN (i:=2) nd rfl (t6 rfl) (aF cP (aG aY (pv 0) aC ‹34›) (pv 1))) (aD (cB (aF pW (aG aY (pv 0) aC ‹34›) (pv 1)) (fV (pv 0) aC fG)) (aE (aJ (pv 2))))) aT) (aD (cB (aF cP (aF bI (aF fX (aG aY (pv 0) aC ‹34›) aC) aC) aC) (fV (pv 0) aC fG)) (aE (aJ (aF cP (aF pW (aF cP (aF bS (aG aY (pv 0) aC ‹34›) aC) aC) aC) (pv 1)))))),?_⟩;exact⟨A,p,V,SqL.of z,rfl,E,A,?_⟩;exact ite2 (λ c=>?_) (λ c=>?_)
 ·exact⟨A,p,V,SqL.of z,X,E,F,?_⟩;exact⟨A,p,V,SqL.of z,X,E,⟨F,O⟩,?_⟩;exact⟨A,p,_,0,0,M,z,X,?_⟩;exact q _ _ (ucw _ (by left)) (uco _ F) But.upd ⟨a / m,b,aM,Int.ediv_nonneg ha (by left),hb,U⟩
 ·exact⟨A,p,V,SqL.of z,rfl,E,.inr ⟨by decide,by decide⟩,E,E,(by show (0:Int)<2147483647;decide),?_⟩;exact⟨A,p,_,1,1,M,z,rfl,?_⟩;let n1:0<=(b*48271+12820163)%2147483647:=ucw _ (by decide);let n2:(b*48271+12820163)%2147483647<2147483647:=uco _ (by decide);exact⟨A,p,V,SqL.of aM,rfl,E,⟨by decide,by decide,by left⟩,E,(by show (0:Int)<2147483629;decide),E,⟨by decide,by decide⟩,A,E,F,?_⟩;exact q _ _ (ucw _ (by left)) (uco _ F) But.upd ⟨a,_,aM,ha,n1,n2⟩
theorem wD (T:Bi mg)(D:DefOk K mg "_law_pot" s__law_pot ["script","k"]):‹1› "_law_pot" ["script","k"] (spPot K):=by
 exists 0,sc__law_pot;obtain⟨a,k,ns,rfl,hS,ab,aa,q⟩:=h;let hl:‹67›.length=ns.length:=c9 _;exact⟨_,(aD (aN (i:=2) nd rfl (t6 rfl) aC) (aD (aS (aO cS (pv 1) (aP bD rfl T.z_len (by symm) (aA (pv 0) aB)) (nomark _)) (aE (aN (i:=2) nd rfl (t6 rfl) (aF cP (aG aY (pv 0) (pv 1) ‹34›) (aF pV (aF pV (aF bS aC aC) (aF bS aC aC)) (aF bS aC aC))))) aT) (aD (aN (i:=3) nd rfl (t6 rfl) (aG aY (eC (aA aC (aA aC (aA aC (aA aC (aA aC aB)))))) (aF cP (pv 1) aC) ‹34›)) (aE (aJ (eC (aA (aP (jG rfl) rfl T.z_max (by symm) (aA aC (aA (aF cF (pv 2) (aF bS aC aC)) aB))) (aA (aF cP (aF bS (aF bI (aF bI (aF cP (pv 2) (pv 3)) (aF fX aC (pv 1))) aC) aC) aC) aB)))))))),?_⟩
 let rest : ∀ (F : Int), 0 <= F → ∀ (σ : L2.St), σ = [some (.ref a), some (.int k), some (.int F), none] →
     (tSeq (tAsg (tOp (rIxL K) (tLst (tCons (tC (.int 2147483629)) (tCons (tC (.int 2147483587)) (tCons (tC (.int 2147483579)) (tCons (tC (.int 2147483563)) (tCons (tC (.int 2147483549)) tNil)))))) (tOp ‹101› (tVar 1) (tC (.int 5)))) (gName 3))
       (tRet (tLst (tCons (tCB (λ xs H Q=>∃ i j,xs=[.int i,.int j]/\Q (.int (if j>i then j else i)) H) (tCons (tC (.int 0)) (tCons (tOp (rI0 λ i j=>.int (i-j)) (tVar 2) (tOp (rI CPow λ i j=>.int (i^j.toNat)) (tC (.int 10)) (tC (.int 18)))) tNil)))
         (tCons (tOp ‹101› (tOp (rI CPow λ i j=>.int (i^j.toNat)) (tOp (rI0 λ i j=>.int (i+j)) (tOp (rI0 λ i j=>.int (i+j)) (tOp ‹101› (tVar 2) (tVar 3)) (tOp (rI CMul λ i j=>.int (i*j)) (tC (.int 7919)) (tVar 1))) (tC (.int 11))) (tC (.int 3))) (tC (.int 2147483647))) tNil)))))
       { nx:=λ _ H'=>Q .non H',rt:=Q } σ H:=by
  intro F hc σ U;subst U;exact⟨(by show 5<=p8;decide),λ l hl=>?_⟩;exact⟨A,E,(by show (0:Int)<5;decide),?_⟩;let m0:0<=k%5:=ucw _ (by decide);let m1:k%5<5:=uco _ (by decide);let pr:∃ v:Int,atI [V.int 2147483629,V.int 2147483587,V.int 2147483579,V.int 2147483563,V.int 2147483549] (k%5)=some (.int v)/\2147483549<=v/\v<=2147483629:=by
   let:k%5=0\/k%5=1\/k%5=2\/k%5=3\/k%5=4:=by left
   rcases this with e | e | e | e | e <;> rw[e] <;> exact⟨A,by decide,by decide⟩
  obtain⟨v,hv,v1,v2⟩:=pr;exact⟨l,V,SqL.of aM,hv,?_⟩;let S1:Same H (upd H l (.lst [V.int 2147483629,V.int 2147483587,V.int 2147483579,V.int 2147483563,V.int 2147483549])):=aU hl;exact⟨A,E,⟨by decide,by decide,by decide⟩,E,_,A,?_⟩;exact⟨K,E,(by show (0:Int)<v;left),A,E,.inl ⟨by decide,by decide⟩,E,E,E,⟨by decide,by decide,?_⟩,E,(by show (0:Int)<2147483647;decide),?_⟩
  ·let c0:0<=F%v:=ucw _ (by left);let c1:F%v<v:=uco _ (by left);left
  exact⟨(by show 2<=p8;decide),λ l2 O=>?_⟩;exact q l2 _ (S1.trans (aU O)) (S1.free O) ⟨P,aM,?_,ucw _ (by decide),uco _ (by decide)⟩;split <;> left
 exact⟨K,a,A,.inl hS,E,A,?_⟩;exact ite2 (λ c=>?_) (λ c=>?_)
 ·let c':k<((‹67›.length:Nat):Int):=uh0 c;rw[hl] at c';obtain⟨v,hv⟩:∃ v:Int,atI ‹67› k=some (.int v):=by
   let hk:k.toNat<ns.length:=by left
   let ek:k=((k.toNat:Nat):Int):=by left
   have z:atI ‹67› ((k.toNat:Nat):Int)=some (.int ns[k.toNat]):=qJ (by rw[j0,d7 hk] <;> rfl);rw[← ek] at z;exact⟨_,z⟩
  exact⟨K,a,V,hS,hv,?_⟩;exact⟨E,⟨by decide,by decide,by decide⟩,E,⟨by decide,by decide,by decide⟩,E,mulB,E,⟨by decide,by decide,by decide⟩,E,mulB2,E,posB,?_⟩;exact rest _ (ucw _ (by let:=posB;left)) _ rfl
 ·exact rest 5 (by decide) _ rfl
theorem tT (T:Bi mg)(D:DefOk K mg "_law_length" s__law_length ["pot","way"])(O__law_take:‹1› "_law_take" ["pot","many"] spTake):‹2› "_law_length" ["pot","way"] spLength:=by
 exists 1,sc__law_length;obtain⟨p,y,rfl,hp,ae,ad,q⟩:=h;exact⟨_,(aD (aS (aO cS (pv 1) aC (nomark _)) (aE (aJ (aG aY (eC (aA aC (aA (aF bI aC ‹31›) aB))) (pv 1) ‹34›))) aT) (aD (aS (aO aV (pv 1) aC (nomark _)) (aE (aJ (aF bI aC ‹31›))) aT) (aD (aS (aO aV (pv 1) aC (nomark _)) (aE (aJ (aG aY (eC (aA aC (aA aC (aA aC (aA (aF bS aC aC) (aA (aF cF (aF bS aC aC) aC) (aA (aF bS aC aC) aB))))))) ‹31› ‹34›))) aT) (aE (aJ (aF bI aC (aF fX (aH O__law_take hr rfl (aA (pv 0) (aA (aF bS aC aC) aB))) (aH O__law_take hr rfl (aA (pv 0) (aA (aF bI (aF bS aC aC) aC) aB)))))))))),?_⟩;exact⟨A,E,A,?_⟩;exact ite2 (λ c=>?_) (λ c=>?_)
 ·let c':y<2:=uh0 c;exact⟨A,p,3,rfl,hp,by decide,by decide,λ r H1 r0 r1 F O=>?_⟩;exact⟨E,(by show 2<=p8;decide),λ l hl=>?_⟩;let U:∃ v:Int,atI [V.int 1,V.int (1+r)] y=some (.int v)/\1<=v/\v<=10^18:=by
   let:y=0\/y=1:=by left
   rcases this with e | e <;> rw[e]
   ·exact⟨1,rfl,by symm,by symm⟩
   ·exact⟨1+r,rfl,by left,by left⟩
  obtain⟨v,hv,v0,v1⟩:=U;exact⟨A,l,V,SqL.of aM,hv,?_⟩;obtain⟨a',b',e',z⟩:=O;exact q v _ v0 v1 (F.trans (But.new hl)) ⟨a',b',(aU hl) _ _ e',z⟩
 exact⟨C,A,?_⟩;exact ite2 (λ c2=>?_) (λ c2=>?_)
 ·exact⟨A,p,50,rfl,hp,by decide,by decide,λ r H1 r0 r1 F O=>?_⟩;exact⟨E,q _ _ (by left) (by left) F O⟩
 exact⟨C,A,?_⟩;exact ite2 (λ c3=>?_) (λ c3=>?_)
 ·exact⟨E,⟨by decide,by decide,by decide⟩,E,⟨by decide,by decide,by decide⟩,E,E,⟨by decide,by decide,by decide⟩,(by show 6<=p8;decide),λ l hl=>?_⟩;let ab:Pot (upd H l (.lst [V.int 1,V.int 2,V.int 3,V.int ((10:Int)^(18:Int).toNat),V.int ((10:Int)^(18:Int).toNat-1),V.int ((10:Int)^(17:Int).toNat)])) p:=by
   obtain⟨a',b',e',z⟩:=hp;exact⟨a',b',(aU hl) _ _ e',z⟩
  let lp:l≠p:=by
   obtain⟨a',b',e',z⟩:=hp;exact λ e=>by rw[e,e'] at hl;cases hl
  exact⟨A,p,6,rfl,ab,by decide,by decide,λ r H1 r0 r1 F O=>?_⟩;let U:∃ v:Int,atI [V.int 1,V.int 2,V.int 3,V.int ((10:Int)^(18:Int).toNat),V.int ((10:Int)^(18:Int).toNat-1),V.int ((10:Int)^(17:Int).toNat)] r=some (.int v)/\1<=v/\v<=10^18:=by
   let:r=0\/r=1\/r=2\/r=3\/r=4\/r=5:=by left
   rcases this with e | e | e | e | e | e <;> rw[e] <;> exact⟨A,by symm,by symm⟩
  obtain⟨v,hv,v0,v1⟩:=U;exact⟨l,V,SqL.of (F _ _ lp aM),hv,?_⟩;exact q v _ v0 v1 ((But.new hl).trans F) O
 ·exact⟨A,E,⟨by decide,by decide,by decide⟩,p,A,hp,by decide,by decide,λ r H1 r0 r1 F O=>?_⟩;exact⟨A,E,⟨by decide,by decide,by decide⟩,E,p,A,O,by decide,by decide,λ r2 H2 aa ac b2 p2=>?_⟩;let e9:((10:Int)^(9:Int).toNat)=1000000000:=by decide
  rw[e9] at r1 ac;exact⟨E,.inl ⟨by left,by left⟩,E,?_⟩;let m0:0<=r*r2:=Int.mul_nonneg r0 aa;let m1:r*r2<=999999999*1000000000:=Int.mul_le_mul (by left) (by left) aa (by decide);exact q _ _ (by left) (by left) (F.trans b2) p2
theorem vD (T:Bi mg)(D:DefOk K mg "_law_tied" s__law_tied ["pot","n","style","a","b"])(O__law_take:‹1› "_law_take" ["pot","many"] spTake):‹2› "_law_tied" ["pot","n","style","a","b"] spTied:=by
 exists 1,sc__law_tied;obtain⟨p,n,y,a,b,rfl,U,q⟩:=h;let z:∀ k,Q (.bl k) H:=λ k=>q k H But.refl U;exact⟨_,(aD (aN (i:=5) nd rfl (t6 rfl) (kP (aZ aV (aF cF (pv 4) (pv 3)) aC (nomark _)) (cD (aZ aV (aF cF (pv 4) (pv 3)) (aF cF (pv 1) aC) (nomark _))))) (aD (aS (aO cS (pv 2) aC (nomark _)) (aE (aJ (kP (pv 5) (cD (cJ (aZ aV (pv 2) aC (nomark _)) (cD (aZ aV ‹31› aC (nomark _)))))))) aT) (aD (aS (aO cS (pv 2) aC (nomark _)) (aE (aJ (aZ aV (aZ eT ‹31› aC (nomark _)) (aZ aV (pv 2) aC (nomark _)) (nomark _)))) aT) (aD (aS (aO aV (pv 2) aC (nomark _)) (aE (aJ (kP (aZ aV (aF cF (pv 4) (pv 3)) aC (nomark _)) (cD (cJ (aZ aV (aF cF (pv 4) (pv 3)) aC (nomark _)) (cD (aZ eT (aF cP (pv 4) aC) aC (nomark _)))))))) aT) (aD (aS (aO cS (pv 2) aC (nomark _)) (aE (aJ (cJ (aZ aV (aZ aV (aF cP (pv 3) aC) (aF cP (pv 4) aC) (nomark _)) (aZ aV (pv 2) aC (nomark _)) (nomark _)) (cD (aZ eT ‹31› aC (nomark _)))))) aT) (aE (aJ bK))))))),?_⟩;exact⟨K,E,X,?_⟩;exact ite2 (λ c=>?_) (λ c=>?_)
 all_goals (try exact⟨K,E,A,E,rfl,?_⟩)
 all_goals
  exact⟨A,E,A,?_⟩;exact ite2 (λ c1=>?_) (λ c1=>?_)
  ·exact⟨K,?_⟩;exact ite2 (λ d=>?_) (λ d=>?_)
   ·exact z _
   ·exact⟨C,A,?_⟩;exact ite2 (λ d=>?_) (λ d=>?_)
    ·exact⟨A,p,A,U,by decide,by decide,λ r H' _ _ O F=>⟨rfl,q _ _ O F⟩⟩
    ·exact z _
  exact⟨A,E,A,?_⟩;exact ite2 (λ c2=>?_) (λ c2=>?_)
  ·exact⟨A,p,A,U,by decide,by decide,λ r H' _ _ O F=>⟨_,_,rfl,rfl,_,rfl,rfl,rfl,q _ _ O F⟩⟩
  exact⟨C,A,?_⟩;exact ite2 (λ c3=>?_) (λ c3=>?_)
  ·exact⟨K,E,X,?_⟩;exact ite2 (λ d=>?_) (λ d=>?_)
   ·exact z _
   ·exact⟨K,E,X,?_⟩;exact ite2 (λ d=>?_) (λ d=>?_)
    ·exact⟨A,E,(by show (0:Int)<3;decide),E,z _⟩
    ·exact z _
  exact⟨A,E,A,?_⟩;exact ite2 (λ c4=>?_) (λ c4=>?_)
  ·exact⟨A,E,(by show (0:Int)<2;decide),A,E,(by show (0:Int)<2;decide),rfl,C,X,?_⟩;exact ite2 (λ d=>?_) (λ d=>?_)
   ·exact⟨A,p,A,U,by decide,by decide,λ r H' _ _ O F=>⟨_,_,rfl,rfl,q _ _ O F⟩⟩
   ·exact z _
  ·exact z _
theorem uN (T:Bi mg)(D:DefOk K mg "_law_order" s__law_order ["pot","many"])(O__law_take:‹1› "_law_take" ["pot","many"] spTake):‹2› "_law_order" ["pot","many"] spOrder:=by
 exists 1,sc__law_order;obtain⟨p,m,rfl,hp,ao,ak,q⟩:=h;refine⟨_,(aD (aN (i:=2) nd rfl (t6 rfl) (bA (uR rfl) rfl T.z_list (by symm) (aA (bA mI rfl T.z_range (by symm) (aA (pv 1) aB)) aB))) (aD (aN (i:=3) nd rfl (t6 rfl) (eC aB)) (aD (bW PassesOwn.never rfl (dR rfl T.z_range (aA (pv 1) aB)) (aK (i:=4) nd rfl (t6 rfl)) (aE (dX (dQ ubs uch ucg gR (pv 3) (aA (dQ ubs PySem.F.slot_list_pop PySem.F.type_list_pop za2 (pv 2) (aA (aH O__law_take hr rfl (aA (pv 0) (aA ‹58› aB))) aB)) aB))))) (aE (aJ (pv 3)))))),?_⟩;refine⟨A,m,rfl,λ g hg=>?_⟩;refine⟨g,m,rfl,aM,ao,ak,λ l hl=>?_⟩;refine⟨(by show 0<=p8;decide),λ U ac=>?_⟩;obtain⟨H0,ab⟩:∃ H0,H0=upd (upd (upd H g (.rng 0 m)) l (.lst ((d8 m.toNat).map λ i:Nat=>V.int (i:Int)))) U (.lst []):=⟨A⟩;rw[← ab];have S1:Same H (upd H g (.rng 0 m)):=aU hg;have S2:=S1.trans (aU (o:=.lst ((d8 m.toNat).map λ i:Nat=>V.int (i:Int))) hl);have S3:Same H H0:=by rw[ab];exact S2.trans (aU ac)
 have fl:H l=none:=S1.free hl;have aa:H U=none:=S2.free ac;have af:l≠U:=λ e=>by rw[← e,aM] at ac;cases ac
 let el:H0 l=some (.lst ((d8 m.toNat).map λ i:Nat=>V.int (i:Int))):=by rw[ab,aL af,aM]
 let am:H0 U=some (.lst []):=by rw[ab,aM]
 let an:Pot H0 p:=by
  obtain⟨a,b,e,z⟩:=hp;exact⟨a,b,S3 _ _ e,z⟩
 let ai:l≠p:=by
  obtain⟨a,b,e,z⟩:=hp;exact λ x=>by rw[x,e] at fl;cases fl
 let O:U≠p:=by
  obtain⟨a,b,e,z⟩:=hp;exact λ x=>by rw[x,e] at aa;cases aa
 exact⟨A,m,rfl,by left,by left,?_⟩;exact dE (n:=m.toNat) (λ i σ H'=>∃ (t:Option V)(ls ms:List Int),σ=[some (.ref p),some (.int m),some (.ref l),some (.ref U),t]/\H' l=some (.lst (ls.map V.int))/\H' U=some (.lst (ms.map V.int))/\Pot H' p /\
  (∀ b o,b≠p->H b=some o->H' b=some o)/\(ms++ls).Perm ((d8 m.toNat).map λ i:Nat=>(i:Int))/\ms.length=i) ?start ?turn ?fin
 case start=>exact⟨none,(d8 m.toNat).map λ i:Nat=>(i:Int),[],rfl,by rw[el,ua0];rfl,am,an,λ b o _ e=>S3 b o e,ue2 _,rfl⟩
 case turn =>
  rintro i σ H' hi ⟨t,ls,ms,rfl,e1,e2,ae,kp,pm,al⟩;let ad:ls.length=m.toNat-i:=by
   let:=pm.length_eq;rw[i7,c9,uaa] at this;left
  exact⟨A,.inl ⟨Y,SqL.of e2⟩,A,.inl ⟨Y,SqL.of e1⟩,K,l,A,.inl (SqL.of e1),?_⟩;exact⟨p,A,ae,(by rw[c9];left),(by rw[c9];left),λ r H1 r0 r1 b1 p1=>?_⟩;rw[c9] at r1;let ah:r.toNat<ls.length:=by left
  let er:r=((r.toNat:Nat):Int):=by left
  let aj:seqIndex? r (ls.map V.int).length=some r.toNat:=(kA (by unfold ixN;rw[uh2 r0,uh2 (by rw[c9];left)])).1;exact⟨l,_,r,r.toNat,.int ls[r.toNat],M,b1 _ _ ai e1,by left,by left,aj,by rw[j0,d7 ah];rfl,?_⟩;exact⟨U,E,by rw[aL af.symm];exact b1 _ _ O e2,?_,?_⟩
  ·rw[c9];exact ubv (by left:ms.length<=1000) (by decide)
  ·exact⟨_,ls.eraseIdx r.toNat,ms++[ls[r.toNat]],rfl,?_,?_,?_,?_,?_,by rw[i7,j6];left⟩
   ·rw[aL af,aM,mX]
   ·rw[aM,uaq];rfl
   ·obtain⟨a,b,e,z⟩:=p1;exact⟨a,b,by rw[aL O.symm,aL ai.symm];exact e,z⟩
   ·intro b o hb e;let n1:b≠l:=λ x=>by rw[x,fl] at e;cases e
    let n2:b≠U:=λ x=>by rw[x,aa] at e;cases e
    rw[aL n2,aL n1];exact b1 _ _ hb (kp _ _ hb e)
   ·exact List.Perm.trans ?_ pm;rw[ufm];exact uhg _ ?_;show (ls[r.toNat]::ls.eraseIdx r.toNat).Perm ls;exact mH ls r.toNat ah
 case fin =>
  rintro σ H' ⟨t,ls,ms,rfl,e1,e2,ae,kp,pm,al⟩;let ad:ls=[]:=by
   let:=pm.length_eq;rw[i7,c9,uaa] at this;exact uby (by left)
  subst ad;rw[uc5] at pm;exact⟨A,q U H' ms kp ae aa O e2 pm⟩
def WInv (H:Hp)(p ln lt:o7)(m n st wy:Int)(ms:List Int)(b a:Nat)(σ:L2.St)(H':Hp):Prop :=
 ∃ (t7 t8 t9 t10:Option V)(ys:List V)(ties:List Tie),σ=[some (.ref p),some (.int m),some (.int n),some (.int st),some (.int wy),some (.ref ln),some (.ref lt),t7,t8,t9,t10] /\
  H' ln=some (.lst (ms.map V.int))/\H' lt=some (.lst ys)/\TieL H' ys ties/\Pot H' p/\(∀ b o,b≠p->H b=some o->H' b=some o)/\Grown n.toNat ms b a ties
theorem wC (T:Bi mg)(D:DefOk K mg "_law_web" s__law_web ["pot","most"])(O__law_take:‹2› "_law_take" ["pot","many"] spTake)(O__law_order:‹2› "_law_order" ["pot","many"] spOrder)
  (O__law_tied:‹2› "_law_tied" ["pot","n","style","a","b"] spTied) (O__law_length:‹2› "_law_length" ["pot","way"] spLength):‹3› "_law_web" ["pot","most"] (spWeb K):=by
 exists 2,sc__law_web;obtain⟨p,m,rfl,hp,bd,ba,q⟩:=h;refine⟨_,(aD (aN (i:=2) nd rfl (t6 rfl) (aF bI aC (aH O__law_take hr rfl ‹88›))) (aD (aN (i:=3) nd rfl (t6 rfl) ‹31›) (aD (aN (i:=4) nd rfl (t6 rfl) ‹31›) (aD (aN (i:=5) nd rfl (t6 rfl) (aH O__law_order hr rfl (aA (pv 0) (aA (pv 2) aB)))) (aD (aN (i:=6) nd rfl (t6 rfl) (eC aB)) (aD (bW PassesOwn.never rfl (dR rfl T.z_range (aA (pv 2) aB)) (aK (i:=7) nd rfl (t6 rfl)) (aE (bW PassesOwn.never rfl (dR rfl T.z_range (aA (pv 7) aB)) (aK (i:=8) nd rfl (t6 rfl)) (aE (aS (PW.pt (fU (cA (aH O__law_tied hr rfl (aA (pv 0) (aA (pv 2) (aA (pv 3) (aA (pv 8) (aA (pv 7) aB))))))) (iA (aO cS (aP bD rfl T.z_len (by symm) (aA (pv 6) aB)) aC (nomark _))))) (aD (cB (aP vH rfl T.z_sorted (by symm) (aA (eC (aA (aG aY (pv 5) (pv 8) ‹34›) (aA (aG aY (pv 5) (pv 7) ‹34›) aB))) aB)) (zdu (n:=2) rfl (aQ (aK (i:=9) nd rfl (t6 rfl)) (aQ (aK (i:=10) nd rfl (t6 rfl)) bL)))) (aE (dX (dQ ubs uch ucg gR (pv 6) (aA (qP (aA (pv 9) (aA (pv 10) (aA (aH O__law_length hr rfl (aA (pv 0) (aA (pv 4) aB))) aB)))) aB))))) aT))))) (aE (aJ (qP (aA (pv 2) (aA (bA lH rfl T.z_tuple (by symm) (aA (aP vG rfl T.z_sorted (by symm) (aA (pv 6) aB)) aB)) aB))))))))))),?_⟩;refine⟨K,p,m,rfl,hp,by left,by left,λ r1 H1 be bf b1 p1=>?_⟩;refine⟨E,?_⟩;refine⟨A,p,8,rfl,p1,by decide,by decide,λ st H2 _ _ b2 p2=>?_⟩;refine⟨A,p,5,rfl,p2,by decide,by decide,λ wy H3 ax a7 b3 p3=>?_⟩;refine⟨K,p,A,p3,by left,by left,λ ln H4 O b4 p4 f4 n4 e4 pm=>?_⟩;obtain⟨n,en⟩:∃ n:Int,n=1+r1:=⟨_,rfl⟩;rw[← en] at pm;have af:But p H H4:=b1.trans (b2.trans (b3.trans b4));have bc:H ln=none:=by
  cases e:H ln with
  | none=>rfl
  | some u=>rw[(b1.trans (b2.trans b3)) _ _ n4 e] at f4;cases f4
 exact⟨(by show 0<=p8;decide),λ lt U=>?_⟩;let ap:H lt=none:=by
  by_cases z:lt=p
  ·obtain⟨a',b',e',_⟩:=p4;rw[z,e'] at U;cases U
  ·cases e:H lt with
   | none=>rfl
   | some u=>rw[af _ _ z e] at U;cases U
 let ac:lt≠p:=by
  obtain⟨a',b',e',_⟩:=p4;exact λ x=>by rw[x,e'] at U;cases U
 have ao:ln≠lt:=λ x=>by rw[← x,e4] at U;cases U
 let au:Perm0 n.toNat O:=Perm0.of pm;exact⟨A,n,by rw[en],by left,by left,?_⟩;exact dE (n:=n.toNat) (λ i σ H'=>WInv H p ln lt m n st wy O i 0 σ H') ?start ?turn ?fin
 case start =>
  exact⟨none,none,none,none,[],[],by rw[en];rfl,by rw[aL ao];exact e4,aM,.nil,?_,λ b o hb e=>?_,Grown.start⟩
  ·obtain⟨a',b',e',z⟩:=p4;exact⟨a',b',by rw[aL ac.symm];exact e',z⟩
  ·rw[aL (λ x=>by rw[x,ap] at e;cases e)];exact af _ _ hb e
 case turn =>
  rintro i σ H' hi ⟨t7,t8,t9,ab,ys,F,rfl,g1,g2,g3,g4,g5,g6⟩;exact⟨K,by left,by left,?_⟩;let ei:((0+(i:Int)):Int).toNat=i:=by left
  rw[ei];exact dE (n:=i) (λ k σ an=>(∃ t7,σ[7]?=some (some (.int (0+(i:Int))))/\t7=())/\WInv H p ln lt m n st wy O i k σ an) ?start2 ?turn2 ?fin2
  case start2=>exact⟨⟨(),M⟩,some (.int (0+(i:Int))),t8,t9,ab,ys,F,rfl,g1,g2,g3,g4,g5,g6⟩
  case fin2 =>
   rintro σ an ⟨_,t7,t8,t9,ab,ys,F,rfl,g1,g2,g3,g4,g5,g6⟩;exact⟨t7,t8,t9,ab,ys,F,rfl,g1,g2,g3,g4,g5,g6.down⟩
  case turn2 =>
   rintro k σ K1 hk ⟨⟨_,h7,_⟩,t7,t8,t9,ab,ys,F,rfl,g1,g2,g3,g4,g5,g6⟩;let e7:t7=some (.int (0+(i:Int))):=by simpa using h7
   subst e7;let aa : ∀ {u8 u9 u10 : Option V}{ys' : List V}{ts : List Tie}{J : Hp}, J ln = some (.lst (O.map V.int)) → J lt = some (.lst ys') → TieL J ys' ts → Pot J p → (∀ b o, b ≠ p → H b = some o → J b = some o) → Grown n.toNat O i (k+1) ts →
       (∃ t7,([some (.ref p),some (.int m),some (.int n),some (.int st),some (.int wy),some (.ref ln),some (.ref lt),some (.int (0+(i:Int))),u8,u9,u10]:L2.St)[7]?=some (some (.int (0+(i:Int))))/\t7=())/\WInv H p ln lt m n st wy O i (k+1) [some (.ref p),some (.int m),some (.int n),some (.int st),some (.int wy),some (.ref ln),some (.ref lt),some (.int (0+(i:Int))),u8,u9,u10] J :=
    λ a1 a2 a3 a4 a5 a6=>⟨⟨(),rfl,rfl⟩,_,_,_,_,_,_,rfl,a1,a2,a3,a4,a5,a6⟩
   exact⟨K,Z,p,P,_,A,g4,λ kk K2 c2 d2=>⟨kk,rfl,?_⟩⟩;let ad:ln≠p:=n4;let l1:K2 ln=some (.lst (O.map V.int)):=c2 _ _ ad g1;let l2:K2 lt=some (.lst ys):=c2 _ _ ac g2;let am:∀ a xs,K1 a=some (.tup xs)->K2 a=some (.tup xs):=λ a xs e=>c2 _ _ (λ x=>by
    obtain⟨a',b',e',_⟩:=g4;rw[x,e'] at e;cases e) e
   let l3:TieL K2 ys F:=g3.keep am;let l5:∀ b o,b≠p->H b=some o->K2 b=some o:=λ b o hb e=>c2 _ _ hb (g5 _ _ hb e);let ar:ys.length=F.length:=Paired.length g3;cases kk with
   | false =>
    exact iteF (iteF ?_);exact aa l1 l2 l3 d2 l5 g6.skip
   | true =>
    exact iteT ?_;exact⟨A,lt,A,.inl (SqL.of l2),E,A,?_⟩;exact ite2 (λ c=>?_) (λ c=>?_)
    case refine_2=>exact aa l1 l2 l3 d2 l5 g6.skip
    let c':((ys.length:Nat):Int)<60:=uh0 c;let az:k<n.toNat:=by left
    let aj:∀ j:Nat,j<n.toNat->atI (O.map V.int) (j:Int)=some (.int (O.getD j 0)):=λ j hj=>by
     let al:j<O.length:=by rw[au.len];exact hj
     exact qJ ?_;rw[j0,d7 al];simp [ub2,al]
    let ak:atI (O.map V.int) (0+(k:Int))=some (.int (O.getD k 0)):=by rw[Int.zero_add];exact aj k az
    let ai:atI (O.map V.int) (0+(i:Int))=some (.int (O.getD i 0)):=by rw[Int.zero_add];exact aj i hi
    exact⟨K,ln,V,SqL.of l1,ak,K,ln,V,SqL.of l1,ai,(by show 2<=p8;decide),λ s1 ah=>?_⟩;exact⟨s1,[O.getD k 0,O.getD i 0],rfl,SqL.of aM,(by show 2<64;decide),λ zs pz wz s2 ay=>?_⟩;obtain⟨x,y,rfl,aI,a8⟩:=wS pz wz;exact⟨s2,A,SqL.of aM,rfl,?_⟩;exact⟨_,A,E,?_⟩;let n1:∀ b o,K2 b=some o->b≠s1:=λ b o e=>aW e ah;let n2:∀ b o,K2 b=some o->b≠s2:=λ b o e=>aW (aU ah b o e) ay;let up:∀ b o,K2 b=some o->upd (upd K2 s1 (.lst [.int (O.getD k 0),.int (O.getD i 0)])) s2 (.lst [.int x,.int y]) b=some o:=λ b o e=>by rw[aL (n2 b o e),aL (n1 b o e)];exact e
    exact⟨A,.inl ⟨Y,SqL.of (up _ _ l2)⟩,K,K,?_⟩;exact⟨p,wy,rfl,?_,ax,a7,λ len K5 av a9 c5 d5=>?_⟩
    ·obtain⟨a',b',e',z⟩:=d2;exact⟨a',b',up _ _ e',z⟩
    exact⟨(by show 3<=p8;decide),λ tp ae=>?_⟩;let pl:∃ xs,K2 p=some (.lst xs):=d2.lst;let aq:∀ b o,b≠p->K2 b=some o->upd K5 tp (.tup [.int x,.int y,.int len]) b=some o:=λ b o hb e=>by
     let e5:=c5 b o hb (up b o e);rw[aL (aW e5 ae)];exact e5
    exact⟨lt,E,aq _ _ ac l2,?_,?_⟩
    ·exact ubv (by left:ys.length<=1000) (by decide)
    let k5:∀ b o,b≠p->b≠lt->K2 b=some o->upd (upd K5 tp (.tup [.int x,.int y,.int len])) lt (.lst (ys++[.ref tp])) b=some o:=λ b o hb a0 e=>by rw[aL a0];exact aq b o hb e
    let aR:tp≠lt:=λ z=>by
     have:=c5 _ _ ac (up _ _ l2);rw[← z,ae] at this;cases this
    exact aa (k5 _ _ ad ao l1) aM (TieL.snoc (TieL.keep l3 λ a xs e=>k5 _ _ ?_ ?_ e) ?_) ?_ (λ b o hb e=>k5 _ _ hb (λ z=>by rw[z,ap] at e;cases e) (l5 _ _ hb e))
     (g6.add (x:=x) (y:=y) (l:=len) au hk hi (by left) av a9 a8 aI)
    ·intro z;obtain⟨bb,e'⟩:=pl;rw[z,e'] at e;cases e
    ·intro z;rw[z,l2] at e;cases e
    ·rw[aL aR,aM];rfl
    ·obtain⟨a',b',e',z⟩:=d5;exact⟨a',b',by rw[aL ac.symm,aL (aW e' ae)];exact e',z⟩
 case fin =>
  rintro σ H' ⟨t7,t8,t9,ab,ys,F,rfl,g1,g2,g3,g4,g5,g6⟩;let ar:ys.length=F.length:=Paired.length g3;let few:=g6.few;exact⟨K,lt,ys,F.map tieI,rfl,SqL.of g2,by left,lM (λ y t ⟨a,e1,e2⟩=>⟨a,e1,SqT.of e2⟩) g3,λ k hk=>?_,λ qs pq wq l hl=>?_⟩
  ·obtain⟨t,_,rfl⟩:=w8.mp hk;exact λ z=>by cases z
  obtain⟨ts,pt,tl,wt⟩:=zb5 g3 pq wq;exact⟨l,A,.inl ⟨SqL.of aM,λ l' aw=>?_⟩⟩;exact⟨(by show 2<=p8;decide),λ v hv=>?_⟩;let S1:Same H' (upd H' l (.lst (qs.map (·.1)))):=aU hl;let S2:=S1.trans (aU (o:=.tup (qs.map (·.1))) aw);let S3:=S2.trans (aU (o:=.tup [.int n,.ref l']) hv);exact q (.ref v) _ n ts (λ b o hb e=>S3 _ _ (g5 _ _ hb e)) ?_ ⟨by left,by left,zch wt ((pt.pairwise_iff (λ {a b} h z=>h ⟨z.1.symm,z.2.symm⟩)).mpr g6.nd),by let:=pt.length_eq;left,λ t ht=>?_⟩ (by left) ?_
  ·obtain⟨a',b',e',z⟩:=g4;exact⟨a',b',S3 _ _ e',z⟩
  ·let:=g6.ok t (pt.mem_iff.mp ht);let e:((n.toNat:Nat):Int)=n:=by left
   rw[e] at this;exact this
  ·exact⟨v,A,aM,E,_,A,⟨l',qs.map (·.1),rfl,?_,?_⟩,rfl⟩
   ·exact (aU hv) _ _ aM
   ·exact TieL.is (tl.keep λ a xs e=>S3 _ _ e)
theorem wA (T:Bi mg)(D:DefOk K mg "is_whole" s_is_whole ["thing"]):‹1› "is_whole" ["thing"] (spD1 K (λ _=>True) wholeB):=by
 exists 0,sc_is_whole;obtain⟨d,v,rfl,F,_,q⟩:=h;let z:=q H (Same.refl H);let ty:=kO F;exact⟨_,(aE (aJ (cJ (aP (dU (n:="int")) rfl T.z_isinstance (by symm) (aA (pv 0) (aA (dZ (v:=.ty "int") rfl T.z_int (by symm) rfl) aB))) (cD (zdw (aP (dU (n:="bool")) rfl T.z_isinstance (by symm) (aA (pv 0) (aA (dZ (v:=.ty "bool") rfl T.z_bool (by symm) rfl) aB)))))))),?_⟩;cases d with
 | int i=>exact⟨A,P,A,ty,X,iteT ⟨A,P,A,ty,X,z⟩⟩
 | bool b=>exact⟨A,P,A,ty,X,iteT ⟨A,P,A,ty,X,z⟩⟩
 | none=>exact⟨A,P,A,ty,X,iteF z⟩
 | str x=>exact⟨A,P,A,ty,X,iteF z⟩
 | tuple ds=>exact⟨A,P,A,ty,X,iteF z⟩
 | list ds=>exact⟨A,P,A,ty,X,iteF z⟩
 | dict ds=>exact⟨A,P,A,ty,X,iteF z⟩
theorem vA (T:Bi mg)(D:DefOk K mg "is_wholes" s_is_wholes ["thing"])(O_is_whole:‹1› "is_whole" ["thing"] (spD1 K (λ _=>True) wholeB)):‹2› "is_wholes" ["thing"] (spD1 K few wholesB):=by
 exists 1,sc_is_wholes;obtain⟨d,v,rfl,hd,U,q⟩:=h;let O:=q H (Same.refl H);let ty:=kO hd;exact⟨_,(aE (aJ (cJ (aP (dU (n:="tuple")) rfl T.z_isinstance (by symm) (aA (pv 0) ‹72›)) (cD (aP (dF rfl) rfl T.z_all (by symm) (aA (bQ (N:=["thing"]) (sc0:=defScope s_is_wholes) (own:=["part"]) (fr:=[]) (js:=[]) rfl (cC (pv 0)) (λ _ _ _ _=>(aK (i:=0) (by show uau [("part":Str)];decide +kernel) rfl (t6 rfl))) ‹85› (λ _ _ _ _=>(aH O_is_whole hr rfl (aA (pv 0) aB)))) aB)))))),?_⟩;cases d with
 | int i=>exact⟨A,P,A,ty,X,iteF O⟩
 | bool b=>exact⟨A,P,A,ty,X,iteF O⟩
 | none=>exact⟨A,P,A,ty,X,iteF O⟩
 | str x=>exact⟨A,P,A,ty,X,iteF O⟩
 | list ds=>exact⟨A,P,A,ty,X,iteF O⟩
 | dict ds=>exact⟨A,P,A,ty,X,iteF O⟩
 | tuple ds =>
  exact⟨A,P,A,ty,X,iteT ?_⟩;obtain⟨p,vs,rfl,hp,z⟩:=hd;let hl:=z.length;let hf:ds.length<=1000:=U;exact⟨A,p,rfl,⟨_,SqT.of hp⟩,?_⟩;exact dS hp (λ F=>F.length=1) (λ i v _=>v=.bl (wholeB (ds.getD i .none))) (by left) (by rfl) ‹73› (λ i x F H' hx s sg C hC=>?_) (λ L ys H' hL s hH aa ac=>?_)
  ·obtain⟨d,ab,ad⟩:=z.get' hx
   match F,sg with
   | [o],_ =>
    exact⟨A,d,x,rfl,Is.same s d ad,trivial,λ H5 s5=>hC _ _ _ rfl s5 ?_⟩;simp [ub2,ab]
  ·exact⟨L,A,SqL.of (by rw[hH,dI (aa.trans hl) ac]),?_⟩;let e:((d8 ds.length).map λ i=>wholeB (ds.getD i .none)).all id=ds.all wholeB:=by
    let:((d8 ds.length).map λ i=>wholeB (ds.getD i .none))=ds.map wholeB:=by
     let:=congrArg (List.map wholeB) (L3.cT ds .none);rw[ua0] at this;exact this
    rw[this,uck];rfl
   rw[e];exact q H' s
inductive spTupN_i  (vs:List V) (H:Hp) (Q:VK):Prop
 | mk:∀ (t:o7)(xs:List V)(m:Nat),(vs=[.ref t,.int (m:Int)])->(H t=some (.tup xs))->(Q (.bl (decide (xs.length=m))) H)->spTupN_i vs H Q
def spTupN :Sp:=λ vs H Q _=>spTupN_i vs H Q
theorem sS (T:Bi mg)(D:DefOk K mg "is_tuple_of" s_is_tuple_of ["thing","many"]):‹1› "is_tuple_of" ["thing","many"] spTupN:=by
 exists 0,sc_is_tuple_of;obtain⟨t,xs,m,rfl,F,q⟩:=h;exact⟨_,(aE (aJ (cJ (aP (dU (n:="tuple")) rfl T.z_isinstance (by symm) (aA (pv 0) ‹72›)) (cD (aZ aV (aP bD rfl T.z_len (by symm) (aA (pv 0) aB)) (pv 1) (nomark _)))))),?_⟩;exact⟨A,P,A,TyOf.tup F,X,iteT ?_⟩;exact⟨A,t,A,.inr (SqT.of F),C,?_⟩;let e:decide (V.int ((xs.length:Nat):Int)=V.int (m:Int))=decide (xs.length=m):=by
  by_cases z:xs.length=m
  ·rw[uhz z,uhz (by rw[z])]
  ·rw[uh1 z,uh1 λ y=>z (by injection y with y;left)]
 rw[e];exact q
theorem sM (T:Bi mg)(D:DefOk K mg "is_tie_number" s_is_tie_number ["web","thing"])(O_is_whole:‹1› "is_whole" ["thing"] (spD1 K (λ _=>True) wholeB)):‹2› "is_tie_number" ["web","thing"] (spNum K):=by
 exists 1,sc_is_tie_number;obtain⟨n,ts,d,v,u,rfl,hw,O,q⟩:=h;exact⟨_,(aE (aJ (cJ (aH O_is_whole hr rfl (aA (pv 1) aB)) (cD (oO kQ cS aC (pv 1) (aP bD rfl T.z_len (by symm) (aA (aG aR (pv 0) aC ‹34›) aB))))))),?_⟩;exact⟨A,d,u,rfl,O,trivial,λ H1 U=>⟨_,rfl,?_⟩⟩;let z:=q H1 U;cases d with
 | int i =>
  let e:u=.int i:=O;subst e;obtain⟨p,g,ws,rfl,hp,hg,F,hl⟩:=bY (Is.same U _ hw);exact iteT ⟨A,E,A,ite2 (λ c=>⟨_,rfl,p,_,_,_,rfl,rfl,SqT.of hp,rfl,g,_,rfl,.inr (SqT.of hg),_,_,rfl,rfl,?_⟩) (λ c=>?_)⟩
  ·let e:numB ts.length (.int i)=decide (i<(ws.length:Int)):=by show (decide (0<=i)&&decide (i<(ts.length:Int)))=_;rw[show decide (0<=i)=true from c,hl];rfl
   rw[e] at z;exact z
  ·let e:numB ts.length (.int i)=false:=by show (decide (0<=i)&&decide (i<(ts.length:Int)))=_;rw[show decide (0<=i)=false from uce.mpr c];rfl
   rw[e] at z;exact z
 | bool b=>exact iteF z
 | none=>exact iteF z
 | str x=>exact iteF z
 | tuple ds=>exact iteF z
 | list ds=>exact iteF z
 | dict ds=>exact iteF z
theorem sD (T:Bi mg)(D:DefOk K mg "is_rising" s_is_rising ["parts"]):‹1› "is_rising" ["parts"] spRisI:=by
 exists 0,sc_is_rising;obtain⟨p,ns,rfl,hp,hn,q⟩:=h;exact⟨_,(aE (aJ (aP (dF rfl) rfl T.z_all (by symm) (aA (bQ (N:=["parts"]) (sc0:=defScope s_is_rising) (own:=["low","high"]) (fr:=[]) (js:=[]) rfl (qO true true rfl T.z_zip (aA (pv 0) (aA (bE bG (pv 0) (bF aC) bB) aB))) (λ _ _ _ _=>(dJ (n:=2) rfl (aQ (aK (i:=0) (by show uau [("low":Str),("high":Str)];decide +kernel) rfl (t6 rfl)) (aQ (aK (i:=1) (by show uau [("low":Str),("high":Str)];decide +kernel) rfl (t6 rfl)) bL)))) ‹85› (λ _ _ _ _=>(aZ cS (pv 0) (pv 1) (nomark _)))) aB)))),?_⟩;exact⟨Z,p,A,hp,λ p2 H1 S1 O=>?_⟩;exact⟨p,p2,rfl,⟨_,SqT.of (S1 _ _ hp)⟩,⟨_,SqT.of O⟩,?_⟩;let aa:H1 p2=some (.tup ((ns.drop 1).map V.int)):=by rw[O,cut1,udq]
 exact oZ (t1:=true) (t2:=true) (xs:=ns.map V.int) (zs:=(ns.drop 1).map V.int) (S1 _ _ hp) aa (λ F=>F.length=2) (λ i v _=>v=.bl (decide ‹124›)) (by rw[c9];left) (by rfl) ‹73› (λ i x z U F H' hx hz s hU sg C hC=>?_) (λ L zs H' hL s hH ab ac=>?_)
 ·match F,sg with
  | [o1,o2],_ =>
   rw[j0] at hx hz;obtain⟨a,ha,rfl⟩:=r6.mp hx;obtain⟨b,hb,rfl⟩:=r6.mp hz;exact⟨U,A,SqT.of aM,Y,A,E,?_⟩;exact⟨K,a,b,M,?_⟩;exact hC _ _ _ rfl (aU hU) ?_;let e1:ns.getD i 0=a:=by simp [ub2,ha]
   let e3:(ns.drop 1).getD i 0=b:=by simp only [ub2,hb];rfl
   rw[e1,e3]
 ·exact⟨L,A,SqL.of (by rw[hH,dI ab ac]),?_⟩;let q':=q H' (S1.trans s);unfold risI at q';rw[c9,c9];exact q'
theorem wZ (T:Bi mg)(D:DefOk K mg "is_keep" s_is_keep ["web","thing"])(O_is_tie_number:‹2› "is_tie_number" ["web","thing"] (spNum K))(O_is_rising:‹2› "is_rising" ["parts"] spRisI):‹3› "is_keep" ["web","thing"] (spIsKeep K):=by
 exists 2,sc_is_keep;obtain⟨n,ts,d,v,u,rfl,hw,hd,U,q⟩:=h;let O:=q H (Same.refl H);let ty:=kO hd;exact⟨_,(aE (aJ (cJ (aP (dU (n:="tuple")) rfl T.z_isinstance (by symm) (aA (pv 1) ‹72›)) (cJ (aP (dF rfl) rfl T.z_all (by symm) (aA (bQ (N:=["web","thing"]) (sc0:=defScope s_is_keep) (own:=["part"]) (fr:=["web"]) (js:=[0]) rfl (cC (pv 1)) (λ _ _ _ _=>(aK (i:=0) (by show uau [("part":Str),("web":Str)];decide +kernel) rfl (t6 rfl))) ‹85› (λ _ _ _ _=>(aH O_is_tie_number hr rfl (aA (pv 1) (aA (pv 0) aB))))) aB)) (cD (aH O_is_rising hr rfl (aA (pv 1) aB))))))),?_⟩;cases d with
 | int i=>exact⟨A,P,A,ty,X,iteF O⟩
 | bool b=>exact⟨A,P,A,ty,X,iteF O⟩
 | none=>exact⟨A,P,A,ty,X,iteF O⟩
 | str x=>exact⟨A,P,A,ty,X,iteF O⟩
 | list ds=>exact⟨A,P,A,ty,X,iteF O⟩
 | dict ds=>exact⟨A,P,A,ty,X,iteF O⟩
 | tuple ds =>
  exact⟨A,P,A,ty,X,iteT ?_⟩;obtain⟨p,vs,rfl,hp,F⟩:=hd;let hl:=F.length;let hf:ds.length<=1000:=U;exact⟨A,p,rfl,⟨_,SqT.of hp⟩,?_⟩;exact dS hp (λ aa=>∃ o,aa=[o,some v]) (λ i v _=>v=.bl (numB ts.length (ds.getD i .none))) (by left) ‹68› ‹73› (λ i x aa H' hx s sg C hC=>?_) (λ L ys H' hL s hH ab ad=>?_)
  ·obtain⟨d,ac,ae⟩:=F.get' hx;obtain⟨o,rfl⟩:=sg;exact⟨K,n,ts,d,v,x,rfl,Is.same s _ hw,Is.same s d ae,λ H5 s5=>hC _ _ _ ⟨_,rfl⟩ s5 ?_⟩;simp [ub2,ac]
  ·let e:((d8 ds.length).map λ i=>numB ts.length (ds.getD i .none)).all id=ds.all (numB ts.length):=by
    let z:=congrArg (List.map (numB ts.length)) (L3.cT ds .none);rw[ua0] at z;let z':((d8 ds.length).map λ i=>numB ts.length (ds.getD i .none))=ds.map (numB ts.length):=z;rw[z',uck];rfl
   exact⟨L,A,SqL.of (by rw[hH,dI (ab.trans hl) ad]),A,?_⟩;rw[e];let q1:=q H' s;cases c:ds.all (numB ts.length) with
   | false =>
    exact iteF ?_;let e1:keepB ts.length (.tuple ds)=false:=by show (ds.all (numB ts.length)&&_)=false;rw[c];rfl
    rw[e1] at q1;exact q1
   | true =>
    exact iteT ?_;let ei:ds=(ds.map intOf).map .int:=iC λ d hd=>by
     obtain⟨i,e,_⟩:=zcr (v8.mp c d hd);exact⟨i,e⟩
    let ev:vs=(ds.map intOf).map V.int:=by
     rw[ei] at F;exact IsAll.of_ints F
    refine⟨A,p,ds.map intOf,rfl,by rw[← ev];exact s _ _ hp,by rw[c9];exact hf,λ H2 s2=>?_⟩;have q2:=q H2 (s.trans s2);have e1:keepB ts.length (.tuple ds)=risI (ds.map intOf):=by show (ds.all (numB ts.length)&&_)=_;rw[c];rfl
    rw[e1] at q2;exact q2
inductive spPlace_i (K:b8)(vs:List V)(H:Hp)(Q:VK):Prop
 | mk:∀ (n:Int)(ts:List Tie)(wv:V)(i:Int),(vs=[wv,.int i])->‹45›->(∀ H',Same H H'->Q (.bl (decide (0<=i)&&decide (i<n))) H')->spPlace_i K vs H Q
def spPlace (K:b8):Sp:=λ vs H Q _=>spPlace_i K vs H Q
def placesB (n:Int)(ns:List Int):Bool:=ns.all λ i=>decide (0<=i)&&decide (i<n)
inductive spUnlike_i (K:b8)(vs:List V)(H:Hp)(Q:VK):Prop
 | mk:∀ (n:Int)(ts:List Tie)(wv:V)(p:o7)(ns:List Int),(vs=[wv,.ref p])->‹45›->(IntT H p ns)->(∀ H',Same H H'->Q (.bl (placesB n ns&&decide ns.Nodup)) H')->spUnlike_i K vs H Q
def spUnlike (K:b8):Sp:=λ vs H Q _=>spUnlike_i K vs H Q
theorem wB (T:Bi mg)(D:DefOk K mg "is_place" s_is_place ["web","thing"])(O_is_whole:‹1› "is_whole" ["thing"] (spD1 K (λ _=>True) wholeB)):‹2› "is_place" ["web","thing"] (spPlace K):=by
 exists 1,sc_is_place;obtain⟨n,ts,wv,i,rfl,O,q⟩:=h;obtain⟨g0,g,ws,rfl,F,_⟩:=bY O;exact⟨_,(aE (aJ (cJ (aH O_is_whole hr rfl (aA (pv 1) aB)) (cD (oO kQ cS aC (pv 1) (aG aR (pv 0) aC ‹34›)))))),?_⟩;exact⟨A,.int i,.int i,M,trivial,λ H1 U=>⟨_,rfl,iteT ?_⟩⟩;let z:=q H1 U;exact⟨A,E,A,ite2 (λ c=>?_) (λ c=>?_)⟩
 ·rw[show decide (0<=i)=true from c,udr] at z;exact⟨A,g0,V,SqT.of (U _ _ F),rfl,E,z⟩
 ·rw[show decide (0<=i)=false from uce.mpr c,udw] at z;exact z
theorem rT (T:Bi mg)(D:DefOk K mg "are_unlike_places" s_are_unlike_places ["web","thing"])(O_is_place:‹2› "is_place" ["web","thing"] (spPlace K)):‹3› "are_unlike_places" ["web","thing"] (spUnlike K):=by
 exists 2,sc_are_unlike_places;obtain⟨n,ts,wv,p,ns,rfl,ad,it,q⟩:=h;let lm:‹67›.length=ns.length:=c9 _;let O:=it.2;exact⟨_,(aD (aS (PW.pt (cQ (cO (cA (aP (dU (n:="tuple")) rfl T.z_isinstance (by symm) (aA (pv 1) ‹72›)))) (dC (cO (cA (aP (dF rfl) rfl T.z_all (by symm) (aA (bQ (N:=["web","thing"]) (sc0:=defScope s_are_unlike_places) (own:=["part"]) (fr:=["web"]) (js:=[0]) rfl (cC (pv 1)) (λ _ _ _ _=>(aK (i:=0) (by show uau [("part":Str),("web":Str)];decide +kernel) rfl (t6 rfl))) ‹85› (λ _ _ _ _=>(aH O_is_place hr rfl (aA (pv 1) (aA (pv 0) aB))))) aB))))))) (aE (aJ bK)) aT) (aE (aJ (aZ aV (aP nK rfl T.z_len (by symm) (aA (bA (nJ rfl) rfl T.z_set (by symm) (aA (pv 1) aB)) aB)) ‹59› (nomark _))))),?_⟩;exact⟨A,P,A,TyOf.tup it.1,X,iteF ?_⟩;exact⟨A,p,rfl,⟨_,SqT.of it.1⟩,?_⟩;exact dS it.1 (λ aa=>∃ o,aa=[o,some wv]) (λ i v _=>v=.bl ((λ i=>decide (0<=ns.getD i 0)&&decide (ns.getD i 0<n)) i)) (by left) ‹68› ‹73› (λ i x aa H' hx s2 sg C hC=>?_) (λ L ys H2 hL s2 hH ab ac=>?_)
 ·obtain⟨o,rfl⟩:=sg;rw[j0] at hx;obtain⟨j,hj,rfl⟩:=r6.mp hx;let ej:ns.getD i 0=j:=by rw[c8,hj];rfl
  exact⟨K,n,ts,wv,j,rfl,Is.same s2 _ ad,λ H5 s5=>hC _ _ _ ⟨_,rfl⟩ s5 ?_⟩;show V.bl (decide (0<=j)&&decide (j<n))=V.bl (decide (0<=ns.getD i 0)&&decide (ns.getD i 0<n));rw[ej]
 ·exact⟨L,A,SqL.of (by rw[hH,dI (ab.trans lm) ac]),A,?_⟩;let F:((d8 ns.length).map λ i=>decide (0<=ns.getD i 0)&&decide (ns.getD i 0<n)).all id=placesB n ns:=by
   let z:=congrArg (List.map λ j:Int=>decide (0<=j)&&decide (j<n)) (L3.cT ns 0);rw[ua0] at z;let z':((d8 ns.length).map λ i=>decide (0<=ns.getD i 0)&&decide (ns.getD i 0<n))=ns.map λ j=>decide (0<=j)&&decide (j<n):=z;rw[z',uck];rfl
  let q1:∀ {J:Hp},Same H2 J->Q (.bl (placesB n ns&&decide ns.Nodup)) J:=λ S=>q _ (s2.trans S);exact iteB2 (λ c=>?_) (λ c=>?_)
  ·rw[F] at c;exact⟨A,p,ns,rfl,s2 _ _ it.1,O,λ u J S f e=>?_⟩;exact⟨u,_,A,e,A,p,A,.inr (SqT.of (S _ _ (s2 _ _ it.1))),rfl,?_⟩;let U:=q1 S;rw[c,udr] at U;let ed:decide (V.int ((HT.setN ns ns.length:Nat):Int)=V.int ((‹67›.length:Nat):Int))=decide ns.Nodup:=by
    rw[lm];by_cases z:ns.Nodup
    ·rw[uhz z,(gM ns).mpr z,uhz rfl]
    ·rw[uh1 z];exact uh1 λ y=>z ((gM ns).mp (by injection y with y;left))
   rw[ed];exact U
  ·rw[F] at c;let U:=q1 (Same.refl _);rw[c,udw] at U;exact U
theorem tP (T:Bi mg)(D:DefOk K mg "tie_weights" s_tie_weights ["web"]):‹1› "tie_weights" ["web"] (spWeights K):=by
 exists 0,sc_tie_weights;obtain⟨n,ts,v,rfl,hw,ab,q⟩:=h;obtain⟨g0,g,ws,rfl,aa,hg,ac,F⟩:=bY hw;exact⟨_,(aD (aN (i:=1) nd rfl (t6 rfl) (bP aB)) (aD (aN (i:=2) nd rfl (t6 rfl) aC) (aD (bW PassesOwn.never rfl (cC (aG aR (pv 0) aC ‹34›)) ‹96› (aD (dX (dQ ubs uch ucg gN (pv 1) (aA (pv 2) aB))) (aE (aN (i:=2) nd rfl (t6 rfl) (aF fX aC (pv 2)))))) (aE (aJ (pv 1)))))),?_⟩;exact⟨(by show 0<=1000;decide),λ l J0 O f0 e0=>?_⟩;exact⟨A,g0,V,SqT.of (O _ _ aa),rfl,g,rfl,⟨_,SqT.of (O _ _ hg)⟩,?_⟩;exact fQ (xs:=ws) (λ i σ J=>∃ y3:Option V,σ=[some (.ref g0),some (.ref l),some (.int (2^i)),y3]/\Same H J/\J l=some (.lst (pows i))) ⟨none,rfl,O,e0⟩ (λ i σ J _ h=>by obtain⟨_,_,s,_⟩:=h;exact SqT.of (s _ _ hg)) (λ i x σ J hx h=>?_) (λ σ J h=>?_)
 ·obtain⟨y3,rfl,U,z⟩:=h;let hi:i<ws.length:=(j9.mp hx).1;exact⟨A,.inl ⟨Y,SqL.of z⟩,A,l,E,z,(by unfold pows;rw[c9,uaa];left),λ J1 b1 e2=>?_⟩;exact⟨A,E,.inl ⟨by decide,by decide⟩,?_⟩;exact⟨some x,?_,λ b o e=>b1 _ _ (aW e f0) (U _ _ e),by rw[e2,yN]⟩;let ep:(2:Int)*2^i=2^(i+1):=by rw[Int.pow_succ,Int.mul_comm]
  show [some (V.ref g0),some (V.ref l),some (V.int (2*2^i)),some x]=_;rw[ep]
 ·obtain⟨y3,rfl,U,z⟩:=h;exact⟨A,q l J U f0 (by rw[z,F])⟩
theorem vC (T:Bi mg)(D:DefOk K mg "cost_with" s_cost_with ["cost","length","weight"]):‹1› "cost_with" ["cost","length","weight"] (spCost K):=by
 exists 0,sc_cost_with
 obtain⟨c,x,y,l,F,rfl,z,q⟩:=h;exact⟨_,(aE (aJ (bC (aA (aF bI (aG aR (pv 0) aC ‹34›) (pv 1)) (aA (aF bI (aG aR (pv 0) aC ‹34›) (pv 2)) aB))))),?_⟩;exact⟨A,c,V,SqT.of z,X,E,A,c,V,SqT.of z,X,E,(by show 2<=1000;decide),λ t J S f e=>q t J S e⟩
def rWB (H:Hp)(wv kv:V)(n r:Int)(ts:List Tie)(ks:List Nat)(lw lc la:o7)(m:Nat)(σ:L2.St)(J:Hp):Prop:=∃ (cs:List ‹37›)(as:List (Option Nat))(ag:Bool)(y7 y8 y9 y10 y11 y12 y13:Option V),σ=[some wv,some kv,some (.int r),some (.ref lw),some (.ref lc),some (.ref la),some (.bl ag),y7,y8,y9,y10,y11,y12,y13] /\
 RA H J lw lc la (pows ts.length) cs as/\Far.Good (arcs ts ks) n.toNat r.toNat cs/\Far.Run (arcsB ts ks) r.toNat cs as/\(ag=false->Far.Stab2 (arcsB ts ks) cs)/\m=Far.mu cs+(if ag=true then 1 else 0)
theorem sL (T:Bi mg)(D:DefOk K mg "reached_from" s_reached_from ["web","keep","root"])(O_tie_weights:‹1› "tie_weights" ["web"] (spWeights K))(O_cost_with:‹1› "cost_with" ["cost","length","weight"] (spCost K)):‹2› "reached_from" ["web","keep","root"] (spReachedC K):=by
 exists 1,sc_reached_from;obtain⟨n,ts,ks,wv,kv,r,rfl,⟨au,ok,ba,ko⟩,r0,r1,q⟩:=h;let an:=ok.few;let n1:=ok.n1;let bf:=ok.n24;obtain⟨g0,g,ws,rfl,ao,hg,aI,bd⟩:=bY au;obtain⟨kp,rfl,a1⟩:=iU ba;let P:=hJ ok ko;exact⟨_,(aD (aN (i:=3) nd rfl (t6 rfl) (aH O_tie_weights hr rfl (aA (pv 0) aB))) (aD (aN (i:=4) nd rfl (t6 rfl) (aF pU (bP (aA bR aB)) (aG aR (pv 0) aC ‹34›))) (aD (aN (i:=5) nd rfl (t6 rfl) (aF pU (bP (aA bR aB)) (aG aR (pv 0) aC ‹34›))) (aD (cB (bC (aA aC (aA aC aB))) (fV (pv 4) (pv 2) fG)) (aD (aN (i:=6) nd rfl (t6 rfl) bK) (aD (oM PassesOwn.never (cA (pv 6)) (aD (aN (i:=6) nd rfl (t6 rfl) bK) (aE (bW PassesOwn.never rfl (cC (pv 1)) (aK (i:=7) nd rfl (t6 rfl)) (aD (cB (aG aR (aG aR (pv 0) aC ‹34›) (pv 7) ‹34›) (cI (n:=3) rfl (aQ (aK (i:=8) nd rfl (t6 rfl)) (aQ (aK (i:=9) nd rfl (t6 rfl)) (aQ (aK (i:=10) nd rfl (t6 rfl)) bL))))) (aE (bW PassesOwn.never rfl (cC (bC (aA (bC (aA (pv 8) (aA (pv 9) aB))) (aA (bC (aA (pv 9) (aA (pv 8) aB))) aB)))) (cI (n:=2) rfl (aQ (aK (i:=11) nd rfl (t6 rfl)) (aQ (aK (i:=12) nd rfl (t6 rfl)) bL))) (aD (aS (aO dN (aG aY (pv 4) (pv 11) ‹34›) bR (nomark _)) (aE vX) aT) (aD (aN (i:=13) nd rfl (t6 rfl) (aH O_cost_with hr rfl (aA (aG aY (pv 4) (pv 11) ‹34›) (aA (pv 10) (aA (aG aY (pv 3) (pv 7) ‹34›) aB))))) (aE (aS (PW.pt (cQ (aO dN (aG aY (pv 4) (pv 12) ‹34›) bR (nomark _)) (dC (aO (zd0 hr.units0) (pv 13) (aG aY (pv 4) (pv 12) ‹34›) (nomark _))))) (aD (cB (pv 13) (fV (pv 4) (pv 12) fG)) (aD (cB (pv 11) (fV (pv 5) (pv 12) fG)) (aE (aN (i:=6) nd rfl (t6 rfl) bK)))) aT))))))))))) (aE (aJ (bC (aA (pv 4) (aA (pv 5) aB))))))))))),?_⟩
 ext
 exact⟨A,n,ts,A,au,an,λ lw J1 S1 f1 e1=>?_⟩
 ext
 exact⟨(by show 1<=1000;decide),λ t0 J2 S2 f2 e2=>⟨_,rfl,g0,_,_,_,rfl,rfl,SqT.of (S2 _ _ (S1 _ _ ao)),rfl,t0,n,_,rfl,rfl,e2,by left,by left,λ lc J3 S3 f3 e3=>?_⟩⟩
 ext
 let aq:=S1.trans (S2.trans S3);exact⟨(by show 1<=1000;decide),λ t1 J4 S4 f4 e4=>⟨_,rfl,g0,_,_,_,rfl,rfl,SqT.of (S4 _ _ (aq _ _ ao)),rfl,t1,n,_,rfl,rfl,e4,by left,by left,λ la J5 S5 f5 e5=>?_⟩⟩
 ext
 exact⟨(by show 2<=1000;decide),λ t2 J6 S6 f6 e6=>?_⟩
 ext
 let ar:=S4.trans (S5.trans S6);let al:=ar _ _ e3;exact⟨K,lc,_,r,r.toNat,M,al,fP r0 (by rw[ubg];left),?_⟩
 ext
 have av:Same H J6:=aq.trans ar;have fc:H lc=none:=(S1.trans S2).free f3;have fa:H la=none:=(aq.trans S4).free f5;have a7:lw≠lc:=λ z=>by rw[← z,S2 _ _ e1] at f3;cases f3
 have bb:lw≠la:=λ z=>by rw[← z,S4 _ _ (S3 _ _ (S2 _ _ e1))] at f5;cases f5
 have a3:lc≠la:=λ z=>by rw[← z,S4 _ _ e3] at f5;cases f5
 let R0:RA H J6 lw lc la (pows ts.length) (v6 n.toNat none) (v6 n.toNat none):=⟨av,fc,fa,a7,bb,a3,ar _ _ (S3 _ _ (S2 _ _ e1)),⟨_,al,CostL.first _⟩,by rw[S6 _ _ e5,List.map_replicate];rfl⟩;let R1:=R0.put (k:=r.toNat) al (by rw[ubg];left) e6
 exact⟨rWB H (.ref g0) (.ref kp) n r ts ks lw lc la,⟨P,_,true,none,none,none,none,none,none,none,rfl,R1,Far.Good.first (by left),Far.Run.first (by left),λ z=>(by cases z),rfl⟩,?_⟩
 ext
 intro m σ J h_
 try (with_reducible exact lG ?_;intro _ _)
 obtain⟨c0,a0,ag,y7,y8,y9,ad,U,F,O,rfl,R,G,AH,St,rfl⟩:=h_
 ext
 exact⟨A,ag,rfl,?_⟩;cases ag with
 | false =>
  exact iteF ?_
  ext
  obtain⟨cvs,hc,cl⟩:=R.co
  ext
  exact⟨K,(by show 2<=1000;decide),λ p J' S' f' e'=>q p lc la cvs a0 c0 J' (R.same.trans S') e' (S' _ _ hc) (S' _ _ R.ah) (cl.keep (pL S')) (AH.best P G (St rfl)) G (zcb (St rfl))⟩
 | true =>
  exact iteT ⟨λ a5 J'=>∃ m',m'<Far.mu c0+1/\rWB H (.ref g0) (.ref kp) n r ts ks lw lc la m' a5 J',λ _ _ h=>h,?_⟩
  ext
  exact⟨A,kp,rfl,⟨_,SqT.of (R.same _ _ a1)⟩,?_⟩
  ext
  exact fQ (xs:=(keepI ks).map V.int) (λ i σ J=>∃ (cs:List ‹37›)(as:List (Option Nat))(ag:Bool)(y7 y8 y9 ad U F O:Option V),σ=[some (.ref g0),some (.ref kp),some (.int r),some (.ref lw),some (.ref lc),some (.ref la),some (.bl ag),y7,y8,y9,ad,U,F,O] /\
   RA H J lw lc la (pows ts.length) cs as/\Far.Good (arcs ts ks) n.toNat r.toNat cs/\Far.Run (arcsB ts ks) r.toNat cs as/\Far.PS2 c0 (λ z=>z∈arcsB ts (ks.take i)) cs ag) ⟨c0,a0,false,_,_,_,_,_,_,_,rfl,R,G,AH,.inl ⟨rfl,rfl,λ u v l k c z=>by cases z⟩⟩ (λ i σ J _ h=>?_) (λ i x σ J hx h=>?_) (λ σ J h=>?_)
  ·try (with_reducible exact lG ?_;intro _ _)
   obtain⟨cs,as,ag,y7,y8,y9,ad,U,F,O,rfl,R,_⟩:=h
   ext
   exact SqT.of (R.same _ _ a1)
  ·try (with_reducible exact lG ?_;intro _ _)
   obtain⟨cs,as,ag,y7,y8,y9,ad,U,F,O,rfl,R,G,AH,Pt⟩:=h;obtain⟨k,hk,rfl⟩:=jZ hx;have am:k<ts.length:=ko.2 k (ual hk);obtain⟨ta,a8,af⟩:=dA aI am;obtain⟨t,et⟩:∃ t,t=tieAt ts k:=⟨_,rfl⟩;rw[← et] at af;have tk:=ok.tie _ (bN am).2;rw[← et] at tk
   ext
   exact⟨A,g0,V,SqT.of (R.same _ _ ao),X,g,V,SqT.of (R.same _ _ hg),bT (ua3 _) a8,ta,A,SqT.of (R.same _ _ af),Y,A,_,A,E,?_⟩
   ext
   exact⟨K,(by show 2<=1000;decide),λ t1 K1 T1 u1 v1=>⟨_,rfl,_,rfl,(by show 2<=1000;decide),λ t2 K2 T2 u2 v2=>⟨(by show 2<=1000;decide),λ t3 K3 T3 u3 v3=>⟨t3,rfl,⟨_,SqT.of v3⟩,?_⟩⟩⟩⟩
   ext
   let R3:=R.step (T1.trans (T2.trans T3));let a4:=T3 _ _ (T2 _ _ v1);let a2:=T3 _ _ v2;exact fQ (xs:=[V.ref t1,.ref t2]) (λ j σ J=>∃ (cs:List ‹37›)(as:List (Option Nat))(ag:Bool)(U F O:Option V),σ=[some (.ref g0),some (.ref kp),some (.int r),some (.ref lw),some (.ref lc),some (.ref la),some (.bl ag),some (.int (k:Int)),some (.int t.1),some (.int t.2.1),some (.int t.2.2),U,F,O] /\
    RA H J lw lc la (pows ts.length) cs as/\Far.Good (arcs ts ks) n.toNat r.toNat cs/\Far.Run (arcsB ts ks) r.toNat cs as/\Far.PS2 c0 (λ z=>z∈arcsB ts (ks.take i)\/z∈(arcs2B t k).take j) cs ag/\TupKeep K3 J) ⟨cs,as,ag,_,_,_,rfl,R3,G,AH,Pt.less λ a z=>z.elim id λ z=>(by cases z),λ _ _ e=>e⟩ (λ j σ J _ h=>?_) (λ j x σ J hx h=>?_) (λ σ J h=>?_)
   ·try (with_reducible exact lG ?_;intro _ _)
    obtain⟨cs,as,ag,U,F,O,rfl,R,G,AH,Pt,tk⟩:=h
    ext
    exact SqT.of (tk _ _ v3)
   ·try (with_reducible exact lG ?_;intro _ _)
    obtain⟨cs,as,ag,U,F,O,rfl,R,G,AH,Pt,ae⟩:=h;obtain⟨p,u,v,rfl,hp,u0,un,v0,vn,ay,aW,az⟩:∃ p u v,x=.ref p/\J p=some (.tup [.int u,.int v])/\0<=u/\u<n/\0<=v/\v<n/\(u.toNat,v.toNat,t.2.2)∈arcs ts ks/\(u.toNat,v.toNat,t.2.2,k)∈arcsB ts ks/\∀ z,z∈(arcs2B t k).take (j+1)->z∈(arcs2B t k).take j\/z=(u.toNat,v.toNat,t.2.2,k):=by
     have ai:∀ z,z∈arcs2B t k->z∈arcsB ts ks:=λ z hz=>arcsB_mem.mpr ⟨k,ual hk,by rw[← et];exact hz⟩;have aw:∀ z,z∈arcs2 t->z∈arcs ts ks:=λ z hz=>arcs_mem.mpr ⟨k,ual hk,by rw[← et];exact hz⟩
     match j,hx with
     | 0,hx=>cases hx;exact⟨t1,t.1,t.2.1,rfl,ae _ _ a4,by left,by left,by left,by left,aw _ (arcs2_mem.mpr (.inl rfl)),ai _ (arcs2B_mem.mpr (.inl rfl)),λ z hz=>by unfold arcs2B at *;simpa using hz⟩
     | 1,hx=>cases hx;exact⟨t2,t.2.1,t.1,rfl,ae _ _ a2,by left,by left,by left,by left,aw _ (arcs2_mem.mpr (.inr rfl)),ai _ (arcs2B_mem.mpr (.inr rfl)),λ z hz=>by unfold arcs2B at *;simpa using hz⟩
    exact⟨p,A,SqT.of hp,Y,A,E,?_⟩
    ext
    obtain⟨cvs,hc,cl⟩:=R.co;let bc:cvs.length=n.toNat:=by rw[cl.1];exact G.len
    obtain⟨x1,ax,aa⟩:=qH cl u0 (by rw[G.len];left);obtain⟨x2,aU,ac⟩:=qH cl v0 (by rw[G.len];left);let next:∀ {cs':List ‹37›}{ag':Bool},Far.PS2 c0 (Far.plusA (λ z=>z∈arcsB ts (ks.take i)\/z∈(arcs2B t k).take j) (u.toNat,v.toNat,t.2.2,k)) cs' ag'->Far.PS2 c0 (λ z=>z∈arcsB ts (ks.take i)\/z∈(arcs2B t k).take (j+1)) cs' ag':=λ h=>h.less λ z hz=>by
     rcases hz with hz | hz
     ·exact .inl (.inl hz)
     ·exact (az z hz).elim (λ y=>.inl (.inr y)) .inr
    exact⟨K,lc,V,SqL.of hc,ax,X,ite2 (λ c1=>?_) (λ c1=>?_)⟩
    ·-- not reached
     let gu:Far.get cs u.toNat=none:=by
      cases e:Far.get cs u.toNat with
      | none=>rfl
      | some d =>
       rw[e] at aa;obtain⟨tt,rfl,_⟩:=aa;cases uh0 c1
     exact⟨cs,as,ag,P,A,R,G,AH,next (Pt.no gu),ae⟩
    ·obtain⟨d,gu⟩:∃ d,Far.get cs u.toNat=some d:=by
      cases e:Far.get cs u.toNat with
      | none=>rw[e] at aa;exact absurd (uhz (show x1=V.non from aa)) c1
      | some d=>exact⟨d,rfl⟩
     rw[gu] at aa;obtain⟨td,rfl,a9⟩:=aa;let pw:=zdt (i:=k) (by left);exact⟨K,lc,V,SqL.of hc,ax,Z,lw,V,SqL.of R.wl,bT (ua3 _) (zcl am),td,P,_,A,a9,λ tn L1 Z1 en=>?_⟩
     ext
     let R':=R.step Z1;let ab:=Z1 _ _ hc;let ak:TupKeep K3 L1:=λ a xs e=>Z1 _ _ (ae a xs e);let aj : ∀ (ap : Far.get cs v.toNat = none \/ ∃ c', Far.get cs v.toNat = some c' /\ Far.lt2 (d.1+t.2.2, d.2+2^k) c') , ∀ L, L = upd (upd L1 lc (.lst (cvs.set v.toNat (.ref tn)))) la (.lst ((as.map oa).set v.toNat (.int u))) →
         RA H L lw lc la (pows ts.length) ‹87› (as.set v.toNat (some u.toNat))/\Far.Good (arcs ts ks) n.toNat r.toNat ‹87›/\Far.Run (arcsB ts ks) r.toNat ‹87› (as.set v.toNat (some u.toNat))/\Far.PS2 c0 (λ z=>z∈arcsB ts (ks.take i)\/z∈(arcs2B t k).take (j+1)) ‹87› true/\TupKeep K3 L:=λ ap L eL=>by
      subst eL;obtain⟨G',mm⟩:=G.step P (by left) ay (by left) pw.1 pw.2 (by left) gu ap;let Rp:=R'.put ab (k:=v.toNat) (by left) en;let Rm:=Rp.mark (k:=v.toNat) (u:=u.toNat);rw[ua4 u0] at Rm
      ext
      exact⟨Rm,G',Far.Run.step P G AH ay aW (by left) gu ap,next (Pt.put mm),λ a xs e=>fT Rp.ah _ _ (fT ab _ _ (ak a xs e))⟩
     let ha:=R'.ah;let be:(as.map oa).length=n.toNat:=by rw[c9,AH.len];exact G.len
     exact⟨K,lc,V,SqL.of ab,aU,X,ite2 (λ c2=>iteT ?_) (λ c2=>?_)⟩
     ·let gv:Far.get cs v.toNat=none:=by
       cases e:Far.get cs v.toNat with
       | none=>rfl
       | some d =>
        rw[e] at ac;obtain⟨tt,rfl,_⟩:=ac;cases uh0 c2
      obtain⟨R2,G2,A2,P2,k2⟩:=aj (.inl gv) _ rfl
      ext
      exact⟨Z,lc,V,ab,fP v0 (by left),Z,la,V,(by rw[aL R.nca.symm];exact ha),fP v0 (by left),P,true,P,A,R2,G2,A2,P2,k2⟩
     ·obtain⟨d2,gv⟩:∃ d,Far.get cs v.toNat=some d:=by
       cases e:Far.get cs v.toNat with
       | none=>rw[e] at ac;exact absurd (uhz (show x2=V.non from ac)) c2
       | some d=>exact⟨d,rfl⟩
      rw[gv] at ac;obtain⟨te,rfl,a6⟩:=ac
      ext
      exact⟨Z,lc,V,SqL.of ab,aU,tn,te,L3.e2 (d.1+t.2.2,d.2+2^k),L3.e2 d2,M,SqT.of en,SqT.of (Z1 _ _ a6),A,ite2 (λ c3=>?_) (λ c3=>?_)⟩
      ·let hl:=(oQ _ _).mp c3;obtain⟨R2,G2,A2,P2,k2⟩:=aj (.inr ⟨d2,gv,hl⟩) _ rfl
       ext
       exact⟨Z,lc,V,ab,fP v0 (by left),Z,la,V,(by rw[aL R.nca.symm];exact ha),fP v0 (by left),P,true,P,A,R2,G2,A2,P2,k2⟩
      ·let hn:¬ Far.lt2 (d.1+t.2.2,d.2+2^k) d2:=λ z=>c3 ((oQ _ _).mpr z);exact⟨cs,as,ag,P,A,R',G,AH,next (Pt.old gu gv hn),ak⟩
   ·try (with_reducible exact lG ?_;intro _ _)
    obtain⟨cs,as,ag,U,F,O,rfl,R,G,AH,Pt,ae⟩:=h
    ext
    exact⟨cs,as,ag,P,P,P,A,R,G,AH,Pt.less λ z hz=>?_⟩
    ext
    exact (xS hk hz).elim .inl λ y=>.inr (by rw[← et] at y;exact y)
  ·try (with_reducible exact lG ?_;intro _ _)
   obtain⟨cs,as,ag,y7,y8,y9,ad,U,F,O,rfl,R2,G2,A2,Pt⟩:=h;let lk:((keepI ks).map V.int).length=ks.length:=by unfold keepI;rw[c9,c9]
   rw[lk,ud1] at Pt
   ext
   rcases Pt with ⟨ea,ec,st⟩ | ⟨ea,lt⟩
   ·subst ea;rw[← ec] at st
    ext
    exact⟨Far.mu cs+0,by rw[ec];left,cs,as,false,P,P,P,A,R2,G2,A2,λ _=>st,rfl⟩
   ·subst ea;exact⟨Far.mu cs+1,by left,cs,as,true,P,P,P,A,R2,G2,A2,λ z=>(by cases z),rfl⟩
theorem vB (T:Bi mg)(D:DefOk K mg "fars_from" s_fars_from ["web","keep","root"])(O_reached_from:‹2› "reached_from" ["web","keep","root"] (spReached K)):‹3› "fars_from" ["web","keep","root"] (spFars K):=by
 exists 2,sc_fars_from;obtain⟨n,ts,ks,wv,kv,r,rfl,wk,r0,r1,q⟩:=h;let ae:=wk.2.1.n24;exact⟨_,(aD (cB (aH O_reached_from hr rfl ‹118›) (cI (n:=2) rfl (aQ ‹96› (aQ (aK (i:=4) nd rfl (t6 rfl)) bL)))) (aE (aJ (bQ (N:=["web","keep","root","costs","ahead"]) (sc0:=defScope s_fars_from) (own:=["cost"]) (fr:=[]) (js:=[]) rfl (dY (pv 3)) (λ _ _ _ _=>(aK (i:=0) (by show uau [("cost":Str)];decide +kernel) rfl (t6 rfl))) ‹85› (λ _ _ _ _=>(oN (aO dN (pv 0) bR (nomark _)) bR (aG cH (pv 0) aC ‹34›))))))),?_⟩;exact⟨Z,n,ts,ks,wv,kv,r,rfl,wk,r0,r1,λ p lc la cvs avs cs J S ep ec ea cl G St=>?_⟩;exact⟨p,A,SqT.of ep,Y,A,E,?_⟩;let ac:cvs.length=n.toNat:=by rw[cl.1];exact G.len
 exact⟨A,lc,rfl,⟨_,SqL.of ec⟩,?_⟩;exact fL ec (λ F=>F.length=1) (λ i v _=>v=ov ((Far.get cs i).map (·.1))) (by left) (by rfl) ‹73› (λ i x F H' hx s2 sg C hC=>?_) (λ L ys H2 hL s2 hH ad aa=>?_)
 ·match F,sg with
  | [o],_ =>
   let O:=cl.2 i x hx;exact⟨C,A,ite2 (λ c=>?_) (λ c=>?_)⟩
   ·let e:Far.get cs i=none:=by
     cases e:Far.get cs i with
     | none=>rfl
     | some d =>
      rw[e] at O;obtain⟨tt,rfl,_⟩:=O;cases uh0 c
    exact hC _ _ _ rfl (Same.refl _) (by rw[e];rfl)
   ·obtain⟨d,gu⟩:∃ d,Far.get cs i=some d:=by
     cases e:Far.get cs i with
     | none=>rw[e] at O;exact absurd (uhz (show x=V.non from O)) c
     | some d=>exact⟨d,rfl⟩
    rw[gu] at O;obtain⟨td,rfl,ab⟩:=O;exact⟨A,td,V,SqT.of (s2 _ _ ab),rfl,hC _ _ _ rfl (Same.refl _) (by rw[gu];rfl)⟩
 ·obtain⟨U,eD⟩:∃ U,U=cs.map λ o=>o.map (·.1):=⟨A⟩;let gD:∀ v,Far.get U v=(Far.get cs v).map (·.1):=λ v=>by
   rw[eD];unfold Far.get;rw[c8,j0,c8];cases cs[v]? <;> rfl
  exact q L U H2 (S.trans s2) (S.free hL) ?_ (by rw[eD,c9];exact G.len) λ v hv=>by rw[gD];exact G.dst St v
  rw[hH];exact congrArg (λ z=>some (HO.lst z)) (ucd λ i=>?_);let lD:U.length=n.toNat:=by rw[eD,c9];exact G.len
  by_cases hi:i<n.toNat
  ·rw[rJ (by left),gD];let e:ys[i]?=some ys[i]:=d7 (by left);rw[e,aa i _ e]
  ·rw[uag (by left),uag (by rw[c9];left)]
theorem uK (T:Bi mg)(D:DefOk K mg "tree_from" s_tree_from ["web","keep","root"])(O_reached_from:‹2› "reached_from" ["web","keep","root"] (spReachedB K)):‹3› "tree_from" ["web","keep","root"] (spTreeB K):=by
 exists 2,sc_tree_from;obtain⟨n,ts,ks,wv,z,r,rfl,wk,U,r1,q⟩:=h;exact⟨_,(aD (cB (aH O_reached_from hr rfl ‹118›) (cI (n:=2) rfl (aQ ‹96› (aQ (aK (i:=4) nd rfl (t6 rfl)) bL)))) (aE (aJ (bA cK rfl T.z_tuple (by symm) (aA (pv 4) aB))))),?_⟩;exact⟨Z,n,ts,ks,wv,z,r,rfl,wk,U,r1,λ p lc la cvs as cs J S ep ec ea cl G=>?_⟩;exact⟨p,A,SqT.of ep,Y,A,E,?_⟩;exact⟨A,la,A,ea,λ t F O f2 e2=>q t as cs F (S.trans O) e2 G⟩
theorem pG {ws:List V}{x:V}:atI (ws++[x]) (-1)=some x:=by
 unfold atI ixN;rw[uh3 (by decide),uh2 (by rw[i7,j6];left)];show (ws++[x])[(-1+((ws++[x]).length:Int)).toNat]?=some x;rw[i7,j6,show (-1+((ws.length+1:Nat):Int)).toNat=ws.length by left];simp
theorem vZ (T:Bi mg)(D:DefOk K mg "the_way" s_the_way ["web","keep","a","b"])(O_tree_from:‹3› "tree_from" ["web","keep","root"] (spTreeB K)):‹4› "the_way" ["web","keep","a","b"] (spWayB K):=by
 exists 3,sc_the_way;obtain⟨n,ts,ks,wv,kv,a,b,rfl,wk,a0,a1,b0,b1,q⟩:=h;let am:=wk.2.1.n24;let KB:=eW wk.2.1 wk.2.2.2;exact⟨_,(aD (aN (i:=4) nd rfl (t6 rfl) (aH O_tree_from hr rfl (aA (pv 0) (aA (pv 1) (aA (pv 3) aB))))) (aD (aN (i:=5) nd rfl (t6 rfl) (bP (aA (pv 2) aB))) (aD (oM PassesOwn.never (aO eF (aG aY (pv 5) (cR cN aC) ‹34›) (pv 3) (nomark _)) (aD (aS (aO dN (aG aR (pv 4) (aG aY (pv 5) (cR cN aC) ‹34›) ‹34›) bR (nomark _)) (aE (aJ bR)) aT) (aE (dX (dQ ubs uch ucg gN (pv 5) (aA (aG aR (pv 4) (aG aY (pv 5) (cR cN aC) ‹34›) ‹34›) aB)))))) (aE (aJ (bA cK rfl T.z_tuple (by symm) (aA (pv 5) aB))))))),?_⟩;exact⟨Z,n,ts,ks,wv,kv,b,rfl,wk,b0,b1,λ p as cs J S ep G=>?_⟩;exact⟨A,(by show 1<=1000;decide),λ lw J1 S1 f1 e1=>?_⟩;let lA:=G.alen;let ad:=S1 _ _ ep;let fw:H lw=none:=S.free f1;let ah:p≠lw:=λ z=>by rw[z,f1] at ep;cases ep
 exact⟨λ m σ J2=>∃ (pre:List Nat)(c:Nat),σ=[some wv,some kv,some (.int a),some (.int b),some (.ref p),some (.ref lw)]/\Same H J2/\J2 p=some (.tup (as.map oa))/\J2 lw=some (.lst (natV (pre++[c])))/\c<n.toNat /\
  ((pre=[]/\c=a.toNat/\Far.get cs c=none/\m=0)\/∃ ca U,Far.get cs a.toNat=some ca/\Far.get cs c=some U/\(∀ P,Far.TPw as b.toNat P c->Far.TPw as b.toNat (P++pre.reverse) a.toNat)/\pre.length+1<=Far.beyond n.toNat cs U.1/\m=U.1.toNat),?_,?_⟩
 ·let F:J1 lw=some (.lst (natV ([]++[a.toNat]))):=by rw[e1];show some (HO.lst [V.int a])=some (HO.lst [V.int ((a.toNat:Nat):Int)]);rw[ua4 a0]
  cases e:Far.get cs a.toNat with
  | none=>exact⟨0,[],a.toNat,rfl,S.trans S1,ad,F,by left,.inl ⟨M,e,rfl⟩⟩
  | some ca=>exact⟨_,[],a.toNat,rfl,S.trans S1,ad,F,by left,.inr ⟨ca,ca,rfl,e,λ P t=>by rw[List.reverse_nil,uc5];exact t,Far.xM (by left) e,rfl⟩⟩
 rintro m σ J2 ⟨pre,c,rfl,sm,hp,hw,hc,ac⟩;let aa:atI (natV (pre++[c])) (-1)=some (.int (c:Int)):=by
  unfold natV;rw[uaq];exact pG
 let ab:atI (as.map oa) (c:Int)=some (oa (Far.get as c)):=bT (ua3 _) (by rw[uav];exact zen (by left));exact⟨K,lw,V,SqL.of hw,aa,C,A,?_⟩;by_cases cb:c=b.toNat
 ·exact iteNS (by rw[cb,ua4 b0]) ?_;exact⟨A,lw,A,hw,λ t J3 S3 f3 e3=>q _ J3 (sm.trans S3) ⟨cs,as,G,.inr ?_⟩⟩;rcases ac with ⟨_,_,ec,_⟩ | ⟨ca,U,F,O,tp,hl,_⟩
  ·rw[cb,G.start] at ec;cases ec
  ·let:=Far.nP n.toNat cs U.1;exact⟨t,pre++[c],ca,rfl,e3,by rw[i7,j6];left,F,?_⟩;rw[ue3];let:=tp [b.toNat] (by rw[cb];exact .root);rw[cb];exact this
 ·let ne:decide (V.int (c:Int)=V.int b)=false:=uh1 λ z=>cb (by injection z with z;left);rw[ne];exact iteT ⟨λ af J'=>∃ m',m'<m/\∃ (pre:List Nat)(c:Nat),af=[some wv,some kv,some (.int a),some (.int b),some (.ref p),some (.ref lw)]/\Same H J'/\J' p=some (.tup (as.map oa))/\J' lw=some (.lst (natV (pre++[c])))/\c<n.toNat /\
   ((pre=[]/\c=a.toNat/\Far.get cs c=none/\m'=0)\/∃ ca U,Far.get cs a.toNat=some ca/\Far.get cs c=some U/\(∀ P,Far.TPw as b.toNat P c->Far.TPw as b.toNat (P++pre.reverse) a.toNat)/\pre.length+1<=Far.beyond n.toNat cs U.1/\m'=U.1.toNat),λ _ _ h=>h,?_⟩
  exact⟨Z,lw,V,SqL.of hw,aa,p,V,SqT.of hp,ab,X,?_⟩;cases ea:Far.get as c with
  | none =>
   exact iteT (q _ _ sm ⟨cs,as,G,.inl ⟨rfl,?_⟩⟩);rcases ac with ⟨_,ec,O,_⟩ | ⟨ca,U,_,O,_⟩
   ·rw[← ec];exact O
   ·exact absurd ea (G.has c U O cb)
  | some u =>
   obtain⟨l,k,cu,mm,F,O⟩:=G.arc _ _ ea;rw[ea] at ab;rcases ac with ⟨_,_,ec,_⟩ | ⟨ca,U,aj,ai,tp,hl,rfl⟩
   ·rw[ec] at O;cases O
   ·let ae:U=(cu.1+l,cu.2+2^k):=uaz (ai.symm.trans O);let l1:=KB.pos _ _ _ _ mm;let an:=G.nn _ _ F;let hu:=(pH wk.2.1 wk.2.2.2 mm).1;let c1:U.1=cu.1+l:=by rw[ae]
    let bl:=Far.zab hu F (show cu.1<U.1 by left);let al:=Far.nP n.toNat cs cu.1;let ak:(natV (pre++[c])).length=pre.length+1:=by unfold natV;rw[c9,i7,j6]
    exact iteF ⟨A,.inl ⟨Y,SqL.of hw⟩,Z,lw,V,SqL.of hw,aa,p,V,SqT.of hp,ab,lw,E,hw,by left,λ J3 b3 e3=>?_⟩;exact⟨cu.1.toNat,by left,pre++[c],u,rfl,λ c o z=>b3 _ _ (aW z fw) (sm _ _ z),b3 _ _ ah hp,?_,hu,.inr ⟨ca,cu,aj,F,λ P t=>?_,by rw[i7,j6];left,rfl⟩⟩
    ·rw[e3];unfold natV;rw[uaq (l₂:=[u])];rfl
    ·let:=tp (P++[c]) (.step ea t);rw[ue3];rw[ufm] at this;exact this
theorem tQ (T:Bi mg)(D:DefOk K mg "tie_between" s_tie_between ["web","a","b"]):‹1› "tie_between" ["web","a","b"] (spTB K):=by
 exists 0,sc_tie_between;obtain⟨n,ts,wv,u,v,rfl,af,ai,q⟩:=h;let units:∀ {x:Nat},x<=3->(A.deeper (envOfC "tie_between" (defScope s_tie_between) ‹128› f cdv)).units+x<cLine:=λ {x} hu=>by let:=hr.units;left
 obtain⟨g0,g,ws,rfl,ak,hg,U,am⟩:=bY af;exact⟨_,(aD (aN (i:=3) nd rfl (t6 rfl) (bC (aA (aP (jF rfl) rfl T.z_min (by symm) (aA (pv 1) (aA (pv 2) aB))) (aA (aP (jG rfl) rfl T.z_max (by symm) (aA (pv 1) (aA (pv 2) aB))) aB)))) (aD (bW PassesOwn.never rfl (jW true rfl T.z_enumerate (aA (aG aR (pv 0) aC ‹34›) aB)) (cI (n:=2) rfl ‹56›) (aE (aS (aO kI (bE bG (pv 5) bB (bF aC)) (pv 3) (nomark _)) (aE (aJ (pv 4))) aT))) (aE (aJ bR)))),?_⟩;exact⟨K,_,Z,_,A,(by show 2<=1000;decide),λ te J1 S1 f1 e1=>?_⟩;let aa:(if (v:Int)<(u:Int) then (v:Int) else u)=min (u:Int) v:=by split <;> left
 let ab:(if (v:Int)>(u:Int) then (v:Int) else u)=max (u:Int) v:=by split <;> left
 rw[aa,ab] at e1;exact⟨A,g0,V,SqT.of (S1 _ _ ak),rfl,g,rfl,⟨ws,SqX.of (S1 _ _ hg)⟩,?_⟩;exact⟨λ i m σ J=>m=ts.length-i/\i<=ts.length/\(∃ y4 y5:Option V,σ=[some (.ref g0),some (.int (u:Int)),some (.int (v:Int)),some (.ref te),y4,y5])/\Same J1 J/\∀ k,k<i->isTB ts u v k=false,⟨_,rfl,uae _,⟨none,none,rfl⟩,Same.refl _,λ k hk=>(by left)⟩,?_⟩;rintro i m σ J ⟨rfl,hi,⟨y4,y5,rfl⟩,sm,pre⟩;let sH:=S1.trans sm;let sq:SqX true K J g ws:=SqX.of (sH _ _ hg);by_cases O:i<ts.length
 ·exact .inr ⟨⟨ws,ws[i]'(by left),sq,by simp [show i<ws.length by left]⟩,λ ah J'=>∃ m',m'<ts.length-i/\(m'=ts.length-(i+1)/\i+1<=ts.length/\(∃ y4 y5:Option V,ah=[some (.ref g0),some (.int (u:Int)),some (.int (v:Int)),some (.ref te),y4,y5])/\Same J1 J'/\∀ k,k<i+1->isTB ts u v k=false),λ _ _ h=>h,λ x J' hy=>?_⟩;obtain⟨T',y,hT,rfl,rfl,ey⟩:=hy;let ac:=ey ws sq;obtain⟨ta,al,ad⟩:=dA U O;rw[al] at ac;cases ac;let S2:=aU (o:=.tup [.int (i:Nat),.ref ta]) hT;let F:=S2 _ _ (sH _ _ ad);exact⟨T',A,SqT.of aM,Y,A,E,?_⟩;exact⟨K,ta,A,F,λ tc J3 S3 e3=>?_⟩;let aj:J3 tc=some (.tup (([(tieAt ts i).1,(tieAt ts i).2.1]:List Int).map V.int)):=e3;let ae:J3 te=some (.tup (([min (u:Int) v,max (u:Int) v]:List Int).map V.int)):=S3 _ _ (S2 _ _ (sm _ _ e1));exact⟨A,.tuple ‹75›,.tuple (([min (u:Int) v,max (u:Int) v]:List Int).map .int),⟨tc,A,aj,IsAll.ints _⟩,⟨te,A,ae,IsAll.ints _⟩,cL _,cL _,?_,A,?_⟩
  ·let d1:=eY [(tieAt ts i).1,(tieAt ts i).2.1];let d2:ugp (.tuple ‹75›)=uex ‹75›+1:=rfl;exact units (uaj (uf9 _ _) (by rw[d2];left))
  let eq:udz (.tuple ‹75›) (.tuple (([min (u:Int) v,max (u:Int) v]:List Int).map .int))=isTB ts u v i:=za0 _ _ _ _;rw[eq];let SS:=S2.trans S3;exact ite2 (λ c=>?_) (λ c=>?_)
  ·let et:tbN ts u v=some i:=by
    unfold tbN;exact List.find?_range_eq_some.mpr ⟨c,m8.mpr O,λ j hj=>?_⟩;rw[pre j hj];rfl
   let q1:=q J3 (sH.trans SS);rw[et] at q1;exact⟨A,q1⟩
  ·exact⟨ts.length-(i+1),by left,rfl,O,⟨_,A⟩,sm.trans SS,λ k hk=>?_⟩;by_cases z:k=i
   ·rw[z];exact uce.mpr c
   ·exact pre k (by left)
 ·let e:i=ts.length:=by left
  subst e;exact .inl ⟨⟨ws,sq,by left⟩,?_⟩;let et:tbN ts u v=none:=by
   unfold tbN;exact ubu.mpr λ k hk=>?_;rw[pre k (m8.mp hk)];exact p6
  let q1:=q J sH;rw[et] at q1;exact q1
theorem uJ (T:Bi mg)(D:DefOk K mg "way_length" s_way_length ["web","way"])(O_ties_along:‹2› "ties_along" ["web","places"] (spAlong K)):‹3› "way_length" ["web","way"] (spWLen K):=by
 exists 2,sc_way_length;obtain⟨n,ts,wv,t,ws,rfl,ab,O,ht,ai,lk,q⟩:=h;obtain⟨g0,g,am,rfl,aj,hg,U,al⟩:=bY ab;exact⟨_,(aE (aJ (aP (nH rfl) rfl T.z_sum (by symm) (aA (bQ (N:=["web","way"]) (sc0:=defScope s_way_length) (own:=["tie"]) (fr:=["web"]) (js:=[0]) rfl (dY (aH O_ties_along hr rfl ‹88›)) (λ _ _ _ _=>(aK (i:=0) (by show uau [("tie":Str),("web":Str)];decide +kernel) rfl (t6 rfl))) ‹85› (λ _ _ _ _=>(aG cH (aG cH (aG cH (pv 1) aC ‹34›) (pv 0) ‹34›) aC ‹34›))) aB)))),?_⟩;exact⟨K,n,ts,_,t,ws,rfl,ab,O,ht,ai,lk,λ l J1 S1 e1=>?_⟩;exact⟨l,rfl,⟨_,SqL.of e1⟩,?_⟩;let aa:(natV (alongN ts ws)).length=ws.length-1:=by unfold natV alongN;rw[c9,c9,uaa]
 exact fL e1 (λ ad=>∃ o,ad=[o,some (.ref g0)]) (λ i x _=>x=V.int (tieAt ts ((alongN ts ws).getD i 0)).2.2) (by left) ‹68› ‹73› (λ i x ad H' hx s2 sg C hC=>?_) (λ L ys H2 hL s2 hH af ah=>?_)
 ·obtain⟨o,rfl⟩:=sg;obtain⟨k,hk,rfl⟩:=fY hx;let ae:=hV lk k (ual hk);obtain⟨ta,ak,ac⟩:=dA U ae;let F:=S1.trans s2;let ek:(alongN ts ws).getD i 0=k:=by rw[c8,hk];rfl
  exact⟨A,g0,V,SqT.of (F _ _ aj),X,g,V,SqT.of (F _ _ hg),bT (ua3 _) ak,ta,V,SqT.of (F _ _ ac),rfl,hC _ _ _ ⟨A⟩ (Same.refl _) (by rw[ek])⟩
 ·exact⟨L,(alongN ts ws).map λ k=>(tieAt ts k).2.2,rfl,?_,?_⟩
  ·rw[hH];exact congrArg (λ z=>some (HO.lst z)) (ucd λ i=>?_);let an:ys.length=ws.length-1:=by rw[af,aa]
   let la:(alongN ts ws).length=ws.length-1:=by unfold alongN;rw[c9,uaa]
   rw[j0,j0];by_cases hi:i<ws.length-1
   ·let e:ys[i]?=some ys[i]:=d7 (by left);let e2:(alongN ts ws)[i]?=some ((alongN ts ws).getD i 0):=by rw[c8,d7 (by left)];rfl
    rw[e,ah i _ e,e2];rfl
   ·rw[uag (by left),uag (by left)];rfl
  ·rw[nT];exact q H2 (S1.trans s2)
theorem tO (T:Bi mg)(D:DefOk K mg "ties_along" s_ties_along ["web","places"])(O_tie_between:‹1› "tie_between" ["web","a","b"] (spTB K)):‹2› "ties_along" ["web","places"] (spAlongO K):=by
 exists 1,sc_ties_along;obtain⟨n,ts,wv,t,ws,rfl,ah,F,ht,aj,q⟩:=h;let ab:(natV ws).length=ws.length:=by unfold natV;rw[c9]
 let O:cutV (natV ws) (some 1) none=natV (ws.drop 1):=by
  unfold cutV;let h1:HT.sIx (natV ws).length (natV ws).length none=(natV ws).length:=rfl;rw[h1];by_cases z:ws=[]
  ·subst z;rfl
  ·let pos:=ucc.mpr z;let h0:HT.sIx (natV ws).length 0 (some 1)=1:=by
    unfold HT.sIx;simp;left
   rw[h0,ube (by rw[m9];exact i8 _)];unfold natV;rw[udq]
 exact⟨_,(aE (aJ (bQ (N:=["web","places"]) (sc0:=defScope s_ties_along) (own:=["one","other"]) (fr:=["web"]) (js:=[0]) rfl (qO true true rfl T.z_zip (aA (pv 1) (aA (bE bG (pv 1) (bF aC) bB) aB))) (λ _ _ _ _=>(dJ (n:=2) rfl (aQ (aK (i:=0) (by show uau [("one":Str),("other":Str),("web":Str)];decide +kernel) rfl (t6 rfl)) (aQ (aK (i:=1) (by show uau [("one":Str),("other":Str),("web":Str)];decide +kernel) rfl (t6 rfl)) bL)))) ‹85› (λ _ _ _ _=>(aH O_tie_between hr rfl (aA (pv 2) ‹88›)))))),?_⟩;exact⟨Z,t,A,ht,λ t2 J1 S1 e1=>?_⟩;rw[O] at e1;exact⟨t,t2,rfl,⟨_,SqX.of (t:=true) (S1 _ _ ht)⟩,⟨_,SqX.of (t:=true) e1⟩,?_⟩;let aa:(natV (ws.drop 1)).length=ws.length-1:=by unfold natV;rw[c9,m9]
 exact oZ (t1:=true) (t2:=true) (xs:=natV ws) (zs:=natV (ws.drop 1)) (S1 _ _ ht) e1 (λ ac=>∃ o1 o2,ac=[o1,o2,some wv]) (λ i x _=>x=oa ‹63›) (by left) (by exact⟨none,none,rfl⟩) ‹73› (λ i x z U ac H' ai ae s2 hU sg C hC=>?_) (λ L ys H2 hL s2 hH ad af=>?_)
 ·obtain⟨o1,o2,rfl⟩:=sg;obtain⟨u,hu,rfl⟩:=fY ai;obtain⟨v,hv,rfl⟩:=fY ae;rw[udj,ufb] at hv;let eu:ws.getD i 0=u:=by rw[c8,hu];rfl
  let ev:ws.getD (i+1) 0=v:=by rw[c8,hv];rfl
  exact⟨U,A,SqT.of aM,Y,A,E,?_⟩;let SU:=aU (o:=.tup [V.int (u:Int),.int (v:Int)]) hU;exact⟨Z,n,ts,wv,u,v,rfl,Is.same (S1.trans (s2.trans SU)) _ ah,F,λ H5 s5=>hC _ _ _ ⟨_,_,rfl⟩ (SU.trans s5) ?_⟩;rw[eu,ev]
 ·exact q L H2 (S1.trans s2) ?_;rw[hH];exact congrArg (λ z=>some (HO.lst z)) (ucd λ i=>?_);let ak:ys.length=ws.length-1:=by rw[ad,ab,aa];left
  unfold alongO;rw[j0];by_cases hi:i<ws.length-1
  ·let e:ys[i]?=some ys[i]:=d7 (by left);rw[e,af i _ e,udb hi];rfl
  ·rw[uag (by left),uag (by rw[uaa];left)];rfl
inductive spWayI_i (K:b8)(vs:List V)(H:Hp)(Q:VK):Prop
 | mk:∀ (n:Int)(ts:List Tie)(ks:List Nat)(wv kv:V)(p:o7)(ws:List Int),(vs=[wv,kv,.ref p])->‹74›->(IntT H p ws)->(ws.length<=40)->(∀ H',Same H H'->Q (.bl (rightI n ts ks ws).isSome) H')->spWayI_i K vs H Q
def spWayI (K:b8):Sp:=λ vs H Q _=>spWayI_i K vs H Q
theorem uI (T:Bi mg)(D:DefOk K mg "way_right" s_way_right ["web","keep","way"])(O_are_unlike_places:‹3› "are_unlike_places" ["web","thing"] (spUnlike K))(O_ties_along:‹3› "ties_along" ["web","places"] (spAlongO K)):‹4› "way_right" ["web","keep","way"] (spWayI K):=by
 exists 3,sc_way_right;obtain⟨n,ts,ks,wv,kv,p,ws,rfl,⟨ac,ok,an,ko⟩,hp,ao,q⟩:=h;obtain⟨kp,rfl,af⟩:=iU an;rw[← cG] at af;have lm:(ws.map V.int).length=ws.length:=c9 _;refine⟨_,(aD (aS (PW.pt (cQ (cO (cA (aH O_are_unlike_places hr rfl (aA (pv 0) (aA (pv 2) aB))))) (dC (aO aV ‹58› aC (nomark _))))) (aE (aJ bK)) aT) (aE (aJ (aP (dF rfl) rfl T.z_all (by symm) (aA (bQ (N:=["web","keep","way"]) (sc0:=defScope s_way_right) (own:=["tie"]) (fr:=["keep"]) (js:=[1]) rfl (dY (aH O_ties_along hr rfl (aA (pv 0) (aA (pv 2) aB)))) (λ _ _ _ _=>(aK (i:=0) (by show uau [("tie":Str),("keep":Str)];decide +kernel) rfl (t6 rfl))) ‹85› (λ _ _ _ _=>(aZ mC (pv 0) (pv 1) ‹95›))) aB))))),?_⟩;refine⟨K,n,ts,wv,p,ws,rfl,ac,hp,λ H1 O=>⟨_,rfl,?_⟩⟩;have no:∀ {J:Hp},Same H J->¬ ((ws≠[]/\ws.Nodup)/\ws.all ‹51›=true)->Q (.bl false) J:=λ S c=>by
  let:=q _ S;unfold rightI at this;rw[uh3 c] at this;exact this
 cases aa:placesB n ws with
 | false=>exact iteT (iteT (no O λ z=>by rw[show ws.all ‹51›=false from aa] at z;cases z.2))
 | true =>
 by_cases F:ws.Nodup
 case neg =>
  rw[uh1 F];exact iteT (iteT (no O λ z=>F z.1.2))
 rw[uhz F];exact iteF ⟨A,p,A,.inr (SqT.of (O _ _ hp.1)),X,?_⟩;by_cases ne:ws=[]
 ·subst ne;exact iteT (no O λ z=>z.1.1 rfl)
 rw[uh1 (p:=V.int (((ws.map V.int).length:Nat):Int)=V.int 0) (λ z=>by injection z with z;let:=ucc.mpr ne;left)];exact iteF ?_;let al:ws.all ‹51›=true:=aa;let pl:∀ i∈ws,0<=i/\i<n:=λ i hi=>by
  let:=v8.mp al i hi;rw[m7,decide_eq_true_iff,decide_eq_true_iff] at this;exact this
 obtain⟨us,U⟩:∃ us:List Nat,ws=keepI us:=⟨ws.map ubk,by
  unfold keepI;rw[ua0]
  conv=>lhs;rw[← uda ws]
  exact ua2 λ i hi=>?_;show i=((i.toNat:Nat):Int);let:=pl i hi;left⟩
 let aj:us.length=ws.length:=by rw[U];unfold keepI;rw[c9]
 have ak:H p=some (.tup (natV us)):=by rw[cG,← U];exact hp.1
 exact⟨K,n,ts,_,p,us,rfl,Is.same O _ ac,ok.few,O _ _ ak,by left,λ l J1 S1 e1=>?_⟩;let ae:=O.trans S1;exact⟨l,rfl,⟨_,SqL.of e1⟩,?_⟩;let ab:(alongO ts us).length=us.length-1:=by unfold alongO;rw[c9,uaa]
 exact fL e1 (λ ad=>∃ o,ad=[o,some (.ref kp)]) (λ i v _=>v=.bl ((λ i=>(stepY ts ks ws i).isSome) i)) (by left) ‹68› ‹73› (λ i x ad H' hx s2 sg C hC=>?_) (λ L ys H2 hL s2 hH ai am=>?_)
 ·obtain⟨o,rfl⟩:=sg;let hi:=(j9.mp hx).1;unfold alongO at hx;rw[j0,udb (by left)] at hx;let ex:x=oa (tbN ts (us.getD i 0) (us.getD (i+1) 0)):=(uaz hx).symm;let ah:(stepY ts ks ws i).isSome=inV (oa (tbN ts (us.getD i 0) (us.getD (i+1) 0))) (natV ks):=by
   rw[zd5 ok ko];unfold stepY;rw[U];unfold keepI;let g:∀ j,(us.map λ k:Nat=>(k:Int)).getD j 0=((us.getD j 0:Nat):Int):=λ j=>by
    rw[c8,c8,j0];cases us[j]? <;> rfl
   rw[g,g]
  subst ex;exact⟨K,kp,A,.inr (SqT.of (s2 _ _ (ae _ _ af))),?_,zbe ks,hC _ _ _ ⟨A⟩ (Same.refl _) ?_⟩
  ·cases tbN ts (us.getD i 0) (us.getD (i+1) 0) <;> rfl
  ·show V.bl (inV _ (natV ks))=V.bl (stepY ts ks ws i).isSome;rw[ah]
 ·exact⟨L,A,SqL.of (by rw[hH,dI (ai.trans ab) am]),?_⟩;let ea:((d8 (us.length-1)).map λ i=>(stepY ts ks ws i).isSome).all id=(rightI n ts ks ws).isSome:=by
   unfold rightI;rw[uh2 ⟨⟨ne,F⟩,al⟩,eX,aj,uck];rfl
  rw[ea];exact q H2 (ae.trans s2)
theorem kW {ws:List Int}(h:1<=ws.length):atI (ws.map V.int) 0=some (.int (ws.getD 0 0)):=bT (ubl 0) (by
 rw[show (0:Int).toNat=0 from rfl,j0,c8,d7 (show 0<ws.length by left)];rfl)
theorem kT {ws:List Int}(h:1<=ws.length):atI (ws.map V.int) (-1)=some (.int (ws.getD ‹104› 0)):=by
 unfold atI ixN;rw[uh3 (by decide),uh2 (by rw[c9];left)];show (ws.map V.int)[(-1+((ws.map V.int).length:Int)).toNat]?=_;rw[c9,show (-1+(ws.length:Int)).toNat=ws.length-1 by left,j0,c8,d7 (show ws.length-1<ws.length by left)];rfl
theorem bU (x y:Int):decide (V.int x=V.int y)=decide (x=y):=by
 by_cases z:x=y
 ·rw[uhz z,uhz (by rw[z])]
 ·rw[uh1 z,uh1 λ h=>z (by injection h)]
theorem yJ {n:Int}{ts:List Tie}{ks:List Nat}{ws:List Int}{x:Int}(h:rightI n ts ks ws=some x):1<=ws.length:=by
 unfold rightI at h;split at h
 ·rename_i c;exact ucc.mpr c.1.1
 ·cases h
inductive spLeadsI_i (K:b8)(vs:List V)(H:Hp)(Q:VK):Prop
 | mk:∀ (n:Int)(ts:List Tie)(ks:List Nat)(wv kv:V)(p:o7)(ws:List Int)(a b:Int),(vs=[wv,kv,.int a,.int b,.ref p])->‹74›->(IntT H p ws)->(ws.length<=40)->(∀ H',Same H H'->Q (.bl (leadsI n ts ks a b ws)) H')->spLeadsI_i K vs H Q
def spLeadsI (K:b8):Sp:=λ vs H Q _=>spLeadsI_i K vs H Q
theorem sC (T:Bi mg)(D:DefOk K mg "leads_between" s_leads_between ["web","keep","a","b","way"])(O_way_right:‹4› "way_right" ["web","keep","way"] (spWayI K)):‹5› "leads_between" ["web","keep","a","b","way"] (spLeadsI K):=by
 exists 4,sc_leads_between;obtain⟨n,ts,ks,wv,kv,p,ws,a,b,rfl,wk,F,U,q⟩:=h;exact⟨_,(aE (aJ (cJ (aH O_way_right hr rfl (aA (pv 0) (aA (pv 1) (aA (pv 4) aB)))) (cJ (aZ aV (aG aR (pv 4) aC ‹34›) (pv 2) (nomark _)) (cD (aZ aV (aG aR (pv 4) (cR cN aC) ‹34›) (pv 3) (nomark _))))))),?_⟩;exact⟨Z,n,ts,ks,wv,kv,p,ws,rfl,wk,F,U,λ H1 s1=>?_⟩;let z:=q H1 s1;unfold leadsI at z;cases O:rightI n ts ks ws with
 | none =>
  rw[O] at z;exact⟨A,iteF z⟩
 | some x =>
  rw[O] at z;let lp:=yJ O;exact⟨A,iteT ?_⟩;exact⟨A,p,V,SqT.of (F.same s1).1,kW lp,C,A,?_⟩;rw[bU];cases e1:decide (ws.getD 0 0=a) with
  | false =>
   rw[e1] at z;exact iteF z
  | true =>
   rw[e1] at z;exact iteT ⟨K,p,V,SqT.of (F.same s1).1,kT lp,C,?_⟩;rw[bU];exact z
theorem yW (T:Bi mg)(D:DefOk K mg "across" s_across ["web","tie","heights"]):‹1› "across" ["web","tie","heights"] (spAcross K):=by
 exists 0,sc_across;obtain⟨n,ts,wv,k,p,hs,rfl,U,ok,F,ht,ad,q⟩:=h;obtain⟨g0,g,ws,rfl,ab,hg,z,ac⟩:=bY U;obtain⟨ta,aa,O⟩:=dA z F;let tk:=ok.tie _ (bN F).2;exact⟨_,(aD (cB (aG aR (aG aR (pv 0) aC ‹34›) (pv 1) ‹34›) (cI (n:=3) rfl (aQ ‹96› ‹56›))) (aE (aJ (aP pF rfl T.z_abs (by symm) (aA (aF cF (aG aR (pv 2) (pv 3) ‹34›) (aG aR (pv 2) (pv 4) ‹34›)) aB))))),?_⟩;exact⟨A,g0,V,SqT.of ab,X,g,V,SqT.of hg,bT (ua3 _) aa,ta,A,SqT.of O,Y,A,_,A,E,?_⟩;exact⟨K,p,V,SqT.of ht.1,iJ (by left) (by left),K,p,V,SqT.of ht.1,iJ (by left) (by left),E,A,q⟩
theorem sU (T:Bi mg)(D:DefOk K mg "heights_hold" s_heights_hold ["web","keep","heights"])(O_is_wholes:‹2› "is_wholes" ["thing"] (spD1 K few wholesB))(O_across:‹2› "across" ["web","tie","heights"] (spAcross K)):‹3› "heights_hold" ["web","keep","heights"] (spHold K):=by
 exists 2,sc_heights_hold;obtain⟨n,ts,ks,wv,kv,p,hs,rfl,⟨ac,ok,al,ko⟩,ht,q⟩:=h;let n1:=ok.n1;let am:=ok.few;obtain⟨g0,g,ws,rfl,af,hg,ab,an⟩:=bY ac;obtain⟨kp,rfl,ah⟩:=iU al;exact⟨_,(aD (aS (PW.pt (cQ (cO (cA (aH O_is_wholes hr rfl (aA (pv 2) aB)))) (dC (aO eF ‹58› (aG aR (pv 0) aC ‹34›) (nomark _))))) (aE (aJ bK)) aT) (aE (aJ (aP (dF rfl) rfl T.z_all (by symm) (aA (bQ (N:=["web","keep","heights"]) (sc0:=defScope s_heights_hold) (own:=["tie"]) (fr:=["web","heights"]) (js:=[0,2]) rfl (cC (pv 1)) (λ _ _ _ _=>(aK (i:=0) (by show uau [("tie":Str),("web":Str),("heights":Str)];decide +kernel) rfl (t6 rfl))) ‹85› (λ _ _ _ _=>(aZ kQ (aH O_across hr rfl (aA (pv 1) (aA (pv 0) (aA (pv 2) aB)))) (aG cH (aG cH (aG cH (pv 1) aC ‹34›) (pv 0) ‹34›) aC ‹34›) (nomark _)))) aB))))),?_⟩;exact⟨A,.tuple (hs.map .int),A,ht.is,(by show (hs.map uei).length<=1000;rw[c9];exact ht.2),λ H1 O=>⟨_,rfl,iteB2 (λ _=>?_) (λ c=>?_)⟩⟩
 case refine_2=>rw[vS] at c;cases c
 let t1:=ht.same O;exact⟨A,p,A,.inr (SqT.of t1.1),A,g0,V,SqT.of (O _ _ af),M,A,?_⟩;by_cases hn:hs.length=n.toNat
 case neg =>
  let ne:decide (V.int (((hs.map V.int).length:Nat):Int)=V.int n)=false:=uh1 λ e=>by
   let:(((hs.map V.int).length:Nat):Int)=n:=by injection e
   rw[c9] at this;left
  rw[ne];exact iteT ?_;let U:=q H1 O;let e:holdB n ts ks hs=false:=by unfold holdB;rw[uh1 hn];rfl
  rw[e] at U;exact U
 exact iteNS (by rw[c9,hn];congr 1;left) ?_;exact⟨A,kp,rfl,⟨_,SqT.of (O _ _ ah)⟩,?_⟩;let lk:((keepI ks).map V.int).length=ks.length:=by unfold keepI;rw[c9,c9]
 let ao:=ko.len;exact dS (O _ _ ah) (λ ae=>∃ o,ae=[o,some (.ref g0),some (.ref p)]) (λ i v _=>v=.bl (decide ‹103›)) (by left) ‹68› ‹73› (λ i x ae H' hx s2 sg C hC=>?_) (λ L ys H2 hL s2 hH ai aj=>?_)
 ·obtain⟨o,rfl⟩:=sg;obtain⟨k,hk,rfl⟩:=jZ hx;let aa:k<ts.length:=ko.2 k (ual hk);obtain⟨ta,ak,ad⟩:=dA ab aa;let F:=O.trans s2;let ek:ks.getD i 0=k:=by rw[c8,hk];rfl
  exact⟨Z,n,ts,_,k,p,hs,rfl,Is.same F _ ac,ok,aa,ht.same F,hn,?_⟩;exact⟨A,g0,V,SqT.of (F _ _ af),X,g,V,SqT.of (F _ _ hg),bT (ua3 _) ak,ta,V,SqT.of (F _ _ ad),rfl,E,hC _ _ _ ⟨A⟩ (Same.refl _) ?_⟩;rw[ek]
 ·exact⟨L,A,SqL.of (by rw[hH,dI (ai.trans lk) aj]),?_⟩;let U:=q H2 (O.trans s2);let e:holdB n ts ks hs=((d8 ks.length).map λ i=>decide ‹103›).all id:=by
   unfold holdB;rw[uhz hn,udr];let z:=congrArg (List.map λ k=>decide ‹98›) (L3.cT ks 0);rw[ua0] at z;let z':((d8 ks.length).map λ i=>decide ‹103›)=ks.map λ k=>decide ‹98›:=z;rw[z',uck];rfl
  rw[e] at U;exact U
theorem sV (T:Bi mg)(D:DefOk K mg "heights_from" s_heights_from ["web","keep","a","roof"])(O_fars_from:‹3› "fars_from" ["web","keep","root"] (spFars K)):‹4› "heights_from" ["web","keep","a","roof"] (spHFrom K):=by
 exists 3,sc_heights_from;obtain⟨n,ts,ks,wv,kv,a,F,rfl,wk,a0,a1,q⟩:=h;let ac:=wk.2.1.n24;exact⟨_,(aE (aJ (bA cK rfl T.z_tuple (by symm) (aA (bQ (N:=["web","keep","a","roof"]) (sc0:=defScope s_heights_from) (own:=["length"]) (fr:=["roof"]) (js:=[3]) rfl (dY (aH O_fars_from hr rfl ‹118›)) (λ _ _ _ _=>(aK (i:=0) (by show uau [("length":Str),("roof":Str)];decide +kernel) rfl (t6 rfl))) ‹85› (λ _ _ _ _=>(oN (aO dN (pv 0) bR (nomark _)) (pv 1) (aP (jF rfl) rfl T.z_min (by symm) ‹88›)))) aB)))),?_⟩;exact⟨Z,n,ts,ks,wv,kv,a,rfl,wk,a0,a1,λ l O J S f1 e1 lD hD=>?_⟩;exact⟨l,rfl,⟨_,SqL.of e1⟩,?_⟩;exact fL e1 (λ U=>∃ o,U=[o,some (.int F)]) (λ i v _=>v=.int (capO F (Far.get O i))) (by rw[c9];left) ‹68› ‹73› (λ i x U H' hx s2 sg C hC=>?_) (λ L ys H2 hL s2 hH aa ab=>?_)
 ·obtain⟨o,rfl⟩:=sg;let hi:i<O.length:=by let:=(j9.mp hx).1;rw[c9] at this;exact this
  rw[rJ hi] at hx;cases hx;exact⟨C,A,?_⟩;cases e:Far.get O i with
  | none=>exact iteT ⟨A,hC _ _ _ ⟨A⟩ (Same.refl _) (by rw[e];rfl)⟩
  | some x=>exact iteF ⟨K,_,A,hC _ _ _ ⟨A⟩ (Same.refl _) (by rw[e];rfl)⟩
 ·let lY:ys.length=O.length:=by rw[aa,c9]
  exact⟨L,A,hH,λ t J2 S2 f2 e2=>q t O J2 (S.trans (s2.trans S2)) ?_ lD hD⟩;rw[e2];exact congrArg (λ z=>some (HO.tup z)) (ucd λ i=>?_);by_cases hi:i<O.length
  ·let e:ys[i]?=some ys[i]:=d7 (by left);rw[e,ab i _ e,j0,j0,d7 hi];unfold Far.get;rw[c8,d7 hi];rfl
  ·rw[uag (by left),uag (by rw[c9,c9];left)]
theorem za1 (T:Bi mg)(D:DefOk K mg "whole" s_whole ["web"]):‹1› "whole" ["web"] (spWhole K):=by
 exists 0,sc_whole;obtain⟨n,ts,v,rfl,hw,O,q⟩:=h;obtain⟨g0,g,ws,rfl,F,hg,U,aa⟩:=bY hw;exact⟨_,(aE (aJ (bA (tY rfl) rfl T.z_tuple (by symm) (aA (bA mI rfl T.z_range (by symm) (aA (aP bD rfl T.z_len (by symm) (aA (aG aR (pv 0) aC ‹34›) aB)) aB)) aB)))),?_⟩;exact⟨A,g0,V,SqT.of F,rfl,g,A,.inr (SqT.of hg),A,λ r z=>?_⟩;exact⟨r,A,aM,by left,by left,λ l H' S f e=>q l H' ((aU z).trans S) ((aU (o:=.rng 0 _) z).free f) ?_⟩;rw[e,show ((ws.length:Nat):Int).toNat=ts.length by left]
inductive spWH_i (K:b8)(vs:List V)(H:Hp)(Q:VK):Prop
 | mk:∀ (n:Int)(ts:List Tie)(wv:V)(r:Nat),(vs=[wv,.int (r:Int)])->‹45›->(WebOk n ts)->(r<n.toNat)->(∀ p H',Same H H'->H' p=some (.tup ((htP n ts r).map V.int))->Q (.ref p) H')->spWH_i K vs H Q
def spWH (K:b8):Sp:=λ vs H Q _=>spWH_i K vs H Q
theorem tN (T:Bi mg)(D:DefOk K mg "web_heights" s_web_heights ["web","place"])(O_heights_from:‹4› "heights_from" ["web","keep","a","roof"] (spHFrom K))(O_whole:‹4› "whole" ["web"] (spWhole K)):‹5› "web_heights" ["web","place"] (spWH K):=by
 exists 4,sc_web_heights;obtain⟨n,ts,wv,r,rfl,F,ok,aa,q⟩:=h;let z:=ok.few;exact⟨_,(aE (aJ (aH O_heights_from hr rfl (aA (pv 0) (aA (aH O_whole hr rfl (aA (pv 0) aB)) (aA (pv 1) (aA (aF bS aC aC) aB))))))),?_⟩;exact⟨K,n,ts,wv,rfl,F,z,λ lk J1 O f1 e1=>?_⟩;exact⟨A,E,⟨by decide,by decide,by decide⟩,n,ts,d8 ts.length,wv,.ref lk,(r:Int),10^20,rfl,⟨Is.same O _ F,ok,gU e1,bX ts⟩,by left,by left,λ p DD J2 S2 e2 lD U=>?_⟩;rw[uav] at U;let eD:=zei ok lD U;subst eD;exact q p J2 (O.trans S2) e2
inductive spTOW_i (K:b8)(vs:List V)(H:Hp)(Q:VK):Prop
 | mk:∀ (n:Int)(ts:List Tie)(wv:V)(p:o7)(ys:List V)(os:List (Option (List Nat))),(vs=[wv,.ref p])->‹45›->(WebOk n ts)->(H p=some (.tup ys))->(ys.length=os.length)->(ys.length<=30)->((∀ (i:Nat)(o:Option (List Nat))(v:V),os[i]?=some o->ys[i]?=some v->WyV H ts o v))->(∀ t H',Same H H'->H' t=some (.tup (natV (twK ts os)))->Q (.ref t) H')->spTOW_i K vs H Q
def spTOW (K:b8):Sp:=λ vs H Q _=>spTOW_i K vs H Q
theorem sQ (T:Bi mg)(D:DefOk K mg "ties_of_ways" s_ties_of_ways ["web","ways"])(O_ties_along:‹2› "ties_along" ["web","places"] (spAlongW K)):‹3› "ties_of_ways" ["web","ways"] (spTOW K):=by
 exists 2,sc_ties_of_ways;obtain⟨n,ts,wv,p,ys,O,rfl,af,ok,hp,ae,aj,ad,q⟩:=h;let aa:=ok.few;exact⟨_,(aD (aN (i:=2) nd rfl (t6 rfl) (bP aB)) (aD (bW PassesOwn.never rfl (cC (pv 1)) ‹96› (aE (aS (aO jY (pv 3) bR (nomark _)) (aE (dX (dQ ubs PySem.F.slot_list_extend PySem.F.type_list_extend xA (pv 2) (aA (aH O_ties_along hr rfl (aA (pv 0) (aA (pv 3) aB))) aB)))) aT))) (aE (aJ (bA cK rfl T.z_tuple (by symm) (aA (aP (iO rfl) rfl T.z_sorted (by symm) (aA (bA (iX rfl) rfl T.z_set (by symm) (aA (pv 2) aB)) aB)) aB)))))),?_⟩;exact⟨(by show 0<=1000;decide),λ lf J1 S1 f1 e1=>?_⟩;let ac:∀ i o,O[i]?=some o->∃ v,ys[i]?=some v/\WyV H ts o v:=λ i o e=>by
  let hi:=(j9.mp e).1;let ev:ys[i]?=some ys[i]:=d7 (by left);exact⟨_,ev,ad i o _ e ev⟩
 let lt:∀ k∈O.flatMap (awN ts),k<ts.length:=λ k hk=>by
  obtain⟨o,ho,hk⟩:=ub7.mp hk;obtain⟨i,hi⟩:=uci.mp ho;obtain⟨v,_,wy⟩:=ac i o hi;exact (kS wy).1 k hk
 let fl:∀ i,((O.take i).flatMap (awN ts)).length<=690:=λ i=>by
  let h1:=oW (f:=awN ts) (m:=23) (O.take i) λ o ho=>by
   obtain⟨j,hj⟩:=uci.mp (ues ho);obtain⟨v,_,wy⟩:=ac j o hj;exact (kS wy).2
  let h2:(O.take i).length<=30:=by rw[o8];left
  let h3:=Nat.mul_le_mul_right 23 h2;left
 exact⟨A,p,rfl,⟨_,SqT.of (S1 _ _ hp)⟩,?_⟩;exact fQ (xs:=ys) (λ i σ J=>∃ y3:Option V,σ=[some wv,some (.ref p),some (.ref lf),y3]/\But lf J1 J/\J lf=some (.lst (natV ((O.take i).flatMap (awN ts))))) ⟨none,rfl,But.refl,e1⟩ (λ i σ J _ h=>?_) (λ i x σ J hx h=>?_) (λ σ J h=>?_)
 ·obtain⟨y3,rfl,bt,_⟩:=h;exact SqT.of (bt _ _ (aW hp f1) (S1 _ _ hp))
 ·obtain⟨y3,rfl,bt,U⟩:=h;let hi:=(j9.mp hx).1;let ho:O[i]?=some O[i]:=d7 (by left);let wy:=ad i _ _ ho hx;let tn:O.take (i+1)=O.take i++[O[i]]:=by rw[udo,ho];rfl
  let sm:Same H J:=λ b o e=>bt _ _ (aW e f1) (S1 _ _ e);let l1:=fl i;let l2:=(kS wy).2;generalize O[i]=o at wy tn l2;rcases wy with ⟨rfl,rfl⟩ | ⟨t,ws,rfl,rfl,ht,ai,lk⟩
  ·exact⟨C,A,iteF ⟨A,bt,?_⟩⟩;rw[U,tn,ue4];show _=some (HO.lst (natV (_++[])));rw[uc5]
  ·exact⟨C,A,iteT ⟨A,.inl ⟨Y,SqL.of U⟩,K,n,ts,wv,t,ws,rfl,Is.same sm _ af,aa,sm _ _ ht,by left,lk,λ l4 J4 S4 e4=>?_⟩⟩;exact⟨lf,l4,E,S4 _ _ U,e4,by rw[gJ,gJ];change (alongN ts ws).length<=23 at l2;left,λ J5 b5 e5=>⟨_,rfl,λ b o z e=>b5 _ _ z (S4 _ _ (bt _ _ z e)),?_⟩⟩;rw[e5,tn,ue4,wE];show _=some (HO.lst (_++natV (alongN ts ws++[])));rw[uc5]
 ·obtain⟨y3,rfl,bt,U⟩:=h;have l1:=fl O.length;rw[ae,ud1] at U;rw[ud1] at l1;have sm:Same H J:=λ b o e=>bt _ _ (aW e f1) (S1 _ _ e);have ab:=jU lt;obtain⟨fu,ah⟩:∃ fu,fu=O.flatMap (awN ts):=⟨A⟩;rw[← ah] at U l1 lt ab;have few:=zat (ns:=keepI fu) (m:=60) λ x hx=>by
   obtain⟨c,hc,rfl⟩:=w8.mp hx;let:=lt c hc;left
  rw[cG] at U;exact⟨A,lf,keepI fu,rfl,U,by unfold keepI;rw[c9];left,λ q1 J2 S2 f2 e2=>⟨q1,_,_,rfl,e2,by left,λ ms m1 m2 m3 l3 J3 S3 f3 e3=>⟨l3,_,rfl,e3,λ t J4 S4 f4 e4=>?_⟩⟩⟩;rw[vV m1 m2 m3 (dB ts O).1 ab] at e4;exact q t J4 (sm.trans (S2.trans (S3.trans S4))) e4
noncomputable def wysN (ts:List Tie)(prs:List (Nat × Nat)):List (Option (List Nat)):=prs.map λ p=>wyN ts p.1 p.2
structure PtV (n:Int)(ts:List Tie)(prs:List (Nat × Nat))(t ta tb tc:o7)(ys zs:List V)(H':Hp):Prop where
 e:H' t=some (.tup [.ref ta,.ref tb,.ref tc])
 ea:H' ta=some (.tup (natV (twK ts (wysN ts prs))))
 eb:H' tb=some (.tup ys)
 ec:H' tc=some (.tup zs)
 ly:ys.length=prs.length
 lz:zs.length=prs.length
 wy:∀ (i:Nat)(pr:Nat × Nat)(v:V),prs[i]?=some pr->ys[i]?=some v->WyV H' ts (wyN ts pr.1 pr.2) v
 hz:∀ (i:Nat)(pr:Nat × Nat)(v:V),prs[i]?=some pr->zs[i]?=some v->∃ a,v=.ref a/\H' a=some (.tup ((htP n ts pr.1).map V.int))
def PrsOk (n:Int)(prs:List (Nat × Nat)):Prop:=prs.length<=30/\∀ pr∈prs,pr.1<n.toNat/\pr.2<n.toNat
inductive spPT_i (K:b8)(vs:List V)(H:Hp)(Q:VK):Prop
 | mk:∀ (n:Int)(ts:List Tie)(wv:V)(p:o7)(ps:List V)(prs:List (Nat × Nat)),(vs=[wv,.ref p])->‹45›->(WebOk n ts)->(H p=some (.tup ps))->(IsAll K H (prs.map prD) ps)->(PrsOk n prs)->(∀ t ta tb tc ys zs H',Same H H'->PtV n ts prs t ta tb tc ys zs H'->Q (.ref t) H')->spPT_i K vs H Q
def spPT (K:b8):Sp:=λ vs H Q _=>spPT_i K vs H Q
theorem uL (T:Bi mg)(D:DefOk K mg "pairs_told" s_pairs_told ["web","pairs"])(O_the_way:‹5› "the_way" ["web","keep","a","b"] (spWayM K))(O_whole:‹5› "whole" ["web"] (spWhole K))(O_web_heights:‹5› "web_heights" ["web","place"] (spWH K))(O_ties_of_ways:‹5› "ties_of_ways" ["web","ways"] (spTOW K)):‹6› "pairs_told" ["web","pairs"] (spPT K):=by
 exists 5,sc_pairs_told;obtain⟨n,ts,wv,p,ps,prs,rfl,ad,ok,hp,af,⟨an,aj⟩,q⟩:=h;let ae:=ok.few;let aq:ps.length=prs.length:=by rw[af.length,c9]
 exact⟨_,(aD (aN (i:=2) nd rfl (t6 rfl) (bA cK rfl T.z_tuple (by symm) (aA (bQ (N:=["web","pairs","ways","heights"]) (sc0:=defScope s_pairs_told) (own:=["a","b"]) (fr:=["web"]) (js:=[0]) rfl (cC (pv 1)) (λ _ _ _ _=>(dJ (n:=2) rfl (aQ (aK (i:=0) (by show uau [("a":Str),("b":Str),("web":Str)];decide +kernel) rfl (t6 rfl)) (aQ (aK (i:=1) (by show uau [("a":Str),("b":Str),("web":Str)];decide +kernel) rfl (t6 rfl)) bL)))) ‹85› (λ _ _ _ _=>(aH O_the_way hr rfl (aA (pv 2) (aA (aH O_whole hr rfl (aA (pv 2) aB)) ‹88›))))) aB))) (aD (aN (i:=3) nd rfl (t6 rfl) (bA cK rfl T.z_tuple (by symm) (aA (bQ (N:=["web","pairs","ways","heights"]) (sc0:=defScope s_pairs_told) (own:=["a","b"]) (fr:=["web"]) (js:=[0]) rfl (cC (pv 1)) (λ _ _ _ _=>(dJ (n:=2) rfl (aQ (aK (i:=0) (by show uau [("a":Str),("b":Str),("web":Str)];decide +kernel) rfl (t6 rfl)) (aQ (aK (i:=1) (by show uau [("a":Str),("b":Str),("web":Str)];decide +kernel) rfl (t6 rfl)) bL)))) ‹85› (λ _ _ _ _=>(aH O_web_heights hr rfl (aA (pv 2) (aA (pv 0) aB))))) aB))) (aE (aJ (bC (aA (aH O_ties_of_ways hr rfl (aA (pv 0) (aA (pv 2) aB))) (aA (pv 2) (aA (pv 3) aB)))))))),?_⟩;exact⟨A,p,rfl,⟨_,SqT.of hp⟩,?_⟩;exact dS hp (λ ab=>∃ o1 o2,ab=[o1,o2,some wv]) (λ i v J=>WyV J ts (wyN ts (prs.getD i (0,0)).1 (prs.getD i (0,0)).2) v) (by left) (by exact⟨none,none,rfl⟩) (λ i v J J' k h=>h.tk k) (λ i x ab H' hx s2 sg C hC=>?_) (λ L ys J1 hL S1 hH ap ak=>?_)
 ·obtain⟨o1,o2,rfl⟩:=sg;obtain⟨F,t,ac,rfl,ht⟩:=gB (IsAll.same s2 _ af) hx;let er:prs.getD i (0,0)=F:=by rw[c8,ac];rfl
  rw[er] at hC;let:=aj F (ual ac);exact⟨t,A,SqT.of ht,Y,A,E,?_⟩;exact⟨K,n,ts,wv,rfl,Is.same s2 _ ad,ae,λ lk J2 S2 f2 e2=>?_⟩;exact⟨K,n,ts,d8 ts.length,wv,.ref lk,_,A,⟨Is.same (s2.trans S2) _ ad,ok,gU e2,bX ts⟩,by left,by left,by left,by left,λ v J3 S3 hv=>hC _ _ _ ⟨_,_,rfl⟩ (S2.trans S3) ?_⟩;rw[uav,uav] at hv;exact zek ok hv
 exact⟨L,A,hH,λ tb J2 S2 f2 e2=>?_⟩;let U:=S1.trans S2;let ai:=U _ _ hp;exact⟨A,p,rfl,⟨_,SqT.of ai⟩,?_⟩;exact dS ai (λ ab=>∃ o1 o2,ab=[o1,o2,some wv]) (λ i v J=>∃ a,v=.ref a/\J a=some (.tup ((htP n ts (prs.getD i (0,0)).1).map V.int))) (by left) (by exact⟨none,none,rfl⟩) (λ i v J J' k h=>by obtain⟨a,e1,e2⟩:=h;exact⟨a,e1,k _ _ e2⟩) (λ i x ab H' hx s2 sg C hC=>?_) (λ L2 zs J3 ao S3 al ar am=>?_)
 ·obtain⟨o1,o2,rfl⟩:=sg;obtain⟨F,t,ac,rfl,ht⟩:=gB (IsAll.same (U.trans s2) _ af) hx;let er:prs.getD i (0,0)=F:=by rw[c8,ac];rfl
  rw[er] at hC;let:=aj F (ual ac);exact⟨t,A,SqT.of ht,Y,A,E,?_⟩;exact⟨K,n,ts,wv,F.1,rfl,Is.same (U.trans s2) _ ad,ok,this.1,λ p5 H5 S5 e5=>hC _ _ _ ⟨_,_,rfl⟩ S5 ⟨p5,rfl,e5⟩⟩
 exact⟨L2,A,al,λ tc J4 S4 f4 e4=>?_⟩;let O:=S3.trans S4;let ah:∀ (i:Nat)(F:Nat × Nat)(v:V),prs[i]?=some F->ys[i]?=some v->WyV J4 ts (wyN ts F.1 F.2) v:=λ i F v h1 h2=>by
  let:=ak i v h2;rw[c8,h1] at this;exact (this.same S2).same O
 let ly:ys.length=prs.length:=by left
 exact⟨K,n,ts,wv,tb,ys,wysN ts prs,rfl,Is.same (U.trans O) _ ad,ok,O _ _ e2,by unfold wysN;rw[c9,ly],by left,λ i o v ho hv=>?_,λ ta J5 S5 e5=>?_⟩
 ·unfold wysN at ho;rw[j0] at ho;obtain⟨F,h1,rfl⟩:=r6.mp ho;exact ah i F v h1 hv
 exact⟨K,(by show 3<=1000;decide),λ t J6 S6 f6 e6=>?_⟩;let aa:=S5.trans S6;exact q t ta tb tc ys zs J6 (U.trans (O.trans aa)) ⟨e6,S6 _ _ e5,aa _ _ (O _ _ e2),aa _ _ e4,ly,by left,λ i F v h1 h2=>(ah i F v h1 h2).same aa,λ i F v h1 h2=>?_⟩;obtain⟨a,e,z⟩:=am i v h2;rw[c8,h1] at z;exact⟨a,e,aa _ _ (S4 _ _ z)⟩
inductive spLPairs_i (K:b8)(vs:List V)(H:Hp)(Q:VK):Prop
 | mk:∀ (p:o7)(n:Int),(vs=[.ref p,.int n])->(Pot H p)->(1<=n)->(n<=24)->(∀ t ps prs H',But p H H'->Pot H' p->H' t=some (.tup ps)->IsAll K H' (prs.map prD) ps->PrsOk n prs->Q (.ref t) H')->spLPairs_i K vs H Q
def spLPairs (K:b8):Sp:=λ vs H Q _=>spLPairs_i K vs H Q
theorem eM:∀ prs:List (Nat × Nat),tupAll (prs.map prD)=true:=λ prs=>by
 induction prs with
 | nil=>rfl
 | cons x r ih=>show (tupD (prD x)&&tupAll (r.map prD))=true;rw[ih];rfl
theorem sW (T:Bi mg)(D:DefOk K mg "_law_pairs" s__law_pairs ["pot","n"])(O__law_take:‹1› "_law_take" ["pot","many"] spTake):‹2› "_law_pairs" ["pot","n"] (spLPairs K):=by
 exists 1,sc__law_pairs;obtain⟨p,n,rfl,hp,n1,ai,q⟩:=h;exact⟨_,(aD (aN (i:=2) nd rfl (t6 rfl) ‹31›) (aD (aN (i:=3) nd rfl (t6 rfl) (aG aY (bP (aA aC (aA aC (aA aC (aA aC (aA aC aB)))))) (pv 2) ‹34›)) (aD (aN (i:=4) nd rfl (t6 rfl) (aH O__law_take hr rfl ‹88›)) (aD (aN (i:=5) nd rfl (t6 rfl) (bP aB)) (aD (bW PassesOwn.never rfl (dR rfl T.z_range (aA (pv 1) aB)) (aK (i:=6) nd rfl (t6 rfl)) (aE (bW PassesOwn.never rfl (yP rfl T.z_range (aA (aF bI (pv 6) aC) (aA (pv 1) aB))) (aK (i:=7) nd rfl (t6 rfl)) (aE (aS (PW.pt (fU (aO eT (pv 2) aC (nomark _)) (fU (aO aV (aH O__law_take hr rfl (aA (pv 0) (aA (pv 3) aB))) aC (nomark _)) (iA (PW.pt (cQ (aO cS (pv 2) aC (nomark _)) (cQ (aO aV (pv 4) (pv 6) (nomark _)) (dC (aO aV (pv 4) (pv 7) (nomark _)))))))))) (aE (dX (dQ ubs uch ucg gN (pv 5) (aA (bC (aA (pv 6) (aA (pv 7) aB))) aB)))) aT))))) (aE (aJ (bA cK rfl T.z_tuple (by symm) (aA (bE zcd (pv 5) bB (bF aC)) aB))))))))),?_⟩;exact⟨A,p,5,rfl,hp,by decide,by decide,λ U H1 w0 w1 b1 p1=>?_⟩;obtain⟨x,ex,x0,aj⟩:∃ x:Int,atI [V.int 1,.int 4,.int 2,.int 1,.int 1] U=some (.int x)/\1<=x/\x<=4:=by
  let:U=0\/U=1\/U=2\/U=3\/U=4:=by left
  rcases this with rfl | rfl | rfl | rfl | rfl
  ·exact⟨1,rfl,by decide,by decide⟩
  ·exact⟨4,rfl,by decide,by decide⟩
  ·exact⟨2,rfl,by decide,by decide⟩
  ·exact⟨1,rfl,by decide,by decide⟩
  ·exact⟨1,rfl,by decide,by decide⟩
 exact⟨(by show 5<=1000;decide),λ l0 J0 S0 f0 e0=>⟨_,rfl,l0,_,_,_,rfl,rfl,SqL.of e0,ex,?_⟩⟩;exact⟨K,p,n,rfl,p1.same S0,by left,by left,λ one H2 o0 o1 b2 p2=>?_⟩;exact⟨(by show 0<=1000;decide),λ lf J1 S1 f1 e1=>?_⟩;let bH:But p H J1:=b1.trans ((Same.but S0).trans (b2.trans (Same.but S1)));let ad:∀ b o,b≠p->H b=some o->b≠lf:=λ b o hb e z=>by
  let:=(b1.trans ((Same.but S0).trans b2)) _ _ hb e;rw[z,f1] at this;cases this
 let ab:lf≠p:=λ z=>by
  obtain⟨xs,e⟩:=p2.lst;rw[z,e] at f1;cases f1
 exact⟨A,n,rfl,by left,by left,?_⟩;exact dE (n:=n.toNat) (λ i σ J=>∃ (ys:List V)(prs:List (Nat × Nat))(y6 y7:Option V),σ=[some (.ref p),some (.int n),some (.int U),some (.int x),some (.int one),some (.ref lf),y6,y7]/\But p H J/\Pot J p/\J lf=some (.lst ys)/\IsAll K J (prs.map prD) ys/\prs.length<=24*i/\∀ pr∈prs,pr.1<n.toNat/\pr.2<n.toNat) ⟨[],[],none,none,rfl,bH,p2.same S1,e1,rfl,i8 _,λ _ h=>(by cases h)⟩ (λ i σ J hi h=>?_) (λ σ J h=>?_)
 ·obtain⟨ys,prs,y6,y7,rfl,bt,pt,hf,F,lp,O⟩:=h;exact⟨A,E,A,_,A,⟨by left,by left,by left,by left⟩,?_⟩;exact dE (n:=(n-(0+(i:Int)+1)).toNat) (λ j σ J=>∃ (ys:List V)(prs:List (Nat × Nat))(y7:Option V),σ=[some (.ref p),some (.int n),some (.int U),some (.int x),some (.int one),some (.ref lf),some (.int (0+(i:Int))),y7]/\But p H J/\Pot J p/\J lf=some (.lst ys)/\IsAll K J (prs.map prD) ys/\prs.length<=24*i+j/\∀ pr∈prs,pr.1<n.toNat/\pr.2<n.toNat) ⟨ys,prs,_,rfl,bt,pt,hf,F,lp,O⟩ (λ j σ J hj h=>?_) (λ σ J h=>?_)
  ·clear F hf bt pt lp O;obtain⟨ys,prs,y7,rfl,bt,pt,hf,F,lp,O⟩:=h;let ah:ys.length=prs.length:=by rw[F.length,c9]
   apply brJ (A:=λ (J:Hp)=>But p H J/\Pot J p/\J lf=some (.lst ys)/\IsAll K J (prs.map prD) ys)
   case main =>
    intro tail;exact⟨A,E,A,ite2 (λ c=>?_) (λ c=>?_)⟩
    ·exact⟨K,p,x,rfl,pt,by left,by left,λ r J2 r0 r1 b2 p2=>⟨rfl,_,rfl,ite2 (λ c=>?_) (λ c=>?_)⟩⟩
     ·obtain⟨ac,aa⟩:=pt.lst;let st:=(⟨bt.trans b2,p2,b2 _ _ ab hf,IsAll.but b2 aa _ (eM _) F⟩:But p H J2/\Pot J2 p/\J2 lf=some (.lst ys)/\IsAll K J2 (prs.map prD) ys);exact⟨A,E,A,ite2 (λ c=>?_) (λ c=>?_)⟩
      ·exact iteT (tail J2 st)
      ·exact⟨A,C,A,ite2 (λ c=>?_) (λ c=>?_)⟩
       ·exact iteT (tail J2 st)
       ·exact⟨A,C,A,ite2 (λ c=>?_) (λ c=>?_)⟩
        ·exact tail J2 st
        ·exact⟨ys,prs,A,st.1,st.2.1,st.2.2.1,st.2.2.2,by left,O⟩
     ·obtain⟨ac,aa⟩:=pt.lst;exact⟨ys,prs,A,bt.trans b2,p2,b2 _ _ ab hf,IsAll.but b2 aa _ (eM _) F,by left,O⟩
    ·exact⟨ys,prs,A,bt,pt,hf,F,by left,O⟩
   case tail =>
   rintro J2 ⟨bt,pt,hf,F⟩;exact⟨A,.inl ⟨Y,SqL.of hf⟩,K,(by show 2<=1000;decide),λ t J3 S3 f3 e3=>⟨lf,_,_,rfl,rfl,S3 _ _ hf,by left,λ J4 b4 e4=>?_⟩⟩;let af:t≠lf:=λ z=>by rw[z,hf] at f3;cases f3
   exact⟨_,prs++[(i,i+1+j)],A,λ b o hb e=>b4 _ _ (ad b o hb e) (S3 _ _ (bt _ _ hb e)),?_,e4,?_,by rw[i7,j6];left,λ pr h=>?_⟩
   ·obtain⟨a',b',e',z⟩:=pt;exact⟨a',b',b4 _ _ ab.symm (S3 _ _ e'),z⟩
   ·rw[uaq];exact IsAll.append (IsAll.but b4 (S3 _ _ hf) _ (eM _) (IsAll.same S3 _ F)) ⟨_,A,⟨t,A,b4 _ _ af e3,?_⟩,rfl⟩;let:=IsAll.ints (K:=K) (H:=J4) [((i:Nat):Int),((i+1+j:Nat):Int)];rw[show (0:Int)+(i:Int)=((i:Nat):Int) by left,show ((i:Nat):Int)+1+(j:Int)=((i+1+j:Nat):Int) by left];exact this
   ·rcases uat.mp h with h | h
    ·exact O pr h
    ·rw[u5.mp h];exact⟨hi,by show i+1+j<n.toNat;left⟩
  ·obtain⟨ys,prs,y7,rfl,bt,pt,hf,F,lp,O⟩:=h;exact⟨ys,prs,_,A,bt,pt,hf,F,by left,O⟩
 ·obtain⟨ys,prs,y6,y7,rfl,bt,pt,hf,F,lp,O⟩:=h;exact⟨K,lf,A,SqL.of hf,λ p2 ae=>⟨p2,_,rfl,aM,λ t J3 S3 f3 e3=>?_⟩⟩;let S:=(aU ae).trans S3;let ec:cutV ys none (some 30)=ys.take 30:=fR ys 30;rw[ec] at e3;exact q t _ (prs.take 30) J3 (bt.trans (Same.but S)) (pt.same S) e3 ?_ ⟨by rw[o8];left,λ pr h=>O pr (ues h)⟩;let l:=F.length;exact IsAll.of (by rw[o8,c9,o8,l,c9]) λ i d v hd hv=>?_;rw[j0,uec] at hd;rw[uec] at hv;by_cases z:i<30
  ·rw[uh2 z] at hd hv;obtain⟨d',h1,h2⟩:=IsAll.from_ (IsAll.same S _ F) hv;rw[j0,hd] at h1;cases h1;exact h2
  ·rw[uh3 z] at hv;cases hv
inductive spOut_i  (vs:List V) (H:Hp) (Q:VK):Prop
 | mk:∀ (x:Int),(vs=[.int x])->(Q (.bl (decide (10^20<=x))) H)->spOut_i vs H Q
def spOut :Sp:=λ vs H Q _=>spOut_i vs H Q
theorem sR (T:Bi mg)(D:DefOk K mg "out_of_reach" s_out_of_reach ["height"]):‹1› "out_of_reach" ["height"] spOut:=by
 exists 0,sc_out_of_reach;obtain⟨x,rfl,q⟩:=h;exact⟨_,(aE (aJ (aZ rK (pv 0) (aF bS aC aC) (nomark _)))),?_⟩;exact⟨A,E,⟨by decide,by decide,by decide⟩,E,q⟩
theorem gF {hs:List Int}{v:Nat}(h:v<hs.length):atI (hs.map V.int) (v:Int)=some (.int (hN hs v)):=bT (ua3 _) (by rw[uav,j0,d7 h];unfold hN;rw[c8,d7 h];rfl)
theorem mJ {ts:List Tie}{ws:List Nat}(lk:linked ts ws):alongO ts ws=natV (alongN ts ws):=by
 unfold alongO alongN natV;rw[ua0];exact ua2 λ i hi=>?_;let hi:=m8.mp hi;let q:ws[i]?=some (ws.getD i 0):=by rw[c8,d7 (by left)];rfl
 let e2:ws[i+1]?=some (ws.getD (i+1) 0):=by rw[c8,d7 (by left)];rfl
 obtain⟨k,e,_⟩:=gT lk q e2;show oa ‹63›=V.int ((‹63›.getD 0:Nat):Int);rw[e];rfl
theorem zbv (vs:List V)(H:Hp)(Q:VK)(E:XK)(h:spAlongW K vs H Q E):spAlongO K vs H Q E:=by
 obtain⟨n,ts,O,t,ws,e,F,few,ht,l,U,q⟩:=h;exact⟨n,ts,O,t,ws,e,F,few,ht,by left,λ l H' S z=>q l H' S (by rw[z,mJ U])⟩
theorem zbw (vs:List V)(H:Hp)(Q:VK)(E:XK)(h:spAlong K vs H Q E):spAlongO K vs H Q E:=by
 obtain⟨n,ts,O,t,ws,e,F,few,ht,l,U,q⟩:=h;exact⟨n,ts,O,t,ws,e,F,few,ht,by left,λ l H' S z=>q l H' S (by rw[z,mJ U])⟩
theorem xG {m:Nat}{ns:List Int}(h:keepB m (.tuple (ns.map .int))=true):KeepOk m (ns.map ubk)/\keepI (ns.map ubk)=ns:=by
 let h':((ns.map uei).all (numB m)&&risI ((ns.map uei).map intOf))=true:=h;rw[m7,ua0,show (intOf ∘ uei)=id from rfl,uda,uck,v8,oJ] at h';obtain⟨h1,h2⟩:=h';let h3:∀ x∈ns,0<=x/\x<(m:Int):=λ x q=>by
  let:=h1 x q;let e:(decide (0<=x)&&decide (x<(m:Int)))=true:=this;rw[m7,decide_eq_true_eq,decide_eq_true_eq] at e;exact e
 exact⟨⟨?_,λ k O=>?_⟩,?_⟩
 ·rw[ua1];exact h2.imp_of_mem λ {a b} F z h=>by let:=h3 a F;let:=h3 b z;left
 ·obtain⟨x,q,rfl⟩:=w8.mp O;let:=h3 x q;left
 ·unfold keepI;rw[ua0]
  conv=>rhs;rw[← uda ns]
  exact ua2 λ x q=>by let:=h3 x q;show ((x.toNat:Nat):Int)=x;left
def OpI (H:Hp)(o:Option (List Int))(v:V):Prop:=(o=none/\v=.non)\/∃ t ws,o=some ws/\v=.ref t/\IntT H t ws/\ws.length<=40
theorem OpI.same {H H':Hp}{o:Option (List Int)}{v:V}(k:Same H H')(h:OpI H o v):OpI H' o v:=by
 rcases h with h | ⟨t,ws,e,q,e2,z⟩
 ·exact .inl h
 ·exact .inr ⟨t,ws,e,q,e2.same k,z⟩
def riseI (pr:Nat × Nat)(hs:List Int):Int:=hN hs pr.2-hN hs pr.1
def pjB (n:Int)(ts:List Tie)(ks:List Nat)(pr:Nat × Nat)(hs:List Int):Option (List Int)->Bool
 | none=>holdB n ts ‹39› hs&&decide (10^20<=riseI pr hs)
 | some ws=>holdB n ts ‹39› hs&&(leadsI n ts ks pr.1 pr.2 ws&&decide (riseI pr hs=(rightI n ts ks ws).getD 0))
inductive spPJ_i (K:b8)(vs:List V)(H:Hp)(Q:VK):Prop
 | mk:∀ (n:Int)(ts:List Tie)(ks:List Nat)(wv kv:V)(pa:o7)(pr:Nat × Nat)(o:Option (List Int))(x:V)(p:o7)(hs:List Int),(vs=[wv,kv,.ref pa,x,.ref p])->‹74›->(H pa=some (.tup [.int (pr.1:Int),.int (pr.2:Int)]))->(pr.1<n.toNat)->(pr.2<n.toNat)->(OpI H o x)->(IntT H p hs)->(∀ H',Same H H'->Q (.bl (pjB n ts ks pr hs o)) H')->spPJ_i K vs H Q
def spPJ (K:b8):Sp:=λ vs H Q _=>spPJ_i K vs H Q
theorem uM (T:Bi mg)(D:DefOk K mg "pair_right" s_pair_right ["web","keep","pair","way","heights"])(O_heights_hold:‹5› "heights_hold" ["web","keep","heights"] (spHold K))(O_whole:‹5› "whole" ["web"] (spWhole K))(O_out_of_reach:‹5› "out_of_reach" ["height"] spOut)(O_leads_between:‹5› "leads_between" ["web","keep","a","b","way"] (spLeadsI K))(O_way_length:‹5› "way_length" ["web","way"] (spWLen K)):‹6› "pair_right" ["web","keep","pair","way","heights"] (spPJ K):=by
 exists 5,sc_pair_right;obtain⟨n,ts,ks,wv,kv,pa,pr,o,x,p,hs,rfl,wk,ac,l1,l2,ho,it,q⟩:=h;let ok:=wk.2.1;let ko:=wk.2.2.2;let O:=ok.few;exact⟨_,(aD (aS (cO (cA (aH O_heights_hold hr rfl (aA (pv 0) (aA (aH O_whole hr rfl (aA (pv 0) aB)) (aA (pv 4) aB)))))) (aE (aJ bK)) aT) (aD (cB (pv 2) (cI (n:=2) rfl (aQ (aK (i:=5) nd rfl (t6 rfl)) (aQ (aK (i:=6) nd rfl (t6 rfl)) bL)))) (aD (aN (i:=7) nd rfl (t6 rfl) (aF cF (aG aR (pv 4) (pv 6) ‹34›) (aG aR (pv 4) (pv 5) ‹34›))) (aD (aS (aO dN (pv 3) bR (nomark _)) (aE (aJ (aH O_out_of_reach hr rfl (aA (pv 7) aB)))) aT) (aE (aJ (cJ (aH O_leads_between hr rfl (aA (pv 0) (aA (pv 1) (aA (pv 5) (aA (pv 6) (aA (pv 3) aB)))))) (cD (aZ aV (pv 7) (aH O_way_length hr rfl (aA (pv 0) (aA (pv 3) aB))) (nomark _)))))))))),?_⟩;exact⟨K,n,ts,wv,rfl,wk.1,O,λ lk J1 S1 f1 e1=>?_⟩;exact⟨A,n,ts,d8 ts.length,wv,.ref lk,p,hs,rfl,⟨Is.same S1 _ wk.1,ok,gU e1,bX ts⟩,it.same S1,λ J2 S2=>⟨_,rfl,?_⟩⟩;let F:=S1.trans S2;cases eh:holdB n ts ‹39› hs with
 | false =>
  exact iteT ?_;let q1:=q J2 F;let e:pjB n ts ks pr hs o=false:=by cases o <;> (unfold pjB;rw[eh];rfl)
  rw[e] at q1;exact q1
 | true =>
  let ln:hs.length=n.toNat:=by
   unfold holdB at eh;rw[m7] at eh;exact uh0 eh.1
  let ab:=F _ _ it.1;let aa:=F _ _ ac;exact iteF ⟨A,pa,A,SqT.of aa,Y,A,E,?_⟩;exact⟨K,p,V,SqT.of ab,gF (by left),K,p,V,SqT.of ab,gF (by left),E,?_⟩;let q2:=q J2 F;rcases ho with ⟨rfl,rfl⟩ | ⟨t,ws,rfl,rfl,iT,ae⟩
  ·exact⟨C,A,iteT ⟨K,?_⟩⟩;unfold pjB at q2;rw[eh] at q2;exact q2
  ·exact⟨C,A,iteF ?_⟩;exact⟨K,Z,n,ts,ks,wv,kv,t,ws,_,A,wk.same F,iT.same F,ae,λ J3 S3=>⟨_,rfl,?_⟩⟩;let qq:∀ J,Same H J->Q (.bl (leadsI n ts ks pr.1 pr.2 ws&&decide (riseI pr hs=(rightI n ts ks ws).getD 0))) J:=λ J S=>by
    let z:=q J S;unfold pjB at z;rw[eh] at z;exact z
   let q3:=qq J3 (F.trans S3);cases el:leadsI n ts ks pr.1 pr.2 ws with
   | false =>
    rw[el] at q3;exact iteF q3
   | true =>
    exact iteT ?_;let er:(rightI n ts ks ws).isSome=true:=by
     unfold leadsI at el;rw[m7] at el;exact el.1
    obtain⟨y,ey⟩:=ub0.mp er;obtain⟨us,eu,ad,af,ew⟩:=iZ ok ko ey;have U:=F.trans S3;have ht:=(iT.same U).1;rw[eu,← cG] at ht;refine⟨Z,n,ts,wv,t,us,rfl,Is.same U _ wk.1,O,ht,ad,af,λ J4 S4=>?_⟩;have q4:=qq J4 (U.trans S4);rw[el,ey] at q4;rw[ew];refine⟨rfl,?_⟩;rw[bU];exact q4
structure PpV (H:Hp)(kz:List Int)(os:List (Option (List Int)))(hss:List (List Int))(t ta tb tc:o7)(ys zs:List V):Prop where
 e:H t=some (.tup [.ref ta,.ref tb,.ref tc])
 ea:H ta=some (.tup (kz.map V.int))
 eb:H tb=some (.tup ys)
 ec:H tc=some (.tup zs)
 ly:ys.length=os.length
 lz:zs.length=hss.length
 oy:∀ (i:Nat)(o:Option (List Int))(v:V),os[i]?=some o->ys[i]?=some v->OpI H o v
 hz:∀ (i:Nat)(hs:List Int)(v:V),hss[i]?=some hs->zs[i]?=some v->∃ a,v=.ref a/\IntT H a hs
 lk:kz.length<=100
 lo:os.length<=31
 lh:hss.length<=31
theorem PpV.same {H H':Hp}{kz:List Int}{os:List ‹55›}{hss:List (List Int)}{t ta tb tc:o7}{ys zs:List V}(k:Same H H')(h:PpV H kz os hss t ta tb tc ys zs):PpV H' kz os hss t ta tb tc ys zs :=
 ⟨k _ _ h.e,k _ _ h.ea,k _ _ h.eb,k _ _ h.ec,h.ly,h.lz,λ i o v a b=>(h.oy i o v a b).same k,λ i hs v a b=>by obtain⟨p,e,z⟩:=h.hz i hs v a b;exact⟨p,e,z.same k⟩,h.lk,h.lo,h.lh⟩
def natO:Option (List Int)->Option (List Nat):=ue9 λ ws=>ws.map ubk
def allJ (n:Int)(ts:List Tie)(kz:List Int)(prs:List (Nat × Nat))(os:List ‹55›)(hss:List (List Int)):Bool :=
 (d8 prs.length).all λ i=>pjB n ts (kz.map ubk) (prs.getD i (0,0)) (hss.getD i []) (os.getD i none)
def prsJ (n:Int)(ts:List Tie)(prs:List (Nat × Nat))(kz:List Int)(os:List ‹55›)(hss:List (List Int)):Bool :=
 keepB ts.length (tupI kz)&&(decide (os.length=prs.length)&&(decide (hss.length=prs.length)&&(allJ n ts kz prs os hss&&decide (keepI (twK ts (os.map natO))=kz))))
inductive spPRJ_i (K:b8)(vs:List V)(H:Hp)(Q:VK):Prop
 | mk:∀ (n:Int)(ts:List Tie)(wv:V)(p:o7)(ps:List V)(prs:List (Nat × Nat))(kz:List Int)(os:List ‹55›)(hss:List (List Int))(t ta tb tc:o7)(ys zs:List V),(vs=[wv,.ref p,.ref t])->‹45›->(WebOk n ts)->(H p=some (.tup ps))->(IsAll K H (prs.map prD) ps)->(PrsOk n prs)->(PpV H kz os hss t ta tb tc ys zs)->(∀ H',Same H H'->Q (.bl (prsJ n ts prs kz os hss)) H')->spPRJ_i K vs H Q
def spPRJ (K:b8):Sp:=λ vs H Q _=>spPRJ_i K vs H Q
theorem tR (T:Bi mg)(D:DefOk K mg "pairs_right" s_pairs_right ["web","pairs","told"])(O_is_tuple_of:‹6› "is_tuple_of" ["thing","many"] spTupN)(O_is_keep:‹6› "is_keep" ["web","thing"] (spIsKeep K))(O_pair_right:‹6› "pair_right" ["web","keep","pair","way","heights"] (spPJ K))(O_ties_of_ways:‹6› "ties_of_ways" ["web","ways"] (spTOW K)):‹7› "pairs_right" ["web","pairs","told"] (spPRJ K):=by
 exists 6,sc_pairs_right;obtain⟨n,ts,wv,p,ps,prs,kz,os,O,t,ta,tb,tc,ys,zs,rfl,ad,ok,hp,ak,ai,jv,q⟩:=h;let units:∀ {x:Nat},x<=4->(A.deeper (envOfC "pairs_right" (defScope s_pairs_right) ‹128› f cdv)).units+x<cLine:=λ {x} hu=>by let:=hr.units;left
 let ar:=ok.few;let au:ps.length=prs.length:=by rw[ak.length,c9]
 let ay:=ai.1;exact⟨_,(aD (aS (cO (cA (aH O_is_tuple_of hr rfl (aA (pv 2) (aA aC aB))))) (aE (aJ bK)) aT) (aD (cB (pv 2) (cI (n:=3) rfl (aQ (aK (i:=3) nd rfl (ugv rfl)) ‹56›))) (aD (aS (PW.pt (cQ (cO (cA (aH O_is_keep hr rfl (aA (pv 0) (aA (pv 3) aB))))) (cQ (cO (cA (aH O_is_tuple_of hr rfl (aA (pv 4) (aA ‹59› aB))))) (dC (cO (cA (aH O_is_tuple_of hr rfl (aA (pv 5) (aA ‹59› aB))))))))) (aE (aJ bK)) aT) (aD (aS (cO (cA (aP (dF rfl) rfl T.z_all (by symm) (aA (bQ (N:=["web","pairs","told","keep","ways","papers"]) (sc0:=defScope s_pairs_right) (own:=["pair","way","heights"]) (fr:=["web","keep"]) (js:=[0,3]) rfl (zcm rfl T.z_zip (aA (pv 1) (aA (pv 4) (aA (pv 5) aB)))) (λ _ _ _ _=>(dJ (n:=3) rfl (aQ (aK (i:=0) (by show uau [("pair":Str),("way":Str),("heights":Str),("web":Str),("keep":Str)];decide +kernel) rfl (t6 rfl)) (aQ (aK (i:=1) (by show uau [("pair":Str),("way":Str),("heights":Str),("web":Str),("keep":Str)];decide +kernel) rfl (t6 rfl)) (aQ (aK (i:=2) (by show uau [("pair":Str),("way":Str),("heights":Str),("web":Str),("keep":Str)];decide +kernel) rfl (t6 rfl)) bL))))) ‹85› (λ _ _ _ _=>(aH O_pair_right hr rfl (aA (pv 3) (aA (pv 4) ‹118›))))) aB)))) (aE (aJ bK)) aT) (aE (aJ (aZ kI (aH O_ties_of_ways hr rfl (aA (pv 0) (aA (pv 4) aB))) (pv 3) (nomark _)))))))),?_⟩;exact⟨A,t,_,3,rfl,jv.e,A,iteNS rfl ?_⟩;exact⟨A,t,A,SqT.of jv.e,Y,A,_,A,E,?_⟩;exact⟨K,n,ts,tupI kz,wv,.ref ta,rfl,ad,⟨ta,A,jv.ea,IsAll.ints _⟩,(by show (kz.map uei).length<=1000;rw[c9];let:=jv.lk;left),λ J1 S1=>⟨_,rfl,?_⟩⟩;let F:=jv.same S1;let ab:=S1 _ _ hp;let qf:∀ J,Same H J->prsJ n ts prs kz os O=false->Q (.bl false) J:=λ J S e=>by let z:=q J S;rw[e] at z;exact z
 cases ek:keepB ts.length (tupI kz) with
 | false =>
  exact iteT (iteT ?_);exact qf J1 S1 (by unfold prsJ;rw[ek];rfl)
 | true =>
 exact iteF ⟨K,p,A,.inr (SqT.of ab),tb,ys,ps.length,rfl,F.eb,A,?_⟩;by_cases co:os.length=prs.length
 case neg =>
  rw[uh1 (show ¬ ys.length=ps.length by rw[F.ly];left)];exact iteT (iteT ?_);exact qf J1 S1 (by unfold prsJ;rw[ek,uh1 co];rfl)
 rw[uhz (show ys.length=ps.length by rw[F.ly];left)];exact iteF ⟨K,p,A,.inr (SqT.of ab),tc,zs,ps.length,rfl,F.ec,A,?_⟩;by_cases ch:O.length=prs.length
 case neg =>
  rw[uh1 (show ¬ zs.length=ps.length by rw[F.lz];left)];exact iteT ?_;exact qf J1 S1 (by unfold prsJ;rw[ek,uhz co,uh1 ch];rfl)
 rw[uhz (show zs.length=ps.length by rw[F.lz];left)];exact iteF ?_;obtain⟨ko,al⟩:=xG (ns:=kz) ek;let an:WK K J1 n ts (kz.map ubk) wv (.ref ta):=⟨Is.same S1 _ ad,ok,gU (by rw[cG,al];exact F.ea),ko⟩;exact⟨Z,p,tb,tc,rfl,⟨_,SqT.of ab⟩,⟨_,SqT.of F.eb⟩,⟨_,SqT.of F.ec⟩,?_⟩;exact zU ab F.eb F.ec (λ ah=>∃ o1 o2 o3,ah=[o1,o2,o3,some wv,some (.ref ta)]) (λ i v _=>v=.bl (pjB n ts (kz.map ubk) (prs.getD i (0,0)) (O.getD i []) (os.getD i none))) (by left) (by rw[F.ly];left) (by rw[F.lz];left) (by exact⟨none,none,none,rfl⟩) ‹73› (λ i x y z U ah H' hx hy hz s2 hU sg C hC=>?_) (λ L bs J2 hL S2 hH am aq=>?_)
 ·obtain⟨o1,o2,o3,rfl⟩:=sg;obtain⟨pr,ap,aj,rfl,ao⟩:=gB (IsAll.same (S1.trans s2) _ ak) hx;let SU:=aU (H:=H') (o:=.tup [.ref ap,y,z]) hU;let hi:=(j9.mp hx).1;let ei:prs.getD i (0,0)=pr:=by rw[c8,aj];rfl
  let eo:os[i]?=some (os.getD i none):=by rw[c8,d7 (by left)];rfl
  let eh:O[i]?=some (O.getD i []):=by rw[c8,d7 (by left)];rfl
  let oy:=(F.oy i _ y eo hy).same (s2.trans SU);obtain⟨pz,rfl,iz⟩:=F.hz i _ z eh hz;let:=ai.2 pr (ual aj);exact⟨U,A,SqT.of aM,Y,A,_,A,E,?_⟩;exact⟨K,Z,n,ts,_,wv,.ref ta,ap,pr,os.getD i none,y,pz,O.getD i [],rfl,an.same (s2.trans SU),SU _ _ ao,this.1,this.2,oy,iz.same (s2.trans SU),λ J4 S4=>hC _ _ _ ⟨_,_,_,rfl⟩ (SU.trans S4) ?_⟩;rw[ei]
 exact⟨L,A,SqL.of (by rw[hH,dI am aq]),A,?_⟩;let aa:=S1.trans S2;rw[au,show ((d8 prs.length).map λ i=>pjB n ts (kz.map ubk) (prs.getD i (0,0)) (O.getD i []) (os.getD i none)).all id=allJ n ts kz prs os O from by rw[uck];rfl];cases ej:allJ n ts kz prs os O with
 | false =>
  exact iteT ?_;exact qf J2 aa (by unfold prsJ;rw[ek,uhz co,uhz ch,ej];rfl)
 | true =>
 exact iteF ?_;let ac:=jv.same aa;exact⟨K,n,ts,wv,tb,ys,os.map natO,rfl,Is.same aa _ ad,ok,ac.eb,by rw[c9];exact ac.ly,by rw[ac.ly];left,λ i o v ho hv=>?_,λ tq J3 S3 e3=>?_⟩
 ·rw[j0] at ho;obtain⟨o',ae,rfl⟩:=r6.mp ho;let hi:=(j9.mp ae).1;rcases ac.oy i o' v ae hv with ⟨rfl,rfl⟩ | ⟨tw,ws,rfl,rfl,iT,az⟩
  ·exact .inl ⟨M⟩
  ·unfold allJ at ej;have z:=v8.mp ej i (m8.mpr (by left));rw[show os.getD i none=some ws by rw[c8,ae];rfl] at z;unfold pjB at z;rw[m7,m7] at z;have el:=z.2.1;unfold leadsI at el;rw[m7] at el;obtain⟨x,ex⟩:=ub0.mp el.1;obtain⟨us,eu,aw,ax,ew⟩:=iZ ok ko ex;have ht:=iT.1;rw[eu,← cG] at ht;refine .inr ⟨tw,us,?_,rfl,ht,aw,ax⟩;show some (ws.map ubk)=some us;rw[eu];unfold keepI;rw[ua0];exact congrArg some ((ua2 λ x _=>uav x).trans (uda us))
 let af:=aa.trans S3;let dq:Is K J3 (tupI (keepI (twK ts (os.map natO)))) (.ref tq):=⟨tq,A,e3,by rw[cG];exact IsAll.ints _⟩;let dk:Is K J3 (tupI kz) (.ref ta):=⟨ta,A,af _ _ jv.ea,IsAll.ints _⟩;let av:∀ z:List Int,(tupI z).depth<=2:=λ z=>by
  let h3:=eY z;show uex _+1<=2;left
 exact⟨A,P,dq,dk,cL _,cL _,units (uaj (uf9 _ _) (uaj (av _) (by decide))),?_⟩;let z:=q J3 af;unfold prsJ at z;rw[ek,uhz co,uhz ch,ej] at z;rw[show udz (tupI (keepI (twK ts (os.map natO)))) (tupI kz)=decide (keepI (twK ts (os.map natO))=kz) from gY _ _];exact z
def numI (ts:List Tie)(m:Nat)(a b:Int):Option Nat:=(d8 m).find? (isE ts a b)
theorem yY {n:Int}{ts:List Tie}(ok:WebOk n ts){i:Nat}(hi:i<ts.length)(a b:Int):numI ts (i+1) a b=if isE ts a b i=true then some i else numI ts i a b:=by
 unfold numI;rw[ubx,List.find?_append];by_cases c:isE ts a b i=true
 ·rw[uh2 c];let no:(d8 i).find? (isE ts a b)=none:=ubu.mpr λ j q e=>by
   let q:=m8.mp q;let:=iB ok (show j<ts.length by left) hi e c;left
  rw[no];show [i].find? (isE ts a b)=_;rw[List.find?_cons_of_pos c]
 ·rw[uh3 c];let:[i].find? (isE ts a b)=none:=by rw[List.find?_cons_of_neg c];rfl
  rw[this,Option.or_none]
def ValL (H:Hp)(ts:List Tie)(o:Option V):Option Nat->Prop
 | none=>o=none
 | some k=>∃ t:o7,o=some (.ref t)/\H t=some (.tup [.int (tieAt ts k).2.2,.int (k:Int)])
theorem ValL.keep {H H':Hp}{ts:List Tie}{o:Option V}{x:Option Nat}(h:ValL H ts o x)(s:∀ a xs,H a=some (.tup xs)->H' a=some (.tup xs)):ValL H' ts o x:=by
 cases x with
 | none=>exact h
 | some k=>obtain⟨t,e,e2⟩:=h;exact⟨t,e,s _ _ e2⟩
def LenD (H:Hp)(ts:List Tie)(m:Nat)(ld:o7):Prop:=∃ kvs:List (List Key × V),H ld=some (.dT kvs)/\kvs.length<=2*m/\∀ a b:Int,ValL H ts (valV kvs (key2 a b)) (numI ts m a b)
theorem LenD.same {H H':Hp}{ts:List Tie}{m:Nat}{ld:o7}(s:Same H H')(h:LenD H ts m ld):LenD H' ts m ld:=by
 obtain⟨kvs,e,l,v⟩:=h;exact⟨kvs,s _ _ e,l,λ a b=>(v a b).keep λ _ _ e=>s _ _ e⟩
theorem LenD.get {H:Hp}{ts:List Tie}{m:Nat}{ld T:o7}(h:LenD H ts m ld){a b:Int}(e:H T=some (.tup [.int a,.int b])):∃ o,DGet H ld (.ref T) o/\ValL H ts o (numI ts m a b):=by
 obtain⟨kvs,q,l,v⟩:=h;let z:H T=some (.tup ((key2 a b).map kV)):=e;exact⟨_,DGet.t q z,v a b⟩
inductive spLen49_i (K:b8)(vs:List V)(H:Hp)(Q:VK):Prop
 | mk:∀ (n:Int)(ts:List Tie)(wv:V),(vs=[wv])->‹45›->(WebOk n ts)->(∀ ld H',Same H H'->H ld=none->LenD H' ts ts.length ld->Q (.ref ld) H')->spLen49_i K vs H Q
def spLen49 (K:b8):Sp:=λ vs H Q _=>spLen49_i K vs H Q
theorem sX (T:Bi mg)(D:DefOk K mg "_law_lengths" s__law_lengths ["web"]):‹1› "_law_lengths" ["web"] (spLen49 K):=by
 exists 0,sc__law_lengths;obtain⟨n,ts,wv,rfl,ao,ok,q⟩:=h;let hu:(A.deeper (envOfC "_law_lengths" (defScope s__law_lengths) ‹128› f cdv)).units+1<cLine:=by let:=hr.units;left
 let aq:=ok.few;obtain⟨g0,g,aj,rfl,ax,hg,af,al⟩:=bY ao;exact⟨_,(aD (aN (i:=1) nd rfl (t6 rfl) zay) (aD (bW PassesOwn.never rfl (jW true rfl T.z_enumerate (aA (aG aR (pv 0) aC ‹34›) aB)) (cI (n:=2) rfl (aQ (aK (i:=2) nd rfl (t6 rfl)) (aQ (cI (n:=3) rfl (aQ ‹96› ‹56›)) bL))) (aD (jV hu (pv 1) (bC (aA (pv 3) (aA (pv 4) aB))) (bC (aA (pv 5) (aA (pv 2) aB))) rfl) (aE (jV hu (pv 1) (bC (aA (pv 4) (aA (pv 3) aB))) (bC (aA (pv 5) (aA (pv 2) aB))) rfl)))) (aE (aJ (pv 1))))),?_⟩;exact λ O aa=>?_;let S1:=aU (H:=H) (o:=.dT []) aa;obtain⟨J1,ak⟩:∃ J1,J1=upd H O (.dT []):=⟨A⟩;let av:J1 O=some (.dT []):=by rw[ak];exact aM
 rw[← ak] at S1 ⊢;refine⟨A,g0,V,SqT.of (S1 _ _ ax),rfl,g,rfl,⟨aj,SqX.of (t:=true) (S1 _ _ hg)⟩,?_⟩;refine zbd (t:=true) (xs:=aj) (λ i σ J=>∃ y2 y3 y4 y5:Option V,σ=[some (.ref g0),some (.ref O),y2,y3,y4,y5]/\But O J1 J/\LenD J ts i O/\i<=ts.length) ⟨none,none,none,none,rfl,But.refl,⟨[],av,uae _,λ a b=>rfl⟩,uae _⟩ (λ i σ J h=>?_) (λ i x U σ J hx hU h=>?_) (λ σ J h=>?_)
 ·obtain⟨y2,y3,y4,y5,rfl,bt,_⟩:=h;exact SqX.of (t:=true) (bt _ _ (aW hg aa) (S1 _ _ hg))
 ·obtain⟨y2,y3,y4,y5,rfl,bt,⟨kvs,hd,az,ap⟩,_⟩:=h;let hi:i<ts.length:=by let:=(j9.mp hx).1;left
  obtain⟨ta,ay,ac⟩:=dA af hi;rw[ay] at hx;cases hx;have SU:=aU (H:=J) (o:=.tup [.int (i:Nat),.ref ta]) hU;have tJ:=bt _ _ (aW ac aa) (S1 _ _ ac);refine⟨U,A,SqT.of aM,Y,A,_,A,ta,A,SqT.of (SU _ _ tJ),Y,A,_,A,E,rfl,?_⟩;obtain⟨J2,am⟩:∃ J2,J2=upd J U (.tup [.int (i:Nat),.ref ta]):=⟨A⟩;rw[← am] at SU ⊢;have sz:kvs.length<p8:=ubv (show kvs.length<=1000 by left) (by decide);refine⟨K,(by show 2<=1000;decide),λ tv J3 S3 f3 e3=>?_⟩;refine⟨Z,(by show 2<=1000;decide),λ te J4 S4 f4 e4=>?_⟩;have aw:J4 te=some (.tup ((key2 (tieAt ts i).1 (tieAt ts i).2.1).map kV)):=e4;have ai:=S4 _ _ (S3 _ _ (SU _ _ hd));refine⟨O,A,DPut.t (k:=key2 (tieAt ts i).1 (tieAt ts i).2.1) ai aw sz,?_⟩;have l1:=gK kvs (key2 (tieAt ts i).1 (tieAt ts i).2.1) (V.ref tv);obtain⟨F,ab⟩:∃ F,F=putK kvs (key2 (tieAt ts i).1 (tieAt ts i).2.1) (V.ref tv):=⟨A⟩;rw[← ab] at l1 ⊢;obtain⟨J5,ad⟩:∃ J5,J5=upd J4 O (.dT F):=⟨A⟩;have ah:J5 O=some (.dT F):=by rw[ad];exact aM
  let b5:But O J4 J5:=by rw[ad];exact But.upd
  rw[← ad];have au:F.length<p8:=ubv (show F.length<=1000 by left) (by decide);refine⟨K,(by show 2<=1000;decide),λ tw J6 S6 f6 e6=>?_⟩;refine⟨Z,(by show 2<=1000;decide),λ tf J7 S7 f7 e7=>?_⟩;have an:J7 tf=some (.tup (‹90›.map kV)):=e7;have l2:=gK F ‹90› (V.ref tw);have bb:But O J J7:=(Same.but (SU.trans (S3.trans S4))).trans (b5.trans (Same.but (S6.trans S7)));have ar:∀ {a:o7}{xs:List V},J4 a=some (.tup xs)->a≠O:=λ e z=>by rw[z,ai] at e;cases e
  let kp:∀ {a:o7}{xs:List V},J a=some (.tup xs)->upd J7 O (.dT (putK F ‹90› (V.ref tw))) a=some (.tup xs):=λ {a xs} e=>by
   let z:a≠O:=λ z=>by rw[z,hd] at e;cases e
   rw[aL z];exact bb _ _ z e
  let kv:upd J7 O (.dT (putK F ‹90› (V.ref tw))) tv=some (.tup [.int (tieAt ts i).2.2,.int (i:Int)]):=by
   let ae:=S4 _ _ e3;let z:=ar ae;rw[aL z];exact S7 _ _ (S6 _ _ (b5 _ _ z ae))
  let kw:upd J7 O (.dT (putK F ‹90› (V.ref tw))) tw=some (.tup [.int (tieAt ts i).2.2,.int (i:Int)]):=by
   let z:tw≠O:=λ z=>by rw[z] at f6;rw[ah] at f6;cases f6
   rw[aL z];exact S7 _ _ e6
  exact⟨O,A,DPut.t (k:=key2 (tieAt ts i).2.1 (tieAt ts i).1) (S7 _ _ (S6 _ _ ah)) an au,P,_,A,(bt.trans bb).trans But.upd,⟨_,aM,by left,λ a b=>?_⟩,hi⟩;rw[nW,ab,nW,yY ok hi];by_cases z:key2 a b=key2 (tieAt ts i).2.1 (tieAt ts i).1
  ·rw[uh2 z,uh2 ((kB ok hi).mpr (.inr z))];exact⟨tw,rfl,by rw[← ab];exact kw⟩
  ·rw[uh3 z];by_cases y:key2 a b=key2 (tieAt ts i).1 (tieAt ts i).2.1
   ·rw[uh2 y,uh2 ((kB ok hi).mpr (.inl y))];exact⟨tv,rfl,by rw[← ab];exact kv⟩
   ·rw[uh3 y,uh3 (λ x=>((kB ok hi).mp x).elim y z)];rw[← ab];exact (ap a b).keep λ a xs e=>kp e
 obtain⟨y2,y3,y4,y5,rfl,bt,hl,_⟩:=h;let sJ:Same H J:=λ b o e=>bt _ _ (aW e aa) (S1 _ _ e);rw[al] at hl;exact⟨A,q O J sJ aa hl⟩
theorem za3 (ts:List Tie)(a b:Int):lenI ts ‹39› a b=(numI ts ts.length a b).map λ k=>(tieAt ts k).2.2:=rfl
theorem zcx {n:Int}{ts:List Tie}(ok:WebOk n ts){a b l:Int}(h:lenI ts ‹39› a b=some l):(0<=a/\a<n)/\0<=b/\b<n:=by
 unfold lenI at h;obtain⟨k,e,_⟩:=r6.mp h;let q:=m8.mp (ua6 e);let c:=isE_iff.mp (ucj e);let t:=ok.tie _ (bN q).2;left
theorem zau {n:Int}{ts:List Tie}(ok:WebOk n ts){ws:List Int}(ne:ws≠[])(nod:ws.Nodup)(h0:0<=ws.getD 0 0/\ws.getD 0 0<n):rightI n ts ‹39› ws=sumY ts ‹39› ws ‹104›:=by
 unfold rightI;by_cases c:ws.all ‹51›=true
 ·rw[uh2 ⟨⟨ne,nod⟩,c⟩]
 ·rw[uh3 (λ z=>c z.2)];cases e:sumY ts ‹39› ws ‹104› with
  | none=>rfl
  | some x =>
   exact absurd (v8.mpr λ i hi=>?_) c;let q:(sumY ts ‹39› ws ‹104›).isSome=true:=by rw[e];rfl
   rw[eX,v8] at q;obtain⟨j,U⟩:=uci.mp hi;let aa:=(j9.mp U).1;let O:ws.getD j 0=i:=by rw[c8,U];rfl
   rw[m7,decide_eq_true_eq,decide_eq_true_eq];by_cases z:j=0
   ·rw[← O,z];exact h0
   ·obtain⟨l,F⟩:=ub0.mp (q (j-1) (m8.mpr (by left)));unfold stepY at F;rw[show j-1+1=j by left,O] at F;exact (zcx ok F).2
inductive spWR49_i (K:b8)(vs:List V)(H:Hp)(Q:VK):Prop
 | mk:∀ (n:Int)(ts:List Tie)(wv:V)(pa:o7)(pr:Nat × Nat)(o:Option (List Int))(x:V)(p:o7)(hs:List Int),(vs=[wv,.ref pa,x,.ref p])->‹45›->(WebOk n ts)->(H pa=some (.tup [.int (pr.1:Int),.int (pr.2:Int)]))->(pr.1<n.toNat)->(pr.2<n.toNat)->(OpI H o x)->(IntT H p hs)->(∀ H',Same H H'->Q (.bl (pjB n ts ‹39› pr hs o)) H')->spWR49_i K vs H Q
def spWR49 (K:b8):Sp:=λ vs H Q _=>spWR49_i K vs H Q
theorem sE (T:Bi mg)(D:DefOk K mg "_law_way_right" s__law_way_right ["web","pair","way","heights"])(O__law_lengths:‹1› "_law_lengths" ["web"] (spLen49 K)):‹2› "_law_way_right" ["web","pair","way","heights"] (spWR49 K):=by
 exists 1,sc__law_way_right;obtain⟨n,ts,wv,pa,O,o,x,p,hs,rfl,au,ok,a8,l1,l2,ho,it,q⟩:=h;let hu:(A.deeper (envOfC "_law_way_right" (defScope s__law_way_right) ‹128› f cdv)).units+1<cLine:=by let:=hr.units;left
 let units:∀ {x:Nat},x<=4->(A.deeper (envOfC "_law_way_right" (defScope s__law_way_right) ‹128› f cdv)).units+x<cLine:=λ {x} hu=>by let:=hr.units;left
 let bc:=ok.few;let n1:=ok.n1;obtain⟨g0,g,aW,rfl,a9,hg,a1,bh⟩:=bY au;let qf:∀ J,Same H J->pjB n ts ‹39› O hs o=false->Q (.bl false) J:=λ J S e=>by let z:=q J S;rw[e] at z;exact z
 let hf:∀ J,Same H J->holdB n ts ‹39› hs=false->Q (.bl false) J:=λ J S e=>qf J S (by cases o <;> (unfold pjB;rw[e];rfl));exact⟨_,(aD (aS (aO eF (aP bD rfl T.z_len (by symm) (aA (pv 3) aB)) (aG aR (pv 0) aC ‹34›) (nomark _)) (aE (aJ bK)) aT) (aD (aS (aO fW (bQ (N:=["web","pair","way","heights","more","lengths","steps"]) (sc0:=defScope s__law_way_right) (own:=["a","b","length"]) (fr:=["heights"]) (js:=[3]) rfl (cC (aG aR (pv 0) aC ‹34›)) (λ _ _ _ _=>(dJ (n:=3) rfl (aQ (aK (i:=0) (by show uau [("a":Str),("b":Str),("length":Str),("heights":Str)];decide +kernel) rfl (t6 rfl)) (aQ (aK (i:=1) (by show uau [("a":Str),("b":Str),("length":Str),("heights":Str)];decide +kernel) rfl (t6 rfl)) (aQ (aK (i:=2) (by show uau [("a":Str),("b":Str),("length":Str),("heights":Str)];decide +kernel) rfl (t6 rfl)) bL))))) (λ _ _ _ _=>(fN (aO eT (aP pF rfl T.z_abs (by symm) (aA (aF cF (aG cH (pv 3) (pv 0) ‹34›) (aG cH (pv 3) (pv 1) ‹34›)) aB)) (pv 2) (nomark _)))) (λ _ _ _ _=>aC)) (bP aB) (nomark _)) (aE (aJ bK)) aT) (aD (aN (i:=4) nd rfl (t6 rfl) (aF cF (aG aR (pv 3) (aG aR (pv 1) aC ‹34›) ‹34›) (aG aR (pv 3) (aG aR (pv 1) aC ‹34›) ‹34›))) (aD (aS (aO dN (pv 2) bR (nomark _)) (aE (aJ (aZ rK (pv 4) (aF bS aC aC) (nomark _)))) aT) (aD (aN (i:=5) nd rfl (ugv rfl) (aH O__law_lengths hr rfl (aA (pv 0) aB))) (aD (aN (i:=6) nd rfl (t6 rfl) (wY rfl true true rfl T.z_list rfl T.z_zip (aA (pv 2) (aA (bE bG (pv 2) (bF aC) bB) aB)))) (aD (aS (PW.pt (cQ (aO aV ‹58› aC (nomark _)) (cQ (aO fW (bC (aA (aG aR (pv 2) aC ‹34›) (aA (aG aR (pv 2) (cR cN aC) ‹34›) aB))) (pv 1) (nomark _)) (dC (aO cS (aP nK rfl T.z_len (by symm) (aA (bA (nJ rfl) rfl T.z_set (by symm) (aA (pv 2) aB)) aB)) ‹58› (nomark _)))))) (aE (aJ bK)) aT) (aD (aS (aO fW (bQ (N:=["web","pair","way","heights","more","lengths","steps"]) (sc0:=defScope s__law_way_right) (own:=["step"]) (fr:=["lengths"]) (js:=[5]) rfl (dY (pv 6)) (λ _ _ _ _=>(aK (i:=0) (by show uau [("step":Str),("lengths":Str)];decide +kernel) rfl (t6 rfl))) (λ _ _ _ _=>(fN (qN (yR hu (pv 0) (pv 1)) ‹95›))) (λ _ _ _ _=>(pv 0))) (bP aB) (nomark _)) (aE (aJ bK)) aT) (aE (aJ (aZ aV (pv 4) (aP (nH rfl) rfl T.z_sum (by symm) (aA (bQ (N:=["web","pair","way","heights","more","lengths","steps"]) (sc0:=defScope s__law_way_right) (own:=["step"]) (fr:=["lengths"]) (js:=[5]) rfl (dY (pv 6)) (λ _ _ _ _=>(aK (i:=0) (by show uau [("step":Str),("lengths":Str)];decide +kernel) rfl (t6 rfl))) ‹85› (λ _ _ _ _=>(aG cH (jX hu (pv 1) (pv 0) ‹34›) aC ‹34›))) aB)) (nomark _)))))))))))),?_⟩
 ext
 exact⟨A,p,A,.inr (SqT.of it.1),A,g0,V,SqT.of a9,M,A,?_⟩
 ext
 by_cases hn:hs.length=n.toNat
 case neg =>
  let ne:decide (V.int (((hs.map V.int).length:Nat):Int)=V.int n)=false:=uh1 λ e=>by
   let:(((hs.map V.int).length:Nat):Int)=n:=by injection e
   rw[c9] at this
   ext
   left
  rw[ne]
  ext
  exact iteT (hf H (Same.refl H) (by unfold holdB;rw[uh1 hn];rfl))
 exact iteNS (by rw[c9,hn];congr 1;left) ?_
 ext
 exact⟨A,g0,V,SqT.of a9,rfl,g,rfl,⟨_,SqT.of hg⟩,?_⟩
 ext
 exact nF hg (λ F=>∃ o1 o2 o3,F=[o1,o2,o3,some (.ref p)]) (λ k=>if decide ‹98›=true then none else some (V.int 1)) (by left) (by exact⟨none,none,none,rfl⟩) (λ k x F H' hx s2 sg C L hC hL=>?_) (λ L J1 hL S1 hH=>?_)
 ·obtain⟨o1,o2,o3,rfl⟩:=sg;let hk:k<ts.length:=by let:=(j9.mp hx).1;left
  obtain⟨ta,bg,a0⟩:=dA a1 hk;rw[bg] at hx;cases hx;let tk:=ok.tie _ (bN hk).2;let aU:=s2 _ _ it.1;exact⟨ta,A,SqT.of (s2 _ _ a0),Y,A,_,A,E,?_⟩
  ext
  exact⟨K,p,V,SqT.of aU,iJ (by left) (by left),K,p,V,SqT.of aU,iJ (by left) (by left),E,?_⟩
  ext
  exact⟨K,E,A,ite2 (λ c=>?_) (λ c=>?_)⟩
  ·exact hC _ _ _ ⟨P,A⟩ (Same.refl _) (by rw[uh1 (by unfold acrossI absI;let:=uh0 c;left)];rfl)
  ·exact hL _ _ ⟨P,A⟩ (Same.refl _) (by rw[uhz (by unfold acrossI absI;let:=of_decide_eq_false (uce.mpr c);left)];rfl)
 obtain⟨cs,a6⟩:∃ cs:List Int,cs=(d8 aW.length).filterMap λ k=>if decide ‹98›=true then none else some (1:Int):=⟨A⟩
 let bb:J1 L=some (.lst (cs.map V.int)):=by
  rw[hH,a6,udi]
  ext
  exact congrArg (λ f=>some (HO.lst (ufd f (d8 aW.length)))) (funext λ k=>?_)
  ext
  split <;> rfl
 let ak:cs=[]↔holdB n ts ‹39› hs=true:=by
  unfold holdB;rw[uhz hn,udr,a6,bh,uhm,v8]
  ext
  constructor
  ·intro h k hk;let:=h k hk;split at this
   ·assumption
   ·cases this
  ·intro h k hk;rw[uh2 (h k hk)]
 exact⟨(by show 0<=1000;decide),λ L1 J2 S2 f2 e2=>⟨.list (cs.map .int),.list [],⟨L,_,rfl,S2 _ _ bb,IsAll.ints _⟩,⟨L1,_,rfl,e2,rfl⟩,cL _,rfl,units (uaj (uer _ _) (by decide)),_,rfl,?_⟩⟩;rw[jR];let U:=S1.trans S2;by_cases c0:cs=[]
 case neg =>
  rw[uh1 (λ z=>c0 (ugg.mp z))]
  ext
  exact iteT (hf J2 U (uce.mpr λ z=>c0 (ak.mpr z)))
 rw[uhz (by rw[c0];rfl)];let aj:=ak.mp c0;let aL:=U _ _ it.1;let af:=U _ _ a8;exact iteF ⟨K,pa,V,SqT.of af,rfl,p,V,SqT.of aL,gF (by left),K,pa,V,SqT.of af,rfl,p,V,SqT.of aL,gF (by left),E,?_⟩
 ext
 rcases ho with ⟨rfl,rfl⟩ | ⟨t,ws,rfl,rfl,iT,bi⟩
 ·exact⟨C,A,iteT ?_⟩
  ext
  let z:=q J2 U;unfold pjB at z;rw[aj] at z
  ext
  exact⟨A,E,⟨by decide,by decide,by decide⟩,E,z⟩
 exact⟨C,A,iteF ?_⟩
 ext
 let ab:∀ J,Same H J->leadsI n ts ‹39› O.1 O.2 ws=false->Q (.bl false) J:=λ J S e=>qf J S (by unfold pjB;dsimp only;rw[e,udw,uho]);exact⟨A,n,ts,A,Is.same U _ au,ok,λ ld J3 S3 bm am=>?_⟩
 ext
 let a7:=U.trans S3;let ar:=(iT.same a7).1;let lm:(ws.map V.int).length=ws.length:=c9 _;exact⟨Z,t,A,ar,λ p2 J5 S5 e5=>?_⟩
 ext
 let ec:cutV (ws.map V.int) (some 1) none=(ws.drop 1).map V.int:=by rw[udq];exact eI _ 1
 rw[ec] at e5
 ext
 exact⟨t,p2,ws.map V.int,(ws.drop 1).map V.int,rfl,S5 _ _ ar,e5,by left,λ LP zs J6 S6 f6 e6 pl=>?_⟩
 ext
 let em:min (ws.map V.int).length ((ws.drop 1).map V.int).length=ws.length-1:=by rw[c9,c9,m9];left
 rw[em] at pl;let lz:=pl.1;let ap:=a7.trans (S5.trans S6);let aq:=(iT.same ap).1;exact⟨A,t,A,.inr (SqT.of aq),X,ite2 (λ c=>iteT (ab J6 ap ?_)) (λ c=>?_)⟩
 ·let h1:=uh0 c;injection h1 with h1;let:ws=[]:=uby (by left);rw[this];rfl
 let ne:ws≠[]:=λ z=>c (uhz (by rw[z];rfl));let lp:1<=ws.length:=ucc.mpr ne;exact⟨A,t,V,SqT.of aq,kW lp,K,t,V,SqT.of aq,kT lp,(by show 2<=1000;decide),λ te J7 S7 f7 e7=>?_⟩
 ext
 let ae:=ap.trans S7;let dl:∀ a b:Int,uf7 (tupH [a,b])=true:=λ a b=>cL [a,b];let dd:∀ a b:Int,(tupH [a,b]).depth<=4:=λ a b=>uaj (ufz (eY [a,b])) (by decide);let d1:Is K J7 (tupH [ws.getD 0 0,ws.getD ‹104› 0]) (.ref te):=⟨te,A,e7,IsAll.ints [ws.getD 0 0,ws.getD ‹104› 0]⟩;let d2:Is K J7 (tupH [(O.1:Int),(O.2:Int)]) (.ref pa):=⟨pa,A,ae _ _ a8,IsAll.ints [(O.1:Int),(O.2:Int)]⟩;exact⟨A,P,d1,d2,dl _ _,dl _ _,units (uaj (uf9 _ _) (dd _ _)),A,?_⟩;rw[show udz (tupH [ws.getD 0 0,ws.getD ‹104› 0]) (tupH [(O.1:Int),(O.2:Int)])=decide ([ws.getD 0 0,ws.getD ‹104› 0]=[(O.1:Int),(O.2:Int)]) from gY _ _]
 ext
 by_cases ce:[ws.getD 0 0,ws.getD ‹104› 0]=[(O.1:Int),(O.2:Int)]
 case neg =>
  rw[uh1 ce]
  ext
  exact iteT (iteT (ab J7 ae ?_))
  ext
  unfold leadsI;exact uce.mpr λ z=>ce ?_
  ext
  rw[m7,m7,decide_eq_true_eq,decide_eq_true_eq] at z;rw[z.2.1,z.2.2]
 rw[uhz ce]
 ext
 injection ce with ce1 ce2;injection ce2 with ce2 _;let aI:=(iT.same ae).1;exact iteF ⟨A,t,ws,rfl,aI,by left,λ u J8 S8 f8 e8=>⟨u,_,_,rfl,e8,_,rfl,t,_,rfl,.inr (SqT.of (S8 _ _ aI)),_,_,rfl,rfl,_,rfl,?_⟩⟩
 ext
 let be:HT.setN ws ws.length<=ws.length:=firstMet_length_le _ _;let ax:=ae.trans S8;by_cases aa:ws.Nodup
 case neg =>
  let lt:HT.setN ws ws.length<ws.length:=Nat.lt_of_le_of_ne be λ z=>aa ((gM ws).mp z);rw[uhz (show ((HT.setN ws ws.length:Nat):Int)<(((ws.map V.int).length:Nat):Int) by left)]
  ext
  exact iteT (ab J8 ax ?_)
  ext
  unfold leadsI rightI;rw[uh3 (λ z=>aa z.1.2)];rfl
 rw[uh1 (show ¬ ((HT.setN ws ws.length:Nat):Int)<(((ws.map V.int).length:Nat):Int) by rw[lm,(gM ws).mpr aa];left)]
 ext
 exact iteF ?_
 ext
 let eR:=zau ok ne aa (by rw[ce1];left);let ah:leadsI n ts ‹39› O.1 O.2 ws=(sumY ts ‹39› ws ‹104›).isSome:=by
  unfold leadsI;rw[eR,ce1,ce2,uhz rfl,uhz rfl,uef,uef]
 let an:=S7.trans S8;let am:LenD J8 ts ts.length ld:=am.same (S5.trans (S6.trans an));let az:∀ {J9:Hp}(j:Nat)(z:V),Same J8 J9->zs[j]?=some z->∃ (T:o7)(o:Option V),z=.ref T/\J9 T=some (.tup [.int (ws.getD j 0),.int (ws.getD (j+1) 0)])/\DGet J9 ld z o/\ValL J9 ts o (numI ts ts.length (ws.getD j 0) (ws.getD (j+1) 0)):=λ {J9} j z S9 e=>by
  obtain⟨T,x,y,rfl,hx,hy,hT⟩:=pl.2 j z e;rw[j0] at hx hy;obtain⟨a,ha,rfl⟩:=r6.mp hx;obtain⟨b,hb,rfl⟩:=r6.mp hy;rw[udj,ufb] at hb;let ga:ws.getD j 0=a:=by rw[c8,ha];rfl
  let gb:ws.getD (j+1) 0=b:=by rw[c8,hb];rfl
  let a5:=S9 _ _ (an _ _ hT);obtain⟨o,g1,g2⟩:=(am.same S9).get a5
  ext
  exact⟨T,o,rfl,by rw[ga,gb];exact a5,g1,by rw[ga,gb];exact g2⟩
 let aw:∀ j,stepY ts ‹39› ws j=(numI ts ts.length (ws.getD j 0) (ws.getD (j+1) 0)).map λ k=>(tieAt ts k).2.2:=λ j=>rfl;let ac:=an _ _ e6;exact⟨A,LP,rfl,⟨_,SqL.of ac⟩,?_⟩
 ext
 exact xJ (K':=K) ac (λ F=>∃ o,F=[o,some (.ref ld)]) (λ i=>if (stepY ts ‹39› ws i).isSome=true then none else some (tupH [ws.getD i 0,ws.getD (i+1) 0])) (λ i d h=>by split at h;cases h;cases h;rfl) (by left) ‹68› (λ i x F H' hx s2 sg C L hC hL=>?_) (λ LB bs J9 bk S9 hB lB a4=>?_)
 ·obtain⟨o,rfl⟩:=sg;obtain⟨T,a2,rfl,hT,gt,vl⟩:=az i x s2 hx;rw[aw] at hC hL
  ext
  exact⟨K,ld,A,gt,A,?_⟩;cases e:numI ts ts.length (ws.getD i 0) (ws.getD (i+1) 0) with
  | some k =>
   rw[e] at vl hL;obtain⟨tt,rfl,_⟩:=vl
   ext
   exact iteF (hL _ _ ⟨A⟩ (Same.refl _) rfl)
  | none =>
   rw[e] at vl hC;let vl:a2=none:=vl;rw[vl]
   ext
   exact iteT ⟨A,hC _ _ (tupH [ws.getD i 0,ws.getD (i+1) 0]) _ ⟨A⟩ (Same.refl _) rfl ⟨T,A,hT,IsAll.ints [ws.getD i 0,ws.getD (i+1) 0]⟩⟩
 generalize av:((d8 zs.length).filterMap λ i=>if (stepY ts ‹39› ws i).isSome=true then none else some (tupH [ws.getD i 0,ws.getD (i+1) 0]))=ds at a4;let a3:∀ ds:List ubo,(∀ d∈ds,∃ a b:Int,d=tupH [a,b])->udl ds=true:=λ ds=>by
  induction ds with
  | nil=>exact λ _=>rfl
  | cons d ds ih =>
   intro h;obtain⟨a,b,rfl⟩:=h d l9
   ext
   show (uf7 (tupH [a,b])&&udl ds)=true;rw[ih λ d hd=>h d (j8 _ hd),uef];exact cL [a,b]
 let bd:=a3 ds λ d hd=>by
  rw[← av] at hd;obtain⟨i,_,e⟩:=ueb.mp hd
  ext
  split at e
  ·cases e
  ·cases e;exact⟨_,A⟩
 exact⟨(by show 0<=1000;decide),λ L2 JA SA fA eA=>⟨.list ds,.list [],⟨LB,_,rfl,SA _ _ hB,IsAll.same SA _ a4⟩,⟨L2,_,rfl,eA,rfl⟩,bd,rfl,units (uaj (uer _ _) (by decide)),_,rfl,?_⟩⟩;rw[jR];let ba:ds=[]↔(sumY ts ‹39› ws ‹104›).isSome=true:=by
  rw[eX,← av,lz,uhm,v8]
  ext
  constructor
  ·intro h i hi;let:=h i hi;split at this
   ·assumption
   ·cases this
  ·intro h i hi;rw[uh2 (h i hi)]
 let ad:=S9.trans SA;let ay:=ax.trans ad;by_cases d0:ds=[]
 case neg =>
  rw[uh1 d0]
  ext
  exact iteT (ab JA ay ?_);rw[ah]
  ext
  exact uce.mpr λ z=>d0 (ba.mpr z)
 rw[uhz d0]
 ext
 exact iteF ?_
 ext
 let ao:=ba.mp d0;obtain⟨x,ex⟩:=ub0.mp ao;let ai:=ao;rw[eX,v8] at ai
 ext
 exact⟨K,LP,rfl,⟨_,SqL.of (ad _ _ ac)⟩,?_⟩
 ext
 exact fL (ad _ _ ac) (λ F=>∃ o,F=[o,some (.ref ld)]) (λ i v _=>v=.int ((stepY ts ‹39› ws i).getD 0)) (by left) ‹68› ‹73› (λ i v F H' hx s2 sg C hC=>?_) (λ LS vs JB bn SB hS bj bf=>?_)
 ·obtain⟨o,rfl⟩:=sg;obtain⟨T,a2,rfl,hT,gt,vl⟩:=az i v (ad.trans s2) hx;let hi:=(j9.mp hx).1;let al:=ai i (m8.mpr (by left));rw[aw] at hC al;cases e:numI ts ts.length (ws.getD i 0) (ws.getD (i+1) 0) with
  | none=>rw[e] at al;cases al
  | some k =>
   rw[e] at vl hC;obtain⟨tt,rfl,ht⟩:=vl
   ext
   exact⟨K,ld,A,gt,tt,V,SqT.of ht,rfl,hC _ _ _ ⟨A⟩ (Same.refl _) rfl⟩
 exact⟨LS,(d8 ‹104›).map (λ j=>(stepY ts ‹39› ws j).getD 0),rfl,?_,?_⟩
 ·rw[hS]
  ext
  exact congrArg (λ z=>some (HO.lst z)) (ucd λ j=>?_);rw[j0,j0]
  ext
  by_cases hj:j<ws.length-1
  ·let e:vs[j]?=some vs[j]:=d7 (by left);rw[e,bf j _ e,udb hj];rfl
  ·rw[uag (by left),uag (by rw[uaa];left)];rfl
 ·rw[oC _ x ex]
  ext
  exact⟨rfl,?_⟩;rw[bU];let z:=q JB (ay.trans SB);unfold pjB at z;rw[aj] at z
  ext
  dsimp only at z;rw[ah,ao,eR,ex] at z
  ext
  exact z
def allW (n:Int)(ts:List Tie)(prs:List (Nat × Nat))(os:List ‹55›)(hss:List (List Int)):Bool :=
 (d8 prs.length).all λ i=>pjB n ts ‹39› (prs.getD i (0,0)) (hss.getD i []) (os.getD i none)
def lawJ (n:Int)(ts:List Tie)(prs:List (Nat × Nat))(kz:List Int)(os:List ‹55›)(hss:List (List Int)):Bool :=
 decide (os.length=prs.length)&&(decide (hss.length=prs.length)&&(allW n ts prs os hss&&decide (keepI (twK ts (os.map natO))=kz)))
theorem pX {us:List Nat}:natO (some (keepI us))=some us:=by
 show some ((keepI us).map ubk)=some us;unfold keepI;rw[ua0];exact congrArg some ((ua2 λ x _=>uav x).trans (uda us))
theorem zbx {n:Int}{ts:List Tie}(ok:WebOk n ts){prs:List (Nat × Nat)}{os:List ‹55›}{hss:List (List Int)}(h:allW n ts prs os hss=true)(lo:os.length=prs.length){i:Nat}{ws:List Int}(e:os[i]?=some (some ws)):∃ us:List Nat,ws=keepI us/\us.length<=24/\linked ts us:=by
 let hi:=(j9.mp e).1;let z:=v8.mp h i (m8.mpr (by left));rw[show os.getD i none=some ws by rw[c8,e];rfl] at z;unfold pjB at z;rw[m7,m7] at z;let q:=z.2.1;unfold leadsI at q;rw[m7] at q;obtain⟨x,ex⟩:=ub0.mp q.1;obtain⟨us,U,F,O,_⟩:=iZ ok (bX ts) ex;exact⟨us,U,F,O⟩
inductive spTR49_i (K:b8)(vs:List V)(H:Hp)(Q:VK):Prop
 | mk:∀ (n:Int)(ts:List Tie)(wv:V)(p:o7)(ps:List V)(prs:List (Nat × Nat))(kz:List Int)(os:List ‹55›)(hss:List (List Int))(t ta tb tc:o7)(ys zs:List V),(vs=[wv,.ref p,.ref t])->‹45›->(WebOk n ts)->(H p=some (.tup ps))->(IsAll K H (prs.map prD) ps)->(PrsOk n prs)->(PpV H kz os hss t ta tb tc ys zs)->(∀ H',Same H H'->Q (.bl (lawJ n ts prs kz os hss)) H')->spTR49_i K vs H Q
def spTR49 (K:b8):Sp:=λ vs H Q _=>spTR49_i K vs H Q
theorem rY (T:Bi mg)(D:DefOk K mg "_law_told_right" s__law_told_right ["web","pairs","told"])(O__law_way_right:‹2› "_law_way_right" ["web","pair","way","heights"] (spWR49 K))(O__law_lengths:‹2› "_law_lengths" ["web"] (spLen49 K)):‹3› "_law_told_right" ["web","pairs","told"] (spTR49 K):=by
 exists 2,sc__law_told_right;obtain⟨n,ts,wv,p,ps,prs,kz,O,ad,t,ta,tb,tc,ys,zs,rfl,am,ok,hp,aq,aw,jv,q⟩:=h;let hu:(A.deeper (envOfC "_law_told_right" (defScope s__law_told_right) ‹128› f cdv)).units+1<cLine:=by let:=hr.units;left
 let units:∀ {x:Nat},x<=4->(A.deeper (envOfC "_law_told_right" (defScope s__law_told_right) ‹128› f cdv)).units+x<cLine:=λ {x} hu=>by let:=hr.units;left
 let a2:=ok.few;let ba:ps.length=prs.length:=by rw[aq.length,c9]
 let bo:=aw.1;let qf:∀ J,Same H J->lawJ n ts prs kz O ad=false->Q (.bl false) J:=λ J S e=>by let z:=q J S;rw[e] at z;exact z
 exact⟨_,(aD (cB (pv 2) (cI (n:=3) rfl (aQ ‹96› (aQ (aK (i:=4) nd rfl (ugv rfl)) (aQ (aK (i:=5) nd rfl (ugv rfl)) bL))))) (aD (aS (PW.pt (cQ (aO eF (aP bD rfl T.z_len (by symm) (aA (pv 4) aB)) ‹59› (nomark _)) (dC (aO eF (aP bD rfl T.z_len (by symm) (aA (pv 5) aB)) ‹59› (nomark _))))) (aE (aJ bK)) aT) (aD (aS (cO (cA (aP (dF rfl) rfl T.z_all (by symm) (aA (bQ (N:=["web","pairs","told","keep","ways","heights","lengths","found","way","step"]) (sc0:=defScope s__law_told_right) (own:=["k","pair"]) (fr:=["web","ways","heights"]) (js:=[0,4,5]) rfl (jW true rfl T.z_enumerate (aA (pv 1) aB)) (λ _ _ _ _=>(dJ (n:=2) rfl (aQ (aK (i:=0) (by show uau [("k":Str),("pair":Str),("web":Str),("ways":Str),("heights":Str)];decide +kernel) rfl (t6 rfl)) (aQ (aK (i:=1) (by show uau [("k":Str),("pair":Str),("web":Str),("ways":Str),("heights":Str)];decide +kernel) rfl (t6 rfl)) bL)))) ‹85› (λ _ _ _ _=>(aH O__law_way_right hr rfl (aA (pv 2) (aA (pv 1) (aA (aG cH (pv 3) (pv 0) ‹34›) (aA (aG cH (pv 4) (pv 0) ‹34›) aB))))))) aB)))) (aE (aJ bK)) aT) (aD (aN (i:=6) nd rfl (t6 rfl) (aH O__law_lengths hr rfl (aA (pv 0) aB))) (aD (aN (i:=7) nd rfl (t6 rfl) zaz) (aD (bW PassesOwn.never rfl (cC (pv 4)) (aK (i:=8) nd rfl (t6 rfl)) (aE (aS (aO jY (pv 8) bR (nomark _)) (aE (bW PassesOwn.never rfl (pR true true rfl T.z_zip (aA (pv 8) (aA (bE bG (pv 8) (bF aC) bB) aB))) (aK (i:=9) nd rfl (t6 rfl)) (aE (jV hu (pv 7) (aG aR (jX hu (pv 6) (pv 9) ‹34›) aC ‹34›) bK rfl)))) aT))) (aE (aJ (aZ kI (pv 3) (bA cK rfl T.z_tuple (by symm) (aA (aP (vI rfl) rfl T.z_sorted (by symm) (aA (pv 7) aB)) aB)) (nomark _)))))))))),?_⟩
 ext
 exact⟨A,t,A,SqT.of jv.e,Y,A,_,A,E,?_⟩
 ext
 exact⟨A,tb,A,.inr (SqT.of jv.eb),A,p,A,.inr (SqT.of hp),X,?_⟩
 ext
 let ai:∀ a b:Nat,decide (V.int (a:Int)=V.int (b:Int))=decide (a=b):=λ a b=>by
  rw[bU];exact decide_eq_decide.mpr (by left)
 by_cases co:O.length=prs.length
 case neg =>
  rw[ai,uh1 (show ¬ ys.length=ps.length by rw[jv.ly];left)]
  ext
  exact iteT (iteT (qf H (Same.refl H) (by unfold lawJ;rw[uh1 co];rfl)))
 rw[ai,uhz (show ys.length=ps.length by rw[jv.ly];left)]
 ext
 exact iteF ⟨A,tc,A,.inr (SqT.of jv.ec),A,p,A,.inr (SqT.of hp),X,?_⟩
 ext
 by_cases ch:ad.length=prs.length
 case neg =>
  rw[ai,uh1 (show ¬ zs.length=ps.length by rw[jv.lz];left)]
  ext
  exact iteT (qf H (Same.refl H) (by unfold lawJ;rw[uhz co,uh1 ch];rfl))
 rw[ai,uhz (show zs.length=ps.length by rw[jv.lz];left)]
 ext
 exact iteF ⟨A,p,rfl,⟨_,SqX.of (t:=true) hp⟩,?_⟩
 ext
 exact xK hp (λ az=>∃ o1 o2,az=[o1,o2,some wv,some (.ref tb),some (.ref tc)]) (λ i v _=>v=.bl (pjB n ts ‹39› (prs.getD i (0,0)) (ad.getD i []) (O.getD i none))) (by left) (by exact⟨none,none,rfl⟩) ‹73› (λ i x U az H' hx s2 hU sg C hC=>?_) (λ L bs J2 hL S2 hH a5 a7=>?_)
 ·obtain⟨o1,o2,rfl⟩:=sg;obtain⟨pr,ap,ax,rfl,bd⟩:=gB (IsAll.same s2 _ aq) hx;let SU:=aU (H:=H') (o:=.tup [.int (i:Nat),.ref ap]) hU;let ae:=s2.trans SU;let hi:=(j9.mp hx).1;let ei:prs.getD i (0,0)=pr:=by rw[c8,ax];rfl
  let eo:O[i]?=some (O.getD i none):=by rw[c8,d7 (by left)];rfl
  let eh:ad[i]?=some (ad.getD i []):=by rw[c8,d7 (by left)];rfl
  let a6:i<ys.length:=by rw[jv.ly];left
  let a1:i<zs.length:=by rw[jv.lz];left
  let ey:ys[i]?=some ys[i]:=d7 a6;let ez:zs[i]?=some zs[i]:=d7 a1;let oy:=(jv.oy i _ _ eo ey).same ae;obtain⟨pz,be,iz⟩:=jv.hz i _ _ eh ez;let:=aw.2 pr (ual ax);rw[be] at ez
  ext
  exact⟨U,A,SqT.of aM,Y,A,E,?_⟩
  ext
  exact⟨K,K,tb,V,SqT.of (ae _ _ jv.eb),bT (ua3 _) ey,K,tc,V,SqT.of (ae _ _ jv.ec),bT (ua3 _) ez,n,ts,wv,ap,pr,O.getD i none,_,pz,ad.getD i [],rfl,Is.same ae _ am,ok,SU _ _ bd,this.1,this.2,oy,iz.same ae,λ J4 S4=>hC _ _ _ ⟨_,_,rfl⟩ (SU.trans S4) ?_⟩;rw[ei]
 exact⟨L,A,SqL.of (by rw[hH,dI a5 a7]),A,?_⟩;rw[ba,show ((d8 prs.length).map λ i=>pjB n ts ‹39› (prs.getD i (0,0)) (ad.getD i []) (O.getD i none)).all id=allW n ts prs O ad from by rw[uck];rfl];cases ej:allW n ts prs O ad with
 | false=>exact iteT (qf J2 S2 (by unfold lawJ;rw[uhz co,uhz ch,ej];rfl))
 | true =>
 exact iteF ?_
 ext
 let bi:=jv.same S2;exact⟨A,n,ts,wv,rfl,Is.same S2 _ am,ok,λ ld J3 S3 bp ao=>?_⟩
 ext
 let av:=S2.trans S3;exact λ lg af=>?_
 ext
 let fg:H lg=none:=av.free af;let S4:=aU (H:=J3) (o:=.dK []) af;obtain⟨J4,an⟩:∃ J4,J4=upd J3 lg (.dK []):=⟨A⟩;let a4:J4 lg=some (.dK []):=by rw[an];exact aM
 rw[← an] at S4 ⊢;have ah:=av.trans S4;have au:=λ i ws (e:O[i]?=some (some ws))=>zbx ok ej co (i:=i) (ws:=ws) e;have ac:∀ k∈(O.map natO).flatMap (awN ts),k<ts.length:=λ k hk=>by
  obtain⟨o,ho,hk⟩:=ub7.mp hk;obtain⟨o',bf,rfl⟩:=w8.mp ho;obtain⟨i,hi⟩:=uci.mp bf;cases o' with
  | none=>cases hk
  | some ws =>
   obtain⟨us,rfl,_,lk⟩:=au i ws hi;rw[pX] at hk
   ext
   exact hV lk k hk
 exact⟨A,tb,rfl,⟨_,SqT.of (ah _ _ jv.eb)⟩,?_⟩
 ext
 exact fQ (xs:=ys) (λ i σ J=>∃ (kvs:List (Key × V))(ks:List Nat)(y8 y9:Option V),σ=[some wv,some (.ref p),some (.ref t),some (.ref ta),some (.ref tb),some (.ref tc),some (.ref ld),some (.ref lg),y8,y9]/\But lg J4 J/\J lg=some (.dK kvs)/\kvs.map (·.1)=(keepI ks).map Sum.inl/\ks.Nodup/\∀ k,k∈ks↔k∈((O.map natO).take i).flatMap (awN ts)) ⟨[],[],none,none,rfl,But.refl,a4,rfl,ufc,λ k=>by simp⟩ (λ i σ J _ h=>?_) (λ i x σ J hx h=>?_) (λ σ J h=>?_)
 ·try (with_reducible exact lG ?_;intro _ _)
  obtain⟨kvs,ks,y8,y9,rfl,bt,_⟩:=h
  ext
  exact SqT.of (bt _ _ (aW jv.eb fg) (ah _ _ jv.eb))
 ·try (with_reducible exact lG ?_;intro _ _)
  obtain⟨kvs,ks,y8,y9,rfl,bt,hd,ab,aa,F⟩:=h;let sm:Same H J:=λ b o e=>bt _ _ (aW e fg) (ah _ _ e);let hi:=(j9.mp hx).1;let ho:O[i]?=some (O[i]'(by let:=jv.ly;left)):=d7 _;let oy:=(jv.oy i _ x ho hx).same sm;let tn:(O.map natO).take (i+1)=(O.map natO).take i++[natO (O[i]'(by let:=jv.ly;left))]:=by rw[udo,j0,ho];rfl
  let ak:∀ k∈awN ts (natO (O[i]'(by let:=jv.ly;left))),k∈(O.map natO).flatMap (awN ts):=λ k hk=>ub7.mpr ⟨_,w8.mpr ⟨_,ual ho,rfl⟩,hk⟩;generalize O[i]'(by let:=jv.ly;left)=o at ho oy tn ak;rcases oy with ⟨rfl,rfl⟩ | ⟨tw,ws,rfl,rfl,iT,bj⟩
  ·exact⟨C,A,iteF ⟨kvs,ks,_,A,bt,hd,ab,aa,λ k=>?_⟩⟩;rw[F k,tn,ue4,uat]
   ext
   exact⟨.inl,λ z=>z.elim id λ z=>by cases z⟩
  obtain⟨us,rfl,bh,lk⟩:=au i ws ho;rw[pX] at tn ak;have ht:=iT.1;rw[← cG] at ht
  ext
  exact⟨C,A,iteT ?_⟩
  ext
  exact⟨Z,tw,A,ht,λ t2 J5 S5 e5=>?_⟩
  ext
  rw[zbm] at e5
  ext
  exact⟨tw,t2,rfl,⟨_,SqX.of (t:=true) (S5 _ _ ht)⟩,⟨_,SqX.of (t:=true) e5⟩,?_⟩
  ext
  let aj:=S5 _ _ hd;let bg:tw≠lg:=λ z=>by rw[z,hd] at ht;cases ht
  let ar:t2≠lg:=λ z=>by rw[z,aj] at e5;cases e5
  exact zbc (t1:=true) (t2:=true) (xs:=natV us) (zs:=natV (us.drop 1)) (λ j σ J'=>∃ (kvs:List (Key × V))(ks:List Nat)(y9:Option V),σ=[some wv,some (.ref p),some (.ref t),some (.ref ta),some (.ref tb),some (.ref tc),some (.ref ld),some (.ref lg),some (.ref tw),y9]/\But lg J5 J'/\J' lg=some (.dK kvs)/\kvs.map (·.1)=(keepI ks).map Sum.inl/\ks.Nodup/\∀ k,k∈ks↔k∈((O.map natO).take i).flatMap (awN ts)\/k∈(alongN ts us).take j) ⟨kvs,ks,_,rfl,But.refl,aj,ab,aa,λ k=>by rw[F k,List.take_zero];simp⟩ (λ j σ J' h=>?_) (λ j x z U σ J' hx hz hU h=>?_) (λ σ J' h=>?_)
  ·try (with_reducible exact lG ?_;intro _ _)
   obtain⟨kvs,ks,y9,rfl,b3,_⟩:=h
   ext
   exact⟨SqX.of (t:=true) (b3 _ _ bg (S5 _ _ ht)),SqX.of (t:=true) (b3 _ _ ar e5)⟩
  ·clear hd ab aa F aj;obtain⟨kvs,ks,y9,rfl,b3,hd,ab,aa,F⟩:=h;obtain⟨u,aL,rfl⟩:=fY hx;obtain⟨v,al,rfl⟩:=fY hz;rw[udj,ufb] at al;obtain⟨k0,ek,bn⟩:=gT lk aL al;let SU:=aU (H:=J') (o:=.tup [V.int (u:Int),.int (v:Int)]) hU;let bc:ld≠lg:=λ z=>by obtain⟨kv,e,_⟩:=ao;rw[z,af] at e;cases e
   let a0:LenD (upd J' U (.tup [V.int (u:Int),.int (v:Int)])) ts ts.length ld:=by
    obtain⟨kv,e,l,vv⟩:=ao;let aF:∀ {a:o7}{o:HO},a≠lg->J3 a=some o->upd J' U (.tup [V.int (u:Int),.int (v:Int)]) a=some o:=λ {a o} z e=>SU _ _ (b3 _ _ z (S5 _ _ (bt _ _ z (S4 _ _ e))));exact⟨kv,aF bc e,l,λ a b=>(vv a b).keep λ a xs e=>aF (λ z=>by rw[z,af] at e;cases e) e⟩
   obtain⟨o2,gt,vl⟩:=a0.get (T:=U) (a:=(u:Int)) (b:=(v:Int)) aM;rw[show numI ts ts.length (u:Int) (v:Int)=some k0 from ek] at vl;obtain⟨tt,rfl,a9⟩:=vl
   ext
   exact⟨Z,ld,A,gt,tt,V,SqT.of a9,rfl,?_⟩
   ext
   let ay:=SU _ _ hd;let bm:kvs.length=ks.length:=by
    let:=congrArg List.length ab;unfold keepI at this
    rwa [c9,c9,c9] at this
   let aI:ks.length<=60:=by
    let:=gX (b:=d8 ts.length) aa λ k hk=>by
     rw[m8]
     ext
     rcases (F k).mp hk with z | z
     ·obtain⟨o,ho,z⟩:=ub7.mp z
      ext
      exact ac k (ub7.mpr ⟨o,ues ho,z⟩)
     ·exact ac k (ak k (show k∈alongN ts us from ues z))
    rw[uaa] at this
    ext
    left
   let tk:(alongN ts us).take (j+1)=(alongN ts us).take j++[k0]:=by rw[udo,zbu aL al ek];rfl
   let bb:=b3.trans (Same.but SU);let inj:∀ a b:Nat,(Sum.inl (a:Int):Key)=Sum.inl (b:Int)↔a=b:=λ a b=>⟨λ e=>by injection e with e;left,λ e=>by rw[e]⟩;let mk:(Sum.inl (k0:Int):Key)∈kvs.map (·.1)↔k0∈ks:=by
    rw[ab]
    ext
    unfold keepI;rw[ua0,w8]
    ext
    exact⟨λ ⟨a,ha,e⟩=>(inj a k0).mp e ▸ ha,λ h=>⟨k0,h,rfl⟩⟩
   let pk:=yM kvs (Sum.inl (k0:Int)) (V.bl true);by_cases c:k0∈ks
   ·rw[uh2 (mk.mpr c)] at pk
    ext
    exact⟨lg,A,DPut.k (k:=Sum.inl (k0:Int)) ay (ubv (show kvs.length<=1000 by left) (by decide)),_,ks,A,bb.trans But.upd,aM,by rw[pk,ab],aa,λ k=>?_⟩;rw[F k,tk,uat,u5]
    ext
    constructor
    ·rintro (z | z)
     ·exact .inl z
     ·exact .inr (.inl z)
    ·rintro (z | z | z)
     ·exact .inl z
     ·exact .inr z
     ·rw[z];exact (F k0).mp c
   ·rw[uh3 (λ z=>c (mk.mp z))] at pk
    ext
    exact⟨lg,A,DPut.k (k:=Sum.inl (k0:Int)) ay (ubv (show kvs.length<=1000 by left) (by decide)),_,ks++[k0],A,bb.trans But.upd,aM,?_,?_,λ k=>?_⟩
    ·rw[pk,ab];unfold keepI;rw[uaq,uaq];rfl
    ·exact udp.mpr ⟨aa,by simp,λ a ha b hb e=>?_⟩
     ext
     rw[u5.mp hb] at e
     ext
     exact c (e ▸ ha)
    ·rw[uat,F k,tk,uat,or_assoc]
  ·try (with_reducible exact lG ?_;intro _ _)
   obtain⟨kvs,ks,y9,rfl,b3,hd,ab,aa,F⟩:=h
   ext
   exact⟨kvs,ks,_,A,bt.trans ((Same.but S5).trans b3),hd,ab,aa,λ k=>?_⟩;rw[F k,tn,ue4,uat];let lm:min (natV us).length (natV (us.drop 1)).length=(alongN ts us).length:=by rw[gJ,gJ,m9,zae];left
   rw[lm,ud1]
   ext
   show _↔_\/k∈alongN ts us++[];rw[uc5]
 obtain⟨kvs,ks,y8,y9,rfl,bt,hd,ab,aa,F⟩:=h;rw[show ys.length=(O.map natO).length by rw[c9];exact jv.ly,ud1] at F;let sm:Same H J:=λ b o e=>bt _ _ (aW e fg) (ah _ _ e);let aI:ks.length<=60:=by
  let:=gX (b:=d8 ts.length) aa λ k hk=>m8.mpr (ac k ((F k).mp hk));rw[uaa] at this
  ext
  left
 exact⟨K,lg,kvs,keepI ks,rfl,hd,ab,by unfold keepI;rw[c9];left,λ ms pm pw l3 bk a8 f3 e3=>⟨l3,_,rfl,e3,λ tq J6 S6 f6 e6=>?_⟩⟩
 ext
 rw[vW pm aa pw (dB ts (O.map natO)).1 λ k=>by rw[F k,jU ac]] at e6;let S0:=sm.trans (a8.trans S6);let dq:Is K J6 (tupI (keepI (twK ts (O.map natO)))) (.ref tq):=⟨tq,A,e6,by rw[cG];exact IsAll.ints _⟩;let dk:Is K J6 (tupI kz) (.ref ta):=⟨ta,A,S0 _ _ jv.ea,IsAll.ints _⟩;let a3:∀ z:List Int,(tupI z).depth<=2:=λ z=>by
  let h3:=eY z;show uex _+1<=2;left
 exact⟨P,dk,dq,cL _,cL _,units (uaj (uf9 _ _) (uaj (a3 _) (by decide))),?_⟩
 ext
 let z:=q J6 S0;unfold lawJ at z;rw[uhz co,uhz ch,ej] at z;rw[show udz (tupI kz) (tupI (keepI (twK ts (O.map natO))))=decide (kz=keepI (twK ts (O.map natO))) from gY _ _,show decide (kz=keepI (twK ts (O.map natO)))=decide (keepI (twK ts (O.map natO))=kz) from decide_eq_decide.mpr eq_comm]
 ext
 exact z
theorem lU {ts:List Tie}{ks ls:List Nat}{ws:List Int}:∀ m,(∀ j,j<m->stepY ts ks ws j=stepY ts ls ws j)->sumY ts ks ws m=sumY ts ls ws m
 | 0,_=>rfl
 | m+1,h=>by rw[sumY,sumY,lU m λ j q=>h j (by left),h m (by left)]
theorem zD {n:Int}{ts:List Tie}(ok:WebOk n ts){ks:List Nat}(hk:∀ k∈ks,k<ts.length){a b:Int}(h:∀ k,numI ts ts.length a b=some k->k∈ks):lenI ts ks a b=lenI ts ‹39› a b:=by
 rw[za3];unfold lenI;cases e:numI ts ts.length a b with
 | none =>
  let:ks.find? (isE ts a b)=none:=ubu.mpr λ k F z=>by
   unfold numI at e;exact ubu.mp e k (m8.mpr (hk k F)) z
  rw[this]
 | some k =>
  let q:=h k e;unfold numI at e;let c:=ucj e;cases e2:ks.find? (isE ts a b) with
  | none=>exact absurd c (ubu.mp e2 k q)
  | some j =>
   let:=iB ok (hk j (ua6 e2)) (hk k q) (ucj e2) c;rw[this]
theorem wW {n:Int}{ts:List Tie}(ok:WebOk n ts){os:List ‹55›}{ws:List Int}(hw:some ws∈os):rightI n ts (twK ts (os.map natO)) ws=rightI n ts ‹39› ws:=by
 unfold rightI;by_cases c:(ws≠[]/\ws.Nodup)/\ws.all ‹51›=true
 case neg=>rw[uh3 c,uh3 c]
 rw[uh2 c,uh2 c];let O:∀ x∈ws,0<=x:=λ x z=>by
  let:=v8.mp c.2 x z;rw[m7,decide_eq_true_eq,decide_eq_true_eq] at this;exact this.1
 exact lU _ λ j F=>?_;unfold stepY;exact zD ok (λ k U=>(dB _ _).2 k U) λ k e=>?_;unfold numI at e;let q:=ua6 e;unfold twK;exact uct.mpr ⟨q,?_⟩;rw[uf6];exact ub7.mpr ⟨natO (some ws),w8.mpr ⟨_,hw,rfl⟩,?_⟩;show k∈alongN ts (ws.map ubk);unfold alongN;exact w8.mpr ⟨j,m8.mpr (by rw[c9];exact F),?_⟩;let g:∀ i,i<ws.length->(((ws.map ubk).getD i 0:Nat):Int)=ws.getD i 0:=λ i hi=>by
  rw[c8,c8,j0,d7 hi];show ((ws[i].toNat:Nat):Int)=ws[i];let:=O ws[i] (udd hi);left
 let e2:tbN ts ((ws.map ubk).getD j 0) ((ws.map ubk).getD (j+1) 0)=some k:=by
  unfold tbN;rw[← e];refine congrArg (λ p=>List.find? p ‹39›) (funext λ k=>?_);unfold isTB isE;rw[g j (by left),g (j+1) (by left)]
 rw[e2];rfl
theorem zc0 {n:Int}{ts:List Tie}(ok:WebOk n ts)(prs:List (Nat × Nat))(kz:List Int)(os:List ‹55›)(hss:List (List Int)):prsJ n ts prs kz os hss=lawJ n ts prs kz os hss:=by
 unfold prsJ lawJ;by_cases D:keepI (twK ts (os.map natO))=kz
 case neg=>simp [uh1 D]
 have F:keepB ts.length (tupI kz)=true:=by rw[← D];exact lP (dB _ _)
 have z:kz.map ubk=twK ts (os.map natO):=by rw[← D,jE]
 rw[F,udr];by_cases O:os.length=prs.length
 case neg=>rw[uh1 O,udw,udw]
 let ea:allJ n ts kz prs os hss=allW n ts prs os hss:=by
  unfold allJ allW;rw[z,udm,v8,v8];exact forall_congr' λ i=>forall_congr' λ hi=>?_;let hi:=m8.mp hi;let U:os[i]?=some (os.getD i none):=by rw[c8,d7 (by left)];rfl
  let q:=ual U;generalize os.getD i none=o at q;cases o with
  | none=>exact Iff.rfl
  | some ws =>
   let e:=wW ok q;unfold pjB leadsI;dsimp only;rw[e]
 rw[ea]
inductive spOW49_i (K:b8)(vs:List V)(H:Hp)(Q:VK):Prop
 | mk:∀ (p:o7)(n:Int)(ts:List Tie)(wv:V)(pa:o7)(a b:Int)(o:Option (List Int))(x:V),(vs=[.ref p,wv,.ref pa,x])->(Pot H p)->‹45›->(WebOk n ts)->(H pa=some (.tup [.int a,.int b]))->(OpI H o x)->((∀ ws,o=some ws->1<=ws.length/\ws.length<=24))->(∀ v o' H',But p H H'->Pot H' p->OpI H' o' v->Q v H')->spOW49_i K vs H Q
def spOW49 (K:b8):Sp:=λ vs H Q _=>spOW49_i K vs H Q
theorem wH (is:List Int):(is.map V.int).all flatV=true:=by
 rw[uck];exact v8.mpr λ _ _=>rfl
theorem dL {H:Hp}{t:o7}{ws:List Int}(e:H t=some (.tup (ws.map V.int)))(l:ws.length<=40):OpI H (some ws) (.ref t):=.inr ⟨t,ws,M,⟨e,by left⟩,l⟩
theorem sF (T:Bi mg)(D:DefOk K mg "_law_other_way" s__law_other_way ["pot","web","pair","way"])(O__law_take:‹1› "_law_take" ["pot","many"] spTake):‹2› "_law_other_way" ["pot","web","pair","way"] (spOW49 K):=by
 exists 1,sc__law_other_way;obtain⟨p,n,ts,wv,pa,a,b,o,x,rfl,hp,bm,ok,bS,ho,bk,q⟩:=h;let units:∀ {x:Nat},x<=4->(A.deeper (envOfC "_law_other_way" (defScope s__law_other_way) ‹128› f cdv)).units+x<cLine:=λ {x} hu=>by let:=hr.units;left
 let bp:=ok.few;let n1:=ok.n1;let cb:=ok.n24;let ai:∀ {J J':Hp},But p J J'->Pot J p->TupKeep J J':=λ b pp=>by
  obtain⟨xs,e⟩:=pp.lst;exact λ a ys h=>b _ _ (λ z=>by rw[z,e] at h;cases h) h
 let aj:∀ {J:Hp}{b:o7},Pot J p->J b=none->b≠p:=λ pp hb z=>by
  obtain⟨xs,e⟩:=pp.lst;rw[z,e] at hb;cases hb
 let O:∀ l:List Int,(l.map V.int).length=l.length:=λ l=>c9 ..;let sz:∀ {k:Nat},k<=1000->k<=p8:=λ {k} h=>uaj h (by decide);obtain⟨g0,g,a3,rfl,bh,hg,a6,ca⟩:=bY bm;exact⟨_,(aD (aN (i:=4) nd rfl (t6 rfl) ‹31›) (aD (aS (aO dN (pv 3) bR (nomark _)) (aE (aJ (aG aY (bP (aA (pv 2) (aA (bC (aA (aG aR (pv 2) aC ‹34›) aB)) (aA (bC aB) aB)))) (aF cP (pv 4) aC) ‹34›))) aT) (aD (aN (i:=5) nd rfl (t6 rfl) (aH O__law_take hr rfl (aA (pv 0) (aA (aP bD rfl T.z_len (by symm) (aA (pv 3) aB)) aB)))) (aD (aS ‹92› (aE (aJ bR)) aT) (aD (aS ‹92› (aE (aJ (yQ zdp (pv 3) bB (cR cN aC)))) aT) (aD (aS ‹92› (aE (aJ (aF bZ (bE bG (pv 3) bB (bF (pv 5))) (bE bG (pv 3) (bF (aF bI (pv 5) aC)) bB)))) aT) (aD (aS ‹92› (aE (aJ (aF bZ (aF bZ (bE bG (pv 3) bB (bF (pv 5))) (bC (aA (aG aY (bP (aA (cR cN aC) (aA (aG aR (pv 1) aC ‹34›) (aA (aG aR (pv 3) aC ‹34›) aB)))) ‹31› ‹34›) aB))) (bE bG (pv 3) (bF (aF bI (pv 5) aC)) bB)))) aT) (aD (aS ‹92› (aE (aJ (pv 2))) aT) (aD (aN (i:=6) nd rfl (ugv rfl) (bP (aA (aG aR (pv 2) aC ‹34›) aB))) (aD (bW PassesOwn.never rfl (dR rfl T.z_range (aA (aG aR (pv 1) aC ‹34›) aB)) (aK (i:=7) nd rfl (t6 rfl)) (aD (iQ (i:=8) (N:=["pot","web","pair","way","turn","at","row","step","ends","fresh"]) (sc0:=defScope s__law_other_way) (own:=["a","b","length"]) (fr:=["row"]) (js:=[6]) rfl (cC (aG aR (pv 1) aC ‹34›)) (λ _ _ _ _=>(dJ (n:=3) rfl (aQ (aK (i:=0) (by show uau [("a":Str),("b":Str),("length":Str),("row":Str)];decide +kernel) rfl (t6 rfl)) (aQ (aK (i:=1) (by show uau [("a":Str),("b":Str),("length":Str),("row":Str)];decide +kernel) rfl (t6 rfl)) (aQ (aK (i:=2) (by show uau [("a":Str),("b":Str),("length":Str),("row":Str)];decide +kernel) rfl (t6 rfl)) bL))))) (λ _ _ _ _=>(fN (aO mC (aG oU (pv 3) (cR cN aC) ‹34›) (bC ‹88›) ‹95›))) (λ _ _ _ _=>(aF cF (aF bI (pv 0) (pv 1)) (aG oU (pv 3) (cR cN aC) ‹34›))) nd rfl (t6 rfl)) (aD (iQ (i:=9) (N:=["pot","web","pair","way","turn","at","row","step","ends","fresh"]) (sc0:=defScope s__law_other_way) (own:=["place"]) (fr:=["row"]) (js:=[6]) rfl (dY (pv 8)) (λ _ _ _ _=>(aK (i:=0) (by show uau [("place":Str),("row":Str)];decide +kernel) rfl (t6 rfl))) (λ _ _ _ _=>(fN (aO uH (pv 0) (pv 1) ‹95›))) (λ _ _ _ _=>(pv 0)) nd rfl (t6 rfl)) (aE (aS (PW.pt (fU (aO fW (pv 9) (bP aB) (nomark _)) (iA (aO eF (aG aY (pv 6) (cR cN aC) ‹34›) (aG aR (pv 2) aC ‹34›) (nomark _))))) (aE (dX (dQ ubs uch ucg gN (pv 6) (aA (aG aY (pv 9) (aH O__law_take hr rfl (aA (pv 0) (aA (aP bD rfl T.z_len (by symm) (aA (pv 9) aB)) aB))) ‹34›) aB)))) aT))))) (aE (aJ (bA cK rfl T.z_tuple (by symm) (aA (pv 6) aB)))))))))))))),?_⟩
 ext
 exact⟨A,p,7,rfl,hp,by decide,by decide,λ F H1 w0 w1 b1 p1=>?_⟩
 ext
 let ae:=ai b1 hp;let ah:=ae _ _ bS;rcases ho with ⟨rfl,rfl⟩ | ⟨t,ws,rfl,rfl,iT,b7⟩
 ·exact⟨C,A,iteT ?_⟩
  ext
  exact⟨K,pa,V,SqT.of ah,rfl,(by show 1<=1000;decide),λ t1 J1 S1 f1 e1=>⟨(by show 0<=1000;decide),λ t2 J2 S2 f2 e2=>⟨(by show 3<=1000;decide),λ l3 J3 S3 f3 e3=>?_⟩⟩⟩
  ext
  exact⟨A,E,(by show (0:Int)<3;decide),?_⟩
  ext
  let m0:=ucw F (show (3:Int)≠0 by decide);let m1:=uco F (show (0:Int)<3 by decide);let af:=S1.trans (S2.trans S3);let bJ:=b1.trans (Same.but af);let pJ:=p1.same af;show rIxL K (.ref l3) (.int (F%3)) J3 _;generalize F%3=md at m0 m1;let:md=0\/md=1\/md=2:=by left
  rcases this with rfl | rfl | rfl
  ·exact⟨l3,V,SqL.of e3,rfl,q _ (some [a,b]) J3 bJ pJ (dL (af _ _ ah) (by show 2<=40;decide))⟩
  ·exact⟨l3,V,SqL.of e3,rfl,q _ (some [a]) J3 bJ pJ (dL (S3 _ _ (S2 _ _ e1)) (by show 1<=40;decide))⟩
  ·exact⟨l3,V,SqL.of e3,rfl,q _ (some []) J3 bJ pJ (dL (S3 _ _ e2) (by show 0<=40;decide))⟩
 obtain⟨bo,b5⟩:=bk ws rfl;let bb:=ae _ _ iT.1;let lm:=O ws;exact⟨C,A,iteF ?_⟩
 ext
 exact⟨K,t,A,.inr (SqT.of bb),p,A,p1,by left,by left,λ a7 H2 a0 a1 b2 p2=>?_⟩
 ext
 let ab:=ai b2 p1;let ad:=ab _ _ bb;let al:=ab _ _ ah;let ac:=b1.trans b2;obtain⟨k,rfl⟩:∃ k:Nat,a7=k:=⟨a7.toNat,by left⟩;let ar:∀ k:Nat,cutV (ws.map V.int) none (some (k:Int))=(ws.take k).map V.int:=λ k=>by rw[fR,List.map_take]
 let aq:∀ k:Nat,cutV (ws.map V.int) (some ((k:Int)+1)) none=(ws.drop (k+1)).map V.int:=λ k=>by rw[show (k:Int)+1=((k+1:Nat):Int) from rfl,eI,udq]
 exact⟨C,A,?_⟩;rw[bU]
 ext
 by_cases c0:F=0
 ·rw[uhz c0]
  ext
  exact iteT (q .non none H2 ac p2 (.inl ⟨M⟩))
 rw[uh1 c0]
 ext
 exact iteF ⟨C,A,?_⟩;rw[bU]
 ext
 by_cases c1:F=1
 ·rw[uhz c1]
  ext
  exact iteT ?_
  ext
  exact⟨A,C,t,_,0,rfl,ad,.inl ⟨M⟩,λ x4 J4 S4 f4 g4=>?_⟩
  ext
  rw[uhn,← List.map_reverse] at g4
  ext
  exact q _ _ J4 (ac.trans (Same.but S4)) (p2.same S4) (dL g4 (by rw[ud2];left))
 rw[uh1 c1]
 ext
 exact iteF ⟨C,A,?_⟩;rw[bU]
 ext
 by_cases c2:F=2
 ·rw[uhz c2]
  ext
  exact iteT ?_
  ext
  exact⟨Z,t,A,ad,λ x1 J1 S1 g1=>?_⟩
  ext
  rw[ar] at g1
  ext
  exact⟨K,E,A,t,A,S1 _ _ ad,λ x2 J2 S2 g2=>?_⟩
  ext
  rw[aq] at g2
  ext
  exact⟨x1,x2,E,S2 _ _ g1,g2,sz (by rw[O,O,o8,m9];left),λ x3 J3 S3 g3=>?_⟩
  ext
  rw[← uaq] at g3;have af:=S1.trans (S2.trans S3);exact q _ _ J3 (ac.trans (Same.but af)) (p2.same af) (dL g3 (by rw[i7,o8,m9];left))
 rw[uh1 c2]
 ext
 exact iteF ⟨C,A,?_⟩;rw[bU]
 ext
 by_cases c3:F=3
 ·rw[uhz c3]
  ext
  exact iteT ?_
  ext
  exact⟨Z,t,A,ad,λ x1 J1 S1 g1=>?_⟩
  ext
  rw[ar] at g1
  ext
  exact⟨K,g0,V,SqT.of (S1 _ _ (ab _ _ (ae _ _ bh))),rfl,?_⟩
  ext
  let bl:atI (ws.map V.int) 0=some (.int (ws.getD 0 0)):=kW bo;exact⟨A,t,V,SqT.of (S1 _ _ ad),bl,(by show 3<=1000;decide),λ l3 J3 S3 f3 e3=>?_⟩
  ext
  let p3:=p2.same (S1.trans S3);let n3:l3≠p:=aj (p2.same S1) f3;exact⟨A,p,3,rfl,p3,by decide,by decide,λ r J4 r0 r1 b4 p4=>?_⟩
  ext
  let be:=ai b4 p3;let e4:=b4 _ _ n3 e3;let ex:∃ z:Int,atI [V.int (-1),V.int n,V.int (ws.getD 0 0)] r=some (.int z):=by
   let:r=0\/r=1\/r=2:=by left
   rcases this with rfl | rfl | rfl
   ·exact⟨A⟩
   ·exact⟨A⟩
   ·exact⟨A⟩
  obtain⟨z,ez⟩:=ex
  ext
  exact⟨l3,V,SqL.of e4,ez,(by show 1<=1000;decide),λ x2 J5 S5 f5 g5=>?_⟩
  ext
  let bz:J5 x2=some (.tup (([z]:List Int).map V.int)):=g5;exact⟨x1,x2,E,S5 _ _ (be _ _ (S3 _ _ g1)),bz,sz (by rw[O,O,o8,j6];left),λ x3 J6 S6 g6=>?_⟩
  ext
  rw[← uaq] at g6
  ext
  exact⟨K,E,A,t,A,(S5.trans S6) _ _ (be _ _ (S3 _ _ (S1 _ _ ad))),λ x4 J7 S7 g7=>?_⟩
  ext
  rw[aq] at g7
  ext
  exact⟨x3,x4,E,S7 _ _ g6,g7,sz (by rw[O,O,i7,o8,m9,j6];left),λ x5 J8 S8 g8=>?_⟩
  ext
  rw[← uaq] at g8;have bg:=S5.trans (S6.trans (S7.trans S8));exact q _ _ J8 (ac.trans ((Same.but (S1.trans S3)).trans (b4.trans (Same.but bg)))) (p4.same bg) (dL g8 (by rw[i7,i7,o8,m9,j6];left))
 rw[uh1 c3]
 ext
 exact iteF ⟨C,A,?_⟩;rw[bU]
 ext
 by_cases c4:F=4
 ·rw[uhz c4]
  ext
  exact iteT ⟨A,q (.ref pa) (some [a,b]) H2 ac p2 (dL al (by show 2<=40;decide))⟩
 rw[uh1 c4]
 ext
 exact iteF ?_
 ext
 let b0:atI [V.int a,V.int b] 0=some (.int a):=rfl;exact⟨A,pa,V,SqT.of al,rfl,(by show 1<=1000;decide),λ lw J1 S1 f1 e1=>?_⟩
 ext
 let a2:=aj p2 f1;let bf:=ab _ _ (ae _ _ bh);let a8:=ab _ _ (ae _ _ hg);exact⟨A,g0,V,SqT.of (S1 _ _ bf),rfl,n,rfl,by left,by left,?_⟩
 ext
 exact dE (n:=n.toNat) (λ i σ J=>∃ (is:List Int)(y7 y8 y9:Option V),σ=[some (.ref p),some (.ref g0),some (.ref pa),some (.ref t),some (.int F),some (.int (k:Int)),some (.ref lw),y7,y8,y9]/\But p H2 J/\Pot J p/\J lw=some (.lst (is.map V.int))/\1<=is.length/\is.length<=i+1) ⟨[a],none,none,none,rfl,Same.but S1,p2.same S1,e1,i8 _,i8 _⟩ (λ i σ J hi h=>?_) (λ σ J h=>?_)
 ·try (with_reducible exact lG ?_;intro _ _)
  obtain⟨is,y7,y8,y9,rfl,bt,pt,U,an,bv⟩:=h;let ez:=kT an;let ao:=ai bt p2;exact⟨A,g0,V,SqT.of (ao _ _ bf),rfl,g,rfl,⟨_,SqT.of (ao _ _ a8)⟩,?_⟩
  ext
  generalize is.getD (is.length-1) 0=e at ez;exact nF (ao _ _ a8) (λ ak=>∃ o1 o2 o3,ak=[o1,o2,o3,some (.ref lw)]) (λ i=>if inV (.int e) [.int (tieAt ts i).1,.int (tieAt ts i).2.1]=true then some (V.int ((tieAt ts i).1+(tieAt ts i).2.1-e)) else none) (by left) (by exact⟨none,none,none,rfl⟩) (λ i' x ak H' hx s2 sg C L hC hL=>?_) (λ L1 J3 b6 S3 a9=>?_)
  ·obtain⟨o1,o2,o3,rfl⟩:=sg;let hk:i'<ts.length:=by let:=(j9.mp hx).1;left
   obtain⟨ta,bw,a4⟩:=dA a6 hk;rw[bw] at hx;cases hx;let ay:=s2 _ _ (ao _ _ (ab _ _ (ae _ _ a4)));let av:=s2 _ _ U;exact⟨ta,A,SqT.of ay,Y,A,_,A,E,?_⟩
   ext
   exact⟨K,lw,V,SqL.of av,ez,K,(by show 2<=1000;decide),λ tt J4 S4 f4 e4=>?_⟩
   ext
   exact⟨tt,A,.inr (SqT.of e4),M,A,?_⟩
   ext
   show if (inV (V.int e) [.int (tieAt ts i').1,.int (tieAt ts i').2.1])=true then _ else _
   exact ite2 (λ c=>⟨_,rfl,_,rfl,_,_,rfl,rfl,_,rfl,_,rfl,lw,_,_,_,rfl,rfl,SqL.of (S4 _ _ av),ez,_,_,rfl,rfl,hC _ _ _ ⟨_,_,_,rfl⟩ S4 (uh2 c)⟩) (λ c=>hL _ _ ⟨_,_,_,rfl⟩ S4 (uh3 c))
  obtain⟨en,aw⟩:∃ en:List Int,en=(d8 a3.length).filterMap λ i=>if inV (.int e) [.int (tieAt ts i).1,.int (tieAt ts i).2.1]=true then some ((tieAt ts i).1+(tieAt ts i).2.1-e) else none:=⟨_,rfl⟩
  let bi:en.length<=60:=by
   rw[aw]
   ext
   exact uaj (ud4 _ _) ?_
   ext
   rw[uaa];left
  let au:J3 L1=some (.lst (en.map V.int)):=by
   rw[a9,aw,udi]
   ext
   exact congrArg (λ f=>some (HO.lst (ufd f (d8 a3.length)))) (funext λ i=>?_)
   ext
   by_cases c:inV (.int e) [.int (tieAt ts i).1,.int (tieAt ts i).2.1]=true
   ·rw[uh2 c,uh2 c];rfl
   ·rw[uh3 c,uh3 c];rfl
  clear aw a9;let a5:=S3 _ _ U;exact⟨A,L1,rfl,⟨_,SqL.of au⟩,?_⟩
  ext
  exact zW au (λ ak=>∃ o,ak=[o,some (.ref lw)]) (λ i=>if inV (.int (en.getD i 0)) (is.map V.int)=true then none else some (.int (en.getD i 0))) (by rw[c9];left) ‹68› (λ i' x ak H' hx s2 sg C L hC hL=>?_) (λ L2 J4 bn S4 bd=>?_)
  ·obtain⟨o1,rfl⟩:=sg;rw[j0] at hx;obtain⟨z,hz,rfl⟩:=r6.mp hx;let bq:en.getD i' 0=z:=by rw[c8,hz];rfl
   rw[bq] at hC hL
   ext
   exact⟨K,lw,A,.inl (SqL.of (s2 _ _ a5)),rfl,wH is,A,?_⟩
   ext
   show if (!inV (V.int z) (is.map V.int))=true then _ else _
   cases c:inV (V.int z) (is.map V.int) with
   | true=>exact hL _ _ ⟨A⟩ (Same.refl _) (by rw[c];rfl)
   | false=>exact⟨A,hC _ _ _ ⟨A⟩ (Same.refl _) (by rw[c];rfl)⟩
  obtain⟨fr,az⟩:∃ fr:List Int,fr=(d8 en.length).filterMap λ i=>if inV (.int (en.getD i 0)) (is.map V.int)=true then none else some (en.getD i 0):=⟨A⟩
  let bj:fr.length<=60:=by
   rw[az]
   ext
   exact uaj (ud4 _ _) ?_
   ext
   rw[uaa];left
  let ap:J4 L2=some (.lst (fr.map V.int)):=by
   rw[bd,az,udi,c9]
   ext
   exact congrArg (λ f=>some (HO.lst (ufd f (d8 en.length)))) (funext λ i=>?_)
   ext
   by_cases c:inV (.int (en.getD i 0)) (is.map V.int)=true
   ·rw[uh2 c,uh2 c];rfl
   ·rw[uh3 c,uh3 c];rfl
  clear az bd;let ax:=S3.trans S4;let bs:=bt.trans (Same.but ax);let bN:=pt.same ax;let bc:=ax _ _ U;exact⟨A,(by show 0<=1000;decide),λ Le J5 S5 f5 e5=>⟨.list (fr.map .int),.list [],⟨L2,_,rfl,S5 _ _ ap,IsAll.ints _⟩,⟨Le,_,rfl,e5,rfl⟩,cL _,rfl,units (uaj (uer _ _) (by decide)),_,rfl,?_⟩⟩;rw[jR];let am:=bs.trans (Same.but S5);let aI:=bN.same S5;let aa:=S5 _ _ bc;let ba:=S5 _ _ ap;let aL:=ai am p2 _ _ al;let bu:L2≠p:=aj (pt.same S3) bn;by_cases f0:fr=[]
  ·rw[uhz (by rw[f0];rfl)]
   ext
   exact iteF ⟨is,P,A,am,aI,aa,an,by left⟩
  rw[uh1 (λ z=>f0 (ugg.mp z))];let b3:0<fr.length:=ucc.mpr f0;exact iteT ⟨K,lw,V,SqL.of aa,ez,A,pa,V,SqT.of aL,M,A,ite2 (λ c=>?_) (λ c=>?_)⟩
  ·exact⟨A,.inl ⟨Y,SqL.of aa⟩,Z,L2,A,.inl (SqL.of ba),p,A,aI,by rw[c9];left,by rw[c9];left,λ r9 K6 br bx b9 p9=>?_⟩
   ext
   rw[c9] at bx;let h9:r9.toNat<fr.length:=by left
   let bO:atI (fr.map V.int) r9=some (.int fr[r9.toNat]):=bT br (by rw[j0,d7 h9];rfl);exact⟨L2,V,SqL.of (b9 _ _ bu ba),bO,lw,E,b9 _ _ a2 aa,by rw[c9];left,λ K7 aU bQ=>?_⟩
   ext
   exact⟨is++[fr[r9.toNat]],P,A,λ b o nb e=>aU _ _ (aW e f1) (b9 _ _ nb (am _ _ nb e)),?_,?_,?_,?_⟩
   ·obtain⟨a',b',e',z⟩:=p9
    ext
    exact⟨a',b',aU _ _ a2.symm e',z⟩
   ·rw[bQ,uaq];rfl
   ·rw[i7];left
   ·rw[i7,j6];left
  ·exact⟨is,P,A,am,aI,aa,an,by left⟩
 ·try (with_reducible exact lG ?_;intro _ _)
  obtain⟨is,y7,y8,y9,rfl,bt,pt,U,an,bv⟩:=h
  ext
  exact⟨A,lw,A,U,λ tq J9 S9 f9 e9=>?_⟩
  ext
  exact q _ _ J9 (ac.trans (bt.trans (Same.but S9))) (pt.same S9) (dL e9 (by left))
inductive spOH49_i (K:b8)(vs:List V)(H:Hp)(Q:VK):Prop
 | mk:∀ (p hp:o7)(hs:List Int),(vs=[.ref p,.ref hp])->(Pot H p)->(H hp=some (.tup (hs.map V.int)))->(1<=hs.length)->(hs.length<=24)->(∀ t (js:List Int) H',But p H H'->Pot H' p->H' t=some (.tup (js.map V.int))->js.length<=25->Q (.ref t) H')->spOH49_i K vs H Q
def spOH49 (K:b8):Sp:=λ vs H Q _=>spOH49_i K vs H Q
theorem rR (T:Bi mg)(D:DefOk K mg "_law_other_heights" s__law_other_heights ["pot","heights"])(O__law_take:‹1› "_law_take" ["pot","many"] spTake):‹2› "_law_other_heights" ["pot","heights"] (spOH49 K):=by
 exists 1,sc__law_other_heights;obtain⟨p,hp,hs,rfl,pp,ht,l1,aQ,q⟩:=h;let aa:∀ {J J':Hp},But p J J'->Pot J p->TupKeep J J':=λ b pp=>by
  obtain⟨xs,e⟩:=pp.lst;exact λ a ys h=>b _ _ (λ z=>by rw[z,e] at h;cases h) h
 let ab:∀ {J:Hp}{b:o7},Pot J p->J b=none->b≠p:=λ pp hb z=>by
  obtain⟨xs,e⟩:=pp.lst;rw[z,e] at hb;cases hb
 let F:∀ l:List Int,(l.map V.int).length=l.length:=λ l=>c9 ..;let sz:∀ {k:Nat},k<=1000->k<=p8:=λ {k} h=>uaj h (by decide);let lm:=F hs;exact⟨_,(aD (aN (i:=2) nd rfl (t6 rfl) (aH O__law_take hr rfl (aA (pv 0) (aA ‹59› aB)))) (aD (aN (i:=3) nd rfl (ugv rfl) (aG aY (bP (aA aC (aA (cR cN aC) (aA (aF bS aC aC) (aA (cR cN (aF bS aC aC)) (aA (aF cF (aF bS aC aC) (aG aR (pv 1) (pv 2) ‹34›)) (aA (aF cF aC (aG aR (pv 1) (pv 2) ‹34›)) aB))))))) ‹31› ‹34›)) (aD (aN (i:=4) nd rfl (t6 rfl) ‹31›) (aD (aS ‹92› (aE (aJ (bA cK rfl T.z_tuple (by symm) (aA (bQ (N:=["pot","heights","at","more","turn"]) (sc0:=defScope s__law_other_heights) (own:=["number"]) (fr:=["more"]) (js:=[3]) rfl (cC (pv 1)) (λ _ _ _ _=>(aK (i:=0) (by show uau [("number":Str),("more":Str)];decide +kernel) rfl (t6 rfl))) ‹85› (λ _ _ _ _=>(aF bI (pv 0) (pv 1)))) aB)))) aT) (aD (aS ‹92› (aE (aJ (aG aY (bP (aA (bE bG (pv 1) (bF aC) bB) (aA (aF bZ (pv 1) (bC (aA aC aB))) (aA (bC aB) aB)))) ‹31› ‹34›))) aT) (aE (aJ (aF bZ (aF bZ (bE bG (pv 1) bB (bF (pv 2))) (bC (aA (aF bI (aG aR (pv 1) (pv 2) ‹34›) (pv 3)) aB))) (bE bG (pv 1) (bF (aF bI (pv 2) aC)) bB))))))))),?_⟩;exact⟨K,hp,A,.inr (SqT.of ht),p,A,pp,by left,by left,λ al H1 a0 a1 b1 p1=>?_⟩;obtain⟨k,rfl⟩:∃ k:Nat,al=k:=⟨al.toNat,by left⟩;let ae:=aa b1 pp _ _ ht;let aq:∀ k:Nat,cutV (hs.map V.int) none (some (k:Int))=(hs.take k).map V.int:=λ k=>by rw[fR,List.map_take]
 let ao:∀ k:Nat,cutV (hs.map V.int) (some ((k:Int)+1)) none=(hs.drop (k+1)).map V.int:=λ k=>by rw[show (k:Int)+1=((k+1:Nat):Int) from rfl,eI,udq]
 let ak:atI (hs.map V.int) (k:Int)=some (.int (hN hs k)):=gF (by left);exact⟨A,E,⟨by decide,by decide,by decide⟩,E,⟨by decide,by decide,by decide⟩,?_⟩;exact⟨A,E,⟨by decide,by decide,by decide⟩,K,hp,V,SqT.of ae,ak,E,?_⟩;exact⟨K,hp,V,SqT.of ae,ak,E,(by show 6<=1000;decide),λ ax J1 S1 f1 e1=>?_⟩;let an:=p1.same S1;let av:=ab p1 f1;exact⟨A,p,6,rfl,an,by decide,by decide,λ r J2 r0 r1 b2 p2=>?_⟩;let e2:=b2 _ _ av e1;let ex:∀ {x1 x2 x3 x4 x5 x6:Int},∃ z:Int,atI [V.int x1,V.int x2,V.int x3,V.int x4,V.int x5,V.int x6] r=some (.int z):=λ {x1 x2 x3 x4 x5 x6}=>by
  let:r=0\/r=1\/r=2\/r=3\/r=4\/r=5:=by left
  rcases this with rfl | rfl | rfl | rfl | rfl | rfl <;> exact⟨A⟩
 obtain⟨z,ez⟩:=ex (x1:=1) (x2:=-1) (x3:=10^(20:Int).toNat) (x4:=-(10^(20:Int).toNat)) (x5:=10^(20:Int).toNat-hN hs k) (x6:=0-hN hs k);exact⟨ax,V,SqL.of e2,ez,?_⟩;let aw:=aa b2 an;let au:=aw _ _ (S1 _ _ ae);let ay:=b1.trans ((Same.but S1).trans b2);exact⟨A,p,5,rfl,p2,by decide,by decide,λ ac J3 t0 t1 b3 p3=>?_⟩;let O:=aa b3 p2 _ _ au;let ah:=ay.trans b3;exact⟨C,A,?_⟩;rw[bU];by_cases c3:ac=3
 ·rw[uhz c3];exact iteT ⟨A,hp,rfl,⟨_,SqT.of O⟩,?_⟩;exact dS O (λ am=>∃ o,am=[o,some (.int z)]) (λ i v _=>v=.int (hs.getD i 0+z)) (by left) ‹68› ‹73› (λ i x am H' hx s2 sg C hC=>?_) (λ L vs J4 hL S4 hH aI ar=>?_)
  ·obtain⟨o,rfl⟩:=sg;rw[j0] at hx;obtain⟨y,hy,rfl⟩:=r6.mp hx;let ey:hs.getD i 0=y:=by rw[c8,hy];rfl
   rw[ey] at hC;exact⟨K,E,hC _ _ _ ⟨A⟩ (Same.refl _) rfl⟩
  ·let ev:vs=(hs.map λ y=>y+z).map V.int:=by
    exact ucd λ i=>?_;rw[j0,j0];by_cases hi:i<hs.length
    ·let e:vs[i]?=some (vs[i]'(by left)):=d7 (by left);rw[e,ar i _ e,c8,d7 hi];rfl
    ·rw[uag (by left),uag (by left)];rfl
   rw[ev] at hH;exact⟨L,A,hH,λ tq J5 S5 f5 e5=>?_⟩;exact q tq _ J5 (ah.trans (Same.but (S4.trans S5))) (p3.same (S4.trans S5)) e5 (by rw[c9];left)
 rw[uh1 c3];exact iteF ⟨C,A,?_⟩;rw[bU];by_cases c4:ac=4
 ·rw[uhz c4];exact iteT ?_;exact⟨K,hp,A,O,λ x1 J4 S4 g1=>?_⟩;let ec:cutV (hs.map V.int) (some 1) none=(hs.drop 1).map V.int:=by rw[udq];exact eI _ 1
  rw[ec] at g1;refine⟨A,(by show 1<=1000;decide),λ x2 J5 S5 f5 g2=>?_⟩;have ai:J5 x2=some (.tup (([0]:List Int).map V.int)):=g2;refine⟨hp,x2,E,S5 _ _ (S4 _ _ O),ai,sz (by rw[F,F,j6];left),λ x3 J6 S6 g3=>?_⟩;rw[← uaq] at g3;refine⟨(by show 0<=1000;decide),λ x4 J7 S7 f7 g4=>⟨(by show 3<=1000;decide),λ l8 J8 S8 f8 g8=>?_⟩⟩;have U:=S4.trans (S5.trans (S6.trans (S7.trans S8)));have ap:=p3.same U;have n8:=ab (p3.same (S4.trans (S5.trans (S6.trans S7)))) f8;refine⟨A,p,3,rfl,ap,by decide,by decide,λ r9 J9 aL az b9 p9=>?_⟩;have ad:=aa b9 ap;have g9:=b9 _ _ n8 g8;have af:=ah.trans ((Same.but U).trans b9);have:r9=0\/r9=1\/r9=2:=by left
  rcases this with rfl | rfl | rfl
  ·exact⟨l8,V,SqL.of g9,rfl,q x1 _ J9 af p9 (ad _ _ (S8 _ _ (S7 _ _ (S6 _ _ (S5 _ _ g1))))) (by rw[m9];left)⟩
  ·exact⟨l8,V,SqL.of g9,rfl,q x3 _ J9 af p9 (ad _ _ (S8 _ _ (S7 _ _ g3))) (by rw[i7,j6];left)⟩
  ·exact⟨l8,V,SqL.of g9,rfl,q x4 [] J9 af p9 (ad _ _ (S8 _ _ g4)) (uae _)⟩
 rw[uh1 c4];refine iteF ?_;refine⟨Z,hp,A,O,λ x1 J4 S4 g1=>?_⟩;rw[aq] at g1;refine⟨K,hp,V,SqT.of (S4 _ _ O),ak,A,E,(by show 1<=1000;decide),λ x2 J5 S5 f5 g2=>?_⟩;have ai:J5 x2=some (.tup (([hN hs k+z]:List Int).map V.int)):=g2;refine⟨x1,x2,E,S5 _ _ g1,ai,sz (by rw[F,F,o8,j6];left),λ x3 J6 S6 g3=>?_⟩;rw[← uaq] at g3;have aj:=S4.trans (S5.trans S6);refine⟨K,E,A,hp,A,aj _ _ O,λ x4 J7 S7 g4=>?_⟩;rw[ao] at g4;refine⟨x3,x4,E,S7 _ _ g3,g4,sz (by rw[F,F,i7,o8,m9,j6];left),λ x5 J8 S8 g5=>?_⟩;rw[← uaq] at g5;have U:=aj.trans (S7.trans S8);exact q x5 _ J8 (ah.trans (Same.but U)) (p3.same U) g5 (by rw[i7,i7,o8,m9,j6];left)
theorem PpV.tk {H H':Hp}{kz:List Int}{os:List ‹55›}{hss:List (List Int)}{t ta tb tc:o7}{ys zs:List V}(k:TupKeep H H')(h:PpV H kz os hss t ta tb tc ys zs):PpV H' kz os hss t ta tb tc ys zs :=
 ⟨k _ _ h.e,k _ _ h.ea,k _ _ h.eb,k _ _ h.ec,h.ly,h.lz,λ i o v a b=>by
  rcases h.oy i o v a b with z | ⟨t,ws,e,q,e2,z⟩
  ·exact .inl z
  ·exact .inr ⟨t,ws,e,q,⟨k _ _ e2.1,e2.2⟩,z⟩,λ i hs v a b=>by obtain⟨p,e,z⟩:=h.hz i hs v a b;exact⟨p,e,k _ _ z.1,z.2⟩,h.lk,h.lo,h.lh⟩
theorem OpI.tk {H H':Hp}{o:Option (List Int)}{v:V}(k:TupKeep H H')(h:OpI H o v):OpI H' o v:=by
 rcases h with h | ⟨t,ws,e,q,e2,z⟩
 ·exact .inl h
 ·exact .inr ⟨t,ws,e,q,⟨k _ _ e2.1,e2.2⟩,z⟩
def WyL (H:Hp)(os:List ‹55›)(ys:List V):Prop:=ys.length=os.length/\∀ (i:Nat)(o:Option (List Int))(v:V),os[i]?=some o->ys[i]?=some v->OpI H o v
def HtL (H:Hp)(hss:List (List Int))(zs:List V):Prop:=zs.length=hss.length/\∀ (i:Nat)(hs:List Int)(v:V),hss[i]?=some hs->zs[i]?=some v->∃ a,v=.ref a/\IntT H a hs
theorem WyL.tk {H H':Hp}{os:List ‹55›}{ys:List V}(k:TupKeep H H')(h:WyL H os ys):WyL H' os ys:=⟨h.1,λ i o v a b=>(h.2 i o v a b).tk k⟩
theorem HtL.tk {H H':Hp}{hss:List (List Int)}{zs:List V}(k:TupKeep H H')(h:HtL H hss zs):HtL H' hss zs:=⟨h.1,λ i o v a b=>by obtain⟨p,e,z⟩:=h.2 i o v a b;exact⟨p,e,k _ _ z.1,z.2⟩⟩
theorem WyL.app {H:Hp}{os os':List ‹55›}{ys ys':List V}(h:WyL H os ys)(h':WyL H os' ys'):WyL H (os++os') (ys++ys'):=by
 exact⟨by rw[i7,i7,h.1,h'.1],λ i o v a b=>?_⟩;let e:=h.1;by_cases c:i<os.length
 ·rw[uao c] at a;rw[uao (by left)] at b;exact h.2 i o v a b
 ·rw[uab (by left)] at a;rw[uab (by left),e] at b;exact h'.2 _ o v a b
theorem HtL.app {H:Hp}{os os':List (List Int)}{ys ys':List V}(h:HtL H os ys)(h':HtL H os' ys'):HtL H (os++os') (ys++ys'):=by
 exact⟨by rw[i7,i7,h.1,h'.1],λ i o v a b=>?_⟩;let e:=h.1;by_cases c:i<os.length
 ·rw[uao c] at a;rw[uao (by left)] at b;exact h.2 i o v a b
 ·rw[uab (by left)] at a;rw[uab (by left),e] at b;exact h'.2 _ o v a b
theorem WyL.take {H:Hp}{os:List ‹55›}{ys:List V}(h:WyL H os ys)(k:Nat):WyL H (os.take k) (ys.take k):=by
 exact⟨by rw[o8,o8,h.1],λ i o v a b=>?_⟩;rw[uec] at a b;by_cases c:i<k
 ·rw[uh2 c] at a b;exact h.2 i o v a b
 ·rw[uh3 c] at a;cases a
theorem HtL.take {H:Hp}{os:List (List Int)}{ys:List V}(h:HtL H os ys)(k:Nat):HtL H (os.take k) (ys.take k):=by
 exact⟨by rw[o8,o8,h.1],λ i o v a b=>?_⟩;rw[uec] at a b;by_cases c:i<k
 ·rw[uh2 c] at a b;exact h.2 i o v a b
 ·rw[uh3 c] at a;cases a
theorem WyL.drop {H:Hp}{os:List ‹55›}{ys:List V}(h:WyL H os ys)(k:Nat):WyL H (os.drop k) (ys.drop k) :=
 ⟨by rw[m9,m9,h.1],λ i o v a b=>by rw[udj] at a b;exact h.2 _ o v a b⟩
theorem HtL.drop {H:Hp}{os:List (List Int)}{ys:List V}(h:HtL H os ys)(k:Nat):HtL H (os.drop k) (ys.drop k) :=
 ⟨by rw[m9,m9,h.1],λ i o v a b=>by rw[udj] at a b;exact h.2 _ o v a b⟩
theorem WyL.one {H:Hp}{o:Option (List Int)}{v:V}(h:OpI H o v):WyL H [o] [v]:=⟨rfl,λ i o' q a b=>by
 cases i with
 | zero=>cases a;cases b;exact h
 | succ i=>cases a⟩
theorem HtL.one {H:Hp}{hs:List Int}{a:o7}(h:IntT H a hs):HtL H [hs] [.ref a]:=⟨rfl,λ i o' q x y=>by
 cases i with
 | zero=>cases x;cases y;exact⟨a,rfl,h⟩
 | succ i=>cases x⟩
theorem PpV.of {H:Hp}{kz:List Int}{os:List ‹55›}{hss:List (List Int)}{t ta tb tc:o7}{ys zs:List V}(e:H t=some (.tup [.ref ta,.ref tb,.ref tc]))(ea:H ta=some (.tup (kz.map V.int)))(eb:H tb=some (.tup ys))(ec:H tc=some (.tup zs))(w:WyL H os ys)(h:HtL H hss zs)(lk:kz.length<=100)(lo:os.length<=31)(lh:hss.length<=31):PpV H kz os hss t ta tb tc ys zs:=⟨e,ea,eb,ec,w.1,h.1,w.2,h.2,lk,lo,lh⟩
theorem zV {g:TG}{tt:TT}{te:TE}{own:List Str}{js:List Nat}{σ:L2.St}{H1:Hp}{Q:VK}{K:b8}{a b:o7}{xs zs:List V}(hx:H1 a=some (.tup xs))(hz:H1 b=some (.tup zs))(Sg:L2.St->Prop)(sel:Nat->Option V)(hn:xs.length<=1000)(h0:Sg ‹93›)
  (step:∀ i x z T σ' H',xs[i]?=some x->zs[i]?=some z->Same H1 H'->H' T=none->Sg σ'->∀ (C:L2.St->V->Hp->Prop)(L:L2.St->Hp->Prop),(∀ σ3 v H5,Sg σ3->Same H' H5->sel i=some v->C σ3 v H5)->(∀ σ3 H5,Sg σ3->Same H' H5->sel i=none->L σ3 H5) ->
   g (.ref T) σ' (upd H' T (.tup [x,z])) λ σ3 H3=>tt σ3 H3 λ b H4=>if b=true then te σ3 H4 λ v H5=>C σ3 v H5 else L σ3 H4)
  (fin:∀ D H',H1 D=none->Same H1 H'->H' D=some (.lst ((d8 (min xs.length zs.length)).filterMap sel))->Q (.ref D) H'):CompGo own js g tt te σ Q (Itz true true K a b) H1:=by
 let q:∀ H',Same H1 H'->SqX true K H' a xs:=λ H' s=>SqX.of (t:=true) (s _ _ hx);let s2:∀ H',Same H1 H'->SqX true K H' b zs:=λ H' s=>SqX.of (t:=true) (s _ _ hz);exact jS (min xs.length zs.length) Sg sel (by left) h0 (λ i H' hi s=>⟨xs,zs,xs[i]'(by left),zs[i]'(by left),q H' s,s2 H' s,by simp [show i<xs.length by left],by simp [show i<zs.length by left]⟩) (λ H' s=>⟨xs,zs,q H' s,s2 H' s,by left⟩) (λ i x σ' H' H2 hi s hy sg C L hC U=>?_) fin;obtain⟨T,x1,z1,O,rfl,rfl,F,e2⟩:=hy;exact step i x1 z1 T σ' H' (F _ (q H' s)) (e2 _ (s2 H' s)) s O sg C L hC U
inductive spLC49_i (K:b8)(vs:List V)(H:Hp)(Q:VK):Prop
 | mk:∀ (p:o7)(n:Int)(ts:List Tie)(wv:V)(pp:o7)(ps:List V)(prs:List (Nat × Nat))(kz:List Int)(os:List ‹55›)(hss:List (List Int))(t ta tb tc:o7)(ys zs:List V),(vs=[.ref p,wv,.ref pp,.ref t])->(Pot H p)->‹45›->(WebOk n ts)->(H pp=some (.tup ps))->(IsAll K H (prs.map prD) ps)->(PrsOk n prs)->(1<=prs.length)->(PpV H kz os hss t ta tb tc ys zs)->(os.length=prs.length)->(hss.length=prs.length)->((∀ x∈kz,0<=x/\x<ts.length))->((∀ ws,some ws∈os->1<=ws.length/\ws.length<=24))->((∀ hs∈hss,hs.length=n.toNat))->(∀ t' ta' tb' tc' ys' zs' kz' os' hss' H',But p H H'->Pot H' p->PpV H' kz' os' hss' t' ta' tb' tc' ys' zs'->Q (.ref t') H')->spLC49_i K vs H Q
def spLC49 (K:b8):Sp:=λ vs H Q _=>spLC49_i K vs H Q
theorem sY (T:Bi mg)(D:DefOk K mg "_law_changed" s__law_changed ["pot","web","pairs","told"])(O__law_take:‹2› "_law_take" ["pot","many"] spTake)(O__law_other_way:‹2› "_law_other_way" ["pot","web","pair","way"] (spOW49 K))(O__law_lengths:‹2› "_law_lengths" ["web"] (spLen49 K))(O__law_other_heights:‹2› "_law_other_heights" ["pot","heights"] (spOH49 K)):‹3› "_law_changed" ["pot","web","pairs","told"] (spLC49 K):=by
 exists 2,sc__law_changed;obtain⟨p,n,ts,wv,pp,ps,prs,kz,os,am,t,ta,tb,tc,ys,zs,rfl,ah,bd,ok,bp,bq,cn,l1,jv,lo,lh,a4,cx,cd,q⟩:=h;let hu:(A.deeper (envOfC "_law_changed" (defScope s__law_changed) ‹128› f cdv)).units+1<cLine:=by let:=hr.units;left
 let cc:=ok.few;let n1:=ok.n1;let cW:=ok.n24;let U:∀ {J J':Hp},But p J J'->Pot J p->TupKeep J J':=λ b pp=>by
  obtain⟨xs,e⟩:=pp.lst;exact λ a ys h=>b _ _ (λ z=>by rw[z,e] at h;cases h) h
 let ba:∀ {J:Hp}{b:o7},Pot J p->J b=none->b≠p:=λ pp hb z=>by
  obtain⟨xs,e⟩:=pp.lst;rw[z,e] at hb;cases hb
 let sz:∀ {k:Nat},k<=1000->k<=p8:=λ {k} h=>uaj h (by decide);let db:ps.length=prs.length:=by rw[bq.length,c9]
 let df:=cn.1;obtain⟨g0,g,dc,rfl,cL,hg,cQ,de⟩:=bY bd;let ad:∀ {J J':Hp}{a' b' c' tq:o7}{bb:List Int}{bf:List ‹55›}{a2:List (List Int)}{bm bn:List V},But p H J->Pot J p->J a'=some (.tup (bb.map V.int))->J b'=some (.tup bm)->J c'=some (.tup bn)->WyL J bf bm->HtL J a2 bn->bb.length<=100->bf.length<=31->a2.length<=31->Same J J'->J' tq=some (.tup [.ref a',.ref b',.ref c'])->Q (.ref tq) J':=λ {J J' a' b' c' tq bb bf a2 bm bn} bt pt ea eb ec w h l1 l2 l3 S e =>
  q _ _ _ _ _ _ _ _ _ J' (bt.trans (Same.but S)) (pt.same S) (.of e (S _ _ ea) (S _ _ eb) (S _ _ ec) (w.tk λ _ _ e=>S _ _ e) (h.tk λ _ _ e=>S _ _ e) l1 l2 l3)
 exact⟨_,(aD (cB (pv 3) (cI (n:=3) rfl (aQ (aK (i:=4) nd rfl (t6 rfl)) (aQ (aK (i:=5) nd rfl (t6 rfl)) (aQ (aK (i:=6) nd rfl (t6 rfl)) bL))))) (aD (aN (i:=7) nd rfl (t6 rfl) ‹31›) (aD (aN (i:=8) nd rfl (t6 rfl) (aH O__law_take hr rfl (aA (pv 0) (aA ‹58› aB)))) (aD (aS (aO cS (pv 7) aC (nomark _)) (aD (aN (i:=9) nd rfl (t6 rfl) (aH O__law_other_way hr rfl (aA (pv 0) (aA (pv 1) (aA (aG aR (pv 2) (pv 8) ‹34›) (aA (aG aR (pv 5) (pv 8) ‹34›) aB)))))) (aD (aN (i:=5) nd rfl (t6 rfl) (aF bZ (aF bZ (bE bG (pv 5) bB (bF (pv 8))) (bC (aA (pv 9) aB))) (bE bG (pv 5) (bF (aF bI (pv 8) aC)) bB))) (aE (aS (PW.pt (fU (aO aV (pv 7) aC (nomark _)) (iA (aO jY (pv 9) bR (nomark _))))) (aD (aN (i:=10) nd rfl (ugv rfl) (aH O__law_lengths hr rfl (aA (pv 1) aB))) (aD (iQ (i:=11) (N:=["pot","web","pairs","told","keep","ways","heights","turn","at","other","numbers","more","number"]) (sc0:=defScope s__law_changed) (own:=["step"]) (fr:=["numbers"]) (js:=[10]) rfl (pR true true rfl T.z_zip (aA (pv 9) (aA (bE bG (pv 9) (bF aC) bB) aB))) (λ _ _ _ _=>(aK (i:=0) (by show uau [("step":Str),("numbers":Str)];decide +kernel) rfl (t6 rfl))) (λ _ _ _ _=>(fN (qN (zdx hu (pv 0) (pv 1)) ‹95›))) (λ _ _ _ _=>(aG cH (jX hu (pv 1) (pv 0) ‹34›) aC ‹34›)) nd rfl (t6 rfl)) (aE (aN (i:=4) nd rfl (t6 rfl) (bA cK rfl T.z_tuple (by symm) (aA (aP (iO rfl) rfl T.z_sorted (by symm) (aA (aF zdz (bA (nI rfl) rfl T.z_set (by symm) (aA (pv 4) aB)) (bA (iX rfl) rfl T.z_set (by symm) (aA (pv 11) aB))) aB)) aB)))))) aT)))) (aE (aS (aO aV (pv 7) aC (nomark _)) (aE (aN (i:=6) nd rfl (t6 rfl) (aF bZ (aF bZ (bE bG (pv 6) bB (bF (pv 8))) (bC (aA (aH O__law_other_heights hr rfl (aA (pv 0) (aA (aG aR (pv 6) (pv 8) ‹34›) aB))) aB))) (bE bG (pv 6) (bF (aF bI (pv 8) aC)) bB)))) (aE (aS (aO aV (pv 7) aC (nomark _)) (aD (aN (i:=12) nd rfl (t6 rfl) (aH O__law_take hr rfl (aA (pv 0) (aA (aF bI (aP bD rfl T.z_len (by symm) (aA (aG aR (pv 1) aC ‹34›) aB)) aC) aB)))) (aE (aN (i:=4) nd rfl (t6 rfl) (bA cK rfl T.z_tuple (by symm) (aA (aP (iO rfl) rfl T.z_sorted (by symm) (aA (aF zco (bA (nI rfl) rfl T.z_set (by symm) (aA (pv 4) aB)) (bA (iX rfl) rfl T.z_set (by symm) (aA (bP (aA (pv 12) aB)) aB))) aB)) aB))))) (aE (aS (aO aV (pv 7) aC (nomark _)) (aE (aN (i:=5) nd rfl (t6 rfl) (aG aY (bP (aA (aF bZ (bE bG (pv 5) bB (bF (pv 8))) (bE bG (pv 5) (bF (aF bI (pv 8) aC)) bB)) (aA (aF bZ (pv 5) (bE bG (pv 5) bB (bF aC))) aB))) ‹31› ‹34›))) (aE (aN (i:=6) nd rfl (t6 rfl) (aG aY (bP (aA (aF bZ (bE bG (pv 6) bB (bF (pv 8))) (bE bG (pv 6) (bF (aF bI (pv 8) aC)) bB)) (aA (aF bZ (pv 6) (bE bG (pv 6) bB (bF aC))) aB))) ‹31› ‹34›)))))))))) (aE (aJ (bC (aA (pv 4) (aA (pv 5) (aA (pv 6) aB)))))))))),?_⟩
 ext
 exact⟨A,t,A,SqT.of jv.e,Y,A,_,A,E,?_⟩
 ext
 exact⟨A,p,6,rfl,ah,by decide,by decide,λ an H1 t0 t1 b1 p1=>?_⟩
 ext
 let cm:=U b1 ah;exact⟨K,pp,A,.inr (SqT.of (cm _ _ bp)),p,A,p1,by left,by left,λ bv H2 a0 a1 b2 p2=>?_⟩
 ext
 obtain⟨k,rfl⟩:∃ k:Nat,bv=k:=⟨bv.toNat,by left⟩;let hk:k<prs.length:=by left
 let aw:=b1.trans b2;let ac:=U aw ah;let F:=jv.tk ac;let bW:=ac _ _ bp;let bs:=IsAll.tk (K:=K) ac _ (eM prs) bq;let ax:WyL H2 os ys:=⟨F.ly,F.oy⟩;let ay:HtL H2 am zs:=⟨F.lz,F.hz⟩;let aq:∀ (xs:List V),cutV xs none (some (k:Int))=xs.take k:=λ xs=>fR xs k;let ao:∀ (xs:List V),cutV xs (some ((k:Int)+1)) none=xs.drop (k+1):=λ xs=>by rw[show (k:Int)+1=((k+1:Nat):Int) from rfl,eI]
 let cut1:∀ (xs:List V),cutV xs none (some 1)=xs.take 1:=λ xs=>fR xs 1;let c6:=jv.ly;let da:=jv.lz;let lk:=jv.lk;exact⟨A,E,A,ite2 (λ c=>?_) (λ c=>?_)⟩
 ·let ek:ps[k]?=some (ps[k]'(by left)):=d7 _;obtain⟨pr,ap,c5,cp,cF⟩:=gB bs ek;rw[cp] at ek;let ey:ys[k]?=some (ys[k]'(by left)):=d7 _;let eo:os[k]?=some (os[k]'(by left)):=d7 _;let oy:=F.oy k _ _ eo ey;generalize ys[k]'(by left)=xk at ey oy;let bJ:∀ ws,os[k]'(by left)=some ws->1<=ws.length/\ws.length<=24:=λ ws e=>cx ws (e ▸ ual eo);generalize os[k]'(by left)=cf at eo oy bJ;exact⟨K,K,pp,V,SqT.of bW,bT (ua3 _) ek,K,tb,V,SqT.of F.eb,bT (ua3 _) ey,p,n,ts,_,ap,P,cf,xk,rfl,p2,Is.tk ac _ (fM n ts) bd,ok,cF,oy,bJ,λ v o' H3 b3 p3 b6=>?_⟩
  ext
  let bN:=aw.trans b3;let a8:=U b3 p2;let cN:=U bN ah;exact⟨Z,tb,A,a8 _ _ F.eb,λ x1 J1 S1 g1=>?_⟩
  ext
  rw[aq] at g1
  ext
  exact⟨A,(by show 1<=1000;decide),λ x2 J2 S2 f2 g2=>?_⟩
  ext
  exact⟨x1,x2,E,S2 _ _ g1,g2,sz (by rw[o8,j6];left),λ x3 J3 S3 g3=>?_⟩
  ext
  let ai:=S1.trans (S2.trans S3);exact⟨K,E,A,tb,A,ai _ _ (a8 _ _ F.eb),λ x4 J4 S4 g4=>?_⟩
  ext
  rw[ao] at g4
  ext
  exact⟨x3,x4,E,S4 _ _ g3,g4,sz (by rw[i7,o8,m9,j6];left),λ x5 J5 S5 g5=>?_⟩
  ext
  let au:=ai.trans (S4.trans S5);let a6:=bN.trans (Same.but au);let bj:=p3.same au;let ab:=U a6 ah;let bk:WyL J5 (os.take k++[o']++os.drop (k+1)) (ys.take k++[v]++ys.drop (k+1)):=by
   let w:=ax.tk (λ a xs e=>au _ _ (a8 _ _ e));exact ((w.take k).app (.one (b6.same au))).app (w.drop (k+1))
  let bi:=ay.tk (λ a xs e=>au _ _ (a8 _ _ e));let ll:(os.take k++[o']++os.drop (k+1)).length<=31:=by
   rw[i7,i7,o8,m9,j6];left
  exact⟨C,A,?_⟩;rw[bU]
  ext
  by_cases c1:an=1
  case neg =>
   rw[uh1 c1]
   ext
   exact iteF ⟨Z,(by show 3<=1000;decide),λ tq J6 S6 f6 g6=>ad a6 bj (ab _ _ jv.ea) g5 (ab _ _ jv.ec) bk bi lk ll (by left) S6 g6⟩
  rw[uhz c1]
  ext
  exact iteT ?_
  ext
  rcases b6 with ⟨rfl,rfl⟩ | ⟨tw,aa,rfl,rfl,iT,cT⟩
  ·exact⟨C,A,iteF ⟨Z,(by show 3<=1000;decide),λ tq J6 S6 f6 g6=>ad a6 bj (ab _ _ jv.ea) g5 (ab _ _ jv.ec) bk bi lk ll (by left) S6 g6⟩⟩
  exact⟨C,A,iteT ?_⟩
  ext
  exact⟨A,n,ts,A,Is.tk ab _ (fM n ts) bd,ok,λ ld J6 S6 dh ce=>?_⟩
  ext
  let bh:=(iT.same (au.trans S6)).1;exact⟨Z,tw,A,bh,λ t2 J7 S7 e7=>?_⟩
  ext
  let ec:cutV (aa.map V.int) (some 1) none=(aa.drop 1).map V.int:=by rw[udq];exact eI _ 1
  rw[ec] at e7
  ext
  exact⟨tw,t2,rfl,⟨_,SqX.of (t:=true) (S7 _ _ bh)⟩,⟨_,SqX.of (t:=true) e7⟩,?_⟩
  ext
  exact zV (S7 _ _ bh) e7 (λ b0=>∃ o,b0=[o,some (.ref ld)]) (λ i=>(numI ts ts.length (aa.getD i 0) ((aa.drop 1).getD i 0)).map λ k:Nat=>V.int (k:Int)) (by rw[c9];left) ‹68› (λ i x z T b0 H' hx hz s2 hT sg C L hC hL=>?_) (λ L1 J8 cR S8 bx=>?_)
  ·obtain⟨o1,rfl⟩:=sg;rw[j0] at hx hz;obtain⟨xa,cl,rfl⟩:=r6.mp hx;obtain⟨xb,cj,rfl⟩:=r6.mp hz;let ea:aa.getD i 0=xa:=by rw[c8,cl];rfl
   let eb:(aa.drop 1).getD i 0=xb:=by rw[c8,cj];rfl
   rw[ea,eb] at hC hL;let SU:=aU (H:=H') (o:=.tup [V.int xa,.int xb]) hT;obtain⟨o2,gt,vl⟩:=(ce.same (S7.trans (s2.trans SU))).get (T:=T) (a:=xa) (b:=xb) aM
   ext
   exact⟨K,ld,A,gt,A,?_⟩;cases e:numI ts ts.length xa xb with
   | none =>
    rw[e] at vl hL;let vl:o2=none:=vl;rw[vl]
    ext
    exact iteF (hL _ _ ⟨A⟩ SU rfl)
   | some k2 =>
    rw[e] at vl hC;obtain⟨tt,rfl,cv⟩:=vl
    ext
    exact iteT ⟨K,ld,A,gt,tt,V,SqT.of cv,rfl,hC _ _ _ ⟨A⟩ SU rfl⟩
  obtain⟨cs,a7⟩:∃ cs:List Int,cs=(d8 (min (aa.map V.int).length ((aa.drop 1).map V.int).length)).filterMap λ i=>(numI ts ts.length (aa.getD i 0) ((aa.drop 1).getD i 0)).map λ k:Nat=>(k:Int):=⟨A⟩;let bu:J8 L1=some (.lst (cs.map V.int)):=by
   rw[bx,a7,udi]
   ext
   exact congrArg (λ f=>some (HO.lst (ufd f _))) (funext λ i=>?_);cases numI ts ts.length (aa.getD i 0) ((aa.drop 1).getD i 0) <;> rfl
  let c7:cs.length<=40:=by
   rw[a7]
   ext
   exact uaj (ud4 _ _) ?_
   ext
   rw[uaa,c9];left
  let b9:∀ x∈cs,0<=x/\x<(ts.length:Nat):=λ x hx=>by
   rw[a7] at hx;obtain⟨i,_,e⟩:=ueb.mp hx;obtain⟨k2,e2,rfl⟩:=r6.mp e
   ext
   unfold numI at e2;let:=m8.mp (ua6 e2);left
  clear a7 bx;let ca:=S6.trans (S7.trans S8);let bo:=ca _ _ (ab _ _ jv.ea);exact⟨A,ta,kz,rfl,bo,by left,λ q1 J9 S9 f9 e9=>?_⟩
  ext
  exact⟨A,L1,cs,rfl,S9 _ _ bu,by left,λ q2 Ja Sa fa ea=>?_⟩
  ext
  have aL:=iL kz;have aW:=iL cs;have cD:=eQ aL (m:=ts.length) λ x hx=>a4 x ((cY _ x).mp hx);have cr:=eQ aW (m:=ts.length) λ x hx=>b9 x ((cY _ x).mp hx);refine⟨q1,q2,P,E,λ z=>(by rw[← z,e9] at fa;cases fa),Sa _ _ e9,ea,aL,aW,by left,λ bl cg n2 Jb Sb fb eb c3 m3=>?_⟩
  ext
  let ct:=eQ c3 (m:=ts.length) λ x hx=>by
   rcases (m3 x).mp hx with h | h
   ·exact a4 x ((cY _ x).mp h)
   ·exact b9 x ((cY _ x).mp h)
  exact⟨bl,_,A,eb,by left,λ ms m1 m2 co l3 Jc Sc fc bg=>⟨l3,_,rfl,bg,λ kp Jd Sd fd ed=>?_⟩⟩
  ext
  let av:=ca.trans (S9.trans (Sa.trans (Sb.trans (Sc.trans Sd))));exact⟨Z,(by show 3<=1000;decide),λ tq dd cq f6 g6=>ad (a6.trans (Same.but av)) (bj.same av) ed (av _ _ g5) (av _ _ (ab _ _ jv.ec)) (bk.tk λ _ _ e=>av _ _ e) (bi.tk λ _ _ e=>av _ _ e) (by left) ll (by left) cq g6⟩
 exact⟨C,A,?_⟩;rw[bU];let cO:=F.ea;by_cases c2:an=2
 ·rw[uhz c2]
  ext
  exact iteT ?_
  ext
  exact⟨Z,tc,A,F.ec,λ x1 J1 S1 g1=>?_⟩
  ext
  rw[aq] at g1;let ez:zs[k]?=some (zs[k]'(by left)):=d7 _;let eh:am[k]?=some (am[k]'(by left)):=d7 _;obtain⟨az,cu,iz⟩:=F.hz k _ _ eh ez;rw[cu] at ez;let cz:(am[k]'(by left)).length=n.toNat:=cd _ (udd _);generalize am[k]'(by left)=ck at eh iz cz;let bS:=p2.same S1;exact⟨Z,tc,V,SqT.of (S1 _ _ F.ec),bT (ua3 _) ez,p,az,ck,rfl,bS,S1 _ _ iz.1,by left,by left,λ t5 js J2 b4 p3 g2 dg=>⟨(by show 1<=1000;decide),λ x2 J3 S3 f3 g3=>?_⟩⟩
  ext
  let ar:=U b4 bS;exact⟨x1,x2,E,S3 _ _ (ar _ _ g1),g3,sz (by rw[o8,j6];left),λ x3 J4 S4 g4=>?_⟩
  ext
  let br:=S3.trans S4;exact⟨K,E,A,tc,A,br _ _ (ar _ _ (S1 _ _ F.ec)),λ x4 J5 S5 g5=>?_⟩
  ext
  rw[ao] at g5
  ext
  exact⟨x3,x4,E,S5 _ _ g4,g5,sz (by rw[i7,o8,m9,j6];left),λ x5 J6 S6 g6=>?_⟩
  ext
  let a3:=br.trans (S5.trans S6);let bQ:=aw.trans ((Same.but S1).trans (b4.trans (Same.but a3)));let ak:=p3.same a3;let a9:=U bQ ah;let b5:=ay.tk (λ a xs e=>a3 _ _ (ar _ _ (S1 _ _ e)));let cw:HtL J6 (am.take k++[js]++am.drop (k+1)) (zs.take k++[.ref t5]++zs.drop (k+1)):=((b5.take k).app (.one ⟨a3 _ _ g2,by left⟩)).app (b5.drop (k+1));exact⟨Z,(by show 3<=1000;decide),λ tq J7 S7 f7 g7=>ad bQ ak (a9 _ _ jv.ea) (a9 _ _ jv.eb) g6 (ax.tk (λ a xs e=>a3 _ _ (ar _ _ (S1 _ _ e)))) cw lk (by left) (by rw[i7,i7,o8,m9,j6];left) S7 g7⟩
 rw[uh1 c2]
 ext
 exact iteF ⟨C,A,?_⟩;rw[bU]
 ext
 by_cases c3:an=3
 ·rw[uhz c3]
  ext
  exact iteT ?_
  ext
  exact⟨K,g0,V,SqT.of (ac _ _ cL),rfl,g,A,.inr (SqT.of (ac _ _ hg)),E,p,A,p2,by left,by left,λ num J1 n0 cU bO cJ=>?_⟩
  ext
  let aI:=U bO p2;exact⟨A,ta,kz,rfl,aI _ _ F.ea,by left,λ q1 J9 S9 f9 e9=>?_⟩
  ext
  exact⟨A,(by show 1<=1000;decide),λ l5 J2 S2 f2 e2=>?_⟩
  ext
  let cG:J2 l5=some (.lst (([num]:List Int).map V.int)):=e2;exact⟨l5,[num],rfl,cG,(by show 1<=1000;decide),λ q2 Ja Sa fa ea=>?_⟩
  ext
  let aL:=iL kz;let aW:=iL [num];let cD:=eQ aL (m:=ts.length+1) λ x hx=>by let:=a4 x ((cY _ x).mp hx);left
  let cr:=eQ aW (m:=ts.length+1) λ x hx=>by
   let:=(cY _ x).mp hx;rw[u5] at this
   ext
   left
  refine⟨q1,q2,P,E,λ z=>(by rw[← z,S2 _ _ e9] at fa;cases fa),Sa _ _ (S2 _ _ e9),ea,aL,aW,by left,λ bl cg n2 Jb Sb fb eb cb m3=>?_⟩
  ext
  let ct:=eQ cb (m:=ts.length+1) λ x hx=>by
   let z:=(m3 x).mp hx;by_cases h1:HT.setS kz kz.length x=true
   ·let:=a4 x ((cY _ x).mp h1);left
   ·by_cases h2:HT.setS [num] [num].length x=true
    ·let:=(cY _ x).mp h2;rw[u5] at this
     ext
     left
    ·exact absurd ⟨λ w=>absurd w h1,λ w=>absurd w h2⟩ z
  exact⟨bl,_,A,eb,by left,λ ms m1 m2 co l3 Jc Sc fc bg=>⟨l3,_,rfl,bg,λ kp Jd Sd fd ed=>?_⟩⟩
  ext
  let a5:=S9.trans (S2.trans (Sa.trans (Sb.trans (Sc.trans Sd))));let bz:=aw.trans (bO.trans (Same.but a5));let bw:=U bz ah;exact⟨Z,(by show 3<=1000;decide),λ tq J7 S7 f7 g7=>ad bz (cJ.same a5) ed (bw _ _ jv.eb) (bw _ _ jv.ec) (ax.tk λ _ _ e=>a5 _ _ (aI _ _ e)) (ay.tk λ _ _ e=>a5 _ _ (aI _ _ e)) (by left) (by left) (by left) S7 g7⟩
 rw[uh1 c3]
 ext
 exact iteF ⟨C,A,?_⟩;rw[bU]
 ext
 by_cases c4:an=4
 ·rw[uhz c4]
  ext
  exact iteT ?_
  ext
  exact⟨Z,tb,A,F.eb,λ x1 J1 S1 g1=>?_⟩
  ext
  rw[aq] at g1
  ext
  exact⟨K,E,A,tb,A,S1 _ _ F.eb,λ x2 J2 S2 g2=>?_⟩
  ext
  rw[ao] at g2
  ext
  exact⟨x1,x2,E,S2 _ _ g1,g2,sz (by rw[o8,m9];left),λ x3 J3 S3 g3=>?_⟩
  ext
  let ai:=S1.trans (S2.trans S3);exact⟨Z,tb,A,ai _ _ F.eb,λ x4 J4 S4 g4=>?_⟩
  ext
  rw[cut1] at g4;let al:=ai.trans S4;exact⟨tb,x4,E,al _ _ F.eb,g4,sz (by rw[o8];left),λ x5 J5 S5 g5=>?_⟩
  ext
  exact⟨(by show 2<=1000;decide),λ l6 J6 S6 f6 g6=>?_⟩
  ext
  let ae:=al.trans (S5.trans S6);let ak:=p2.same ae;let n6:=ba (p2.same (al.trans S5)) f6;exact⟨A,p,2,rfl,ak,by decide,by decide,λ r7 J7 ci cy b7 p7=>?_⟩
  ext
  let af:=U b7 ak;let g7:=b7 _ _ n6 g6;let aj:=aw.trans ((Same.but ae).trans b7);let O:=U aj ah;let w7:=ax.tk λ a xs e=>af _ _ (ae _ _ e);let h7:=ay.tk λ a xs e=>af _ _ (ae _ _ e);let bc:=af _ _ (S6 _ _ (S5 _ _ (S4 _ _ g3)));let be:=af _ _ (S6 _ _ g5);let:r7=0\/r7=1:=by left
  rcases this with rfl | rfl
  ·exact⟨l6,V,SqL.of g7,rfl,Z,(by show 3<=1000;decide),λ tq J8 S8 f8 g8=>ad aj p7 (O _ _ jv.ea) bc (O _ _ jv.ec) ((w7.take k).app (w7.drop (k+1))) h7 lk (by rw[i7,o8,m9];left) (by left) S8 g8⟩
  ·exact⟨l6,V,SqL.of g7,rfl,Z,(by show 3<=1000;decide),λ tq J8 S8 f8 g8=>ad aj p7 (O _ _ jv.ea) be (O _ _ jv.ec) (w7.app (w7.take 1)) h7 lk (by rw[i7,o8];left) (by left) S8 g8⟩
 rw[uh1 c4]
 ext
 exact iteF ?_
 ext
 exact⟨Z,tc,A,F.ec,λ x1 J1 S1 g1=>?_⟩
 ext
 rw[aq] at g1
 ext
 exact⟨K,E,A,tc,A,S1 _ _ F.ec,λ x2 J2 S2 g2=>?_⟩
 ext
 rw[ao] at g2
 ext
 exact⟨x1,x2,E,S2 _ _ g1,g2,sz (by rw[o8,m9];left),λ x3 J3 S3 g3=>?_⟩
 ext
 let ai:=S1.trans (S2.trans S3);exact⟨Z,tc,A,ai _ _ F.ec,λ x4 J4 S4 g4=>?_⟩
 ext
 rw[cut1] at g4;let al:=ai.trans S4;exact⟨tc,x4,E,al _ _ F.ec,g4,sz (by rw[o8];left),λ x5 J5 S5 g5=>?_⟩
 ext
 exact⟨(by show 2<=1000;decide),λ l6 J6 S6 f6 g6=>?_⟩
 ext
 let ae:=al.trans (S5.trans S6);let ak:=p2.same ae;let n6:=ba (p2.same (al.trans S5)) f6;exact⟨A,p,2,rfl,ak,by decide,by decide,λ r7 J7 ci cy b7 p7=>?_⟩
 ext
 let af:=U b7 ak;let g7:=b7 _ _ n6 g6;let aj:=aw.trans ((Same.but ae).trans b7);let O:=U aj ah;let w7:=ax.tk λ a xs e=>af _ _ (ae _ _ e);let h7:=ay.tk λ a xs e=>af _ _ (ae _ _ e);let bc:=af _ _ (S6 _ _ (S5 _ _ (S4 _ _ g3)));let be:=af _ _ (S6 _ _ g5);let:r7=0\/r7=1:=by left
 rcases this with rfl | rfl
 ·exact⟨l6,V,SqL.of g7,rfl,Z,(by show 3<=1000;decide),λ tq J8 S8 f8 g8=>ad aj p7 (O _ _ jv.ea) (O _ _ jv.eb) bc w7 ((h7.take k).app (h7.drop (k+1))) lk (by left) (by rw[i7,o8,m9];left) S8 g8⟩
 ·exact⟨l6,V,SqL.of g7,rfl,Z,(by show 3<=1000;decide),λ tq J8 S8 f8 g8=>ad aj p7 (O _ _ jv.ea) (O _ _ jv.eb) be w7 (h7.app (h7.take 1)) lk (by left) (by rw[i7,o8];left) S8 g8⟩
theorem qL {ts:List Tie}{prs:List (Nat × Nat)}{i:Nat}{ws:List Nat}(h:(wysN ts prs).getD i none=some ws):∃ pr,prs[i]?=some pr/\wyN ts pr.1 pr.2=some ws:=by
 rw[c8] at h;unfold wysN at h;rw[j0] at h;cases e:prs[i]? with
 | none=>rw[e] at h;cases h
 | some pr=>rw[e] at h;exact⟨pr,rfl,h⟩
theorem zai {n:Int}{ts:List Tie}(ok:WebOk n ts){prs:List (Nat × Nat)}(hp:∀ pr∈prs,pr.1<n.toNat/\pr.2<n.toNat){i:Nat}{ws:List Nat}(h:(wysN ts prs).getD i none=some ws):ws.Nodup/\linked ts ws:=by
 obtain⟨pr,hi,e⟩:=qL h;let b:=hp pr (ual hi);exact⟨(jI e).nodup,?_⟩;cases d:dG ts pr.1 pr.2 with
 | none=>rw[rF ok d] at e;cases e
 | some x =>
  obtain⟨z,q,tr⟩:=rG ok b.2 d;rw[e] at q;cases q;exact (gA ok (bX ts) tr).2
theorem zdh {n:Int}{ts:List Tie}(ok:WebOk n ts){prs:List (Nat × Nat)}(hp:∀ pr∈prs,pr.1<n.toNat/\pr.2<n.toNat):∀ k∈(wysN ts prs).flatMap (awN ts),k<ts.length:=λ k q=>by
 obtain⟨o,z,q⟩:=ub7.mp q;obtain⟨i,hi⟩:=uci.mp z;cases o with
 | none=>cases q
 | some ws=>exact hV (zai ok hp (i:=i) (by rw[c8,hi];rfl)).2 k q
theorem zdi {n:Int}{ts:List Tie}(ok:WebOk n ts){prs:List (Nat × Nat)}(hp:∀ pr∈prs,pr.1<n.toNat/\pr.2<n.toNat){i:Nat}{pr:Nat × Nat}{ws:List Nat}(hi:prs[i]?=some pr)(e:wyN ts pr.1 pr.2=some ws):∀ k∈alongN ts ws,k∈twK ts (wysN ts prs):=λ k q =>
 (jU (zdh ok hp) k).mpr (ub7.mpr ⟨some ws,w8.mpr ⟨pr,ual hi,e⟩,q⟩)
theorem yF {n:Int}{ts:List Tie}(ok:WebOk n ts){prs:List (Nat × Nat)}(hp:∀ pr∈prs,pr.1<n.toNat/\pr.2<n.toNat):prsJ n ts prs (keepI (twK ts (wysN ts prs))) ‹116› (prs.map λ pr=>htP n ts pr.1)=true:=by
 let l1:‹116›.length=prs.length:=by unfold wysN;rw[c9,c9]
 let em:‹116›.map natO=wysN ts prs:=by
  rw[ua0];exact (ua2 λ o _=>?_).trans (uda _);cases o with
  | none=>rfl
  | some ws=>exact congrArg some (jE ws)
 unfold prsJ;rw[lP (dB _ _),uhz l1,uhz (c9 _),em,uhz rfl,uef,udr,udr,udr];unfold allJ;rw[jE];exact v8.mpr λ i hi=>?_;let hi:=m8.mp hi;let F:prs[i]?=some prs[i]:=d7 hi;let b:=hp _ (ual F);rw[show prs.getD i (0,0)=prs[i] by rw[c8,F];rfl,show (prs.map λ pr=>htP n ts pr.1).getD i []=htP n ts prs[i].1 by rw[c8,j0,F];rfl,show ‹116›.getD i none=(wyN ts prs[i].1 prs[i].2).map keepI by unfold wysN;rw[c8,j0,j0,F];rfl];generalize prs[i]=pr at F b;let z:holdB n ts ‹39› (htP n ts pr.1)=true:=zbq (s:=pr.1) ok (bX ts) (kF n ts pr.1) λ v hv=>by rw[zc9 hv];exact eE ok pr.1 v
 let q:riseI pr (htP n ts pr.1)=capO (10^20) (dG ts pr.1 pr.2):=by
  unfold riseI;rw[qV b.2,qV b.1,zc8 ok,pE,uh3 (by decide)];left
 cases d:dG ts pr.1 pr.2 with
 | none =>
  rw[rF ok d];show (holdB n ts ‹39› (htP n ts pr.1)&&decide (10^20<=riseI pr (htP n ts pr.1)))=true;rw[z,q,d,uhz (show (10:Int)^20<=capO (10^20) none from ubl _)];rfl
 | some x =>
  obtain⟨ws,e,tr⟩:=rG ok b.2 d;obtain⟨m,O,_⟩:=zb1 ok (dB _ _) e tr d (zdi ok hp F e);let U:=yI ok (dB ts (wysN ts prs)) b.1 m O;let top:=zeh ok b.1 d;rw[e];show (holdB n ts ‹39› (htP n ts pr.1)&&(leadsI n ts (twK ts (wysN ts prs)) pr.1 pr.2 (keepI ws)&&decide (riseI pr (htP n ts pr.1)=(rightI n ts (twK ts (wysN ts prs)) (keepI ws)).getD 0)))=true;let ends:=zan tr;unfold leadsI;rw[z,q,d,U,pE,uh3 (by left),ends.1,ends.2,uhz rfl,uhz rfl];simp
theorem zb4 {n:Int}{ts:List Tie}{prs:List (Nat × Nat)}{t ta tb tc:o7}{ys zs:List V}{H:Hp}(ok:WebOk n ts)(pok:PrsOk n prs)(pv:PtV n ts prs t ta tb tc ys zs H):PpV H (keepI (twK ts (wysN ts prs))) ‹116› (prs.map λ pr=>htP n ts pr.1) t ta tb tc ys zs:=by
 let lw:(wysN ts prs).length=prs.length:=by unfold wysN;rw[c9]
 let O:=pok.1;let ab:=ok.n24;exact⟨pv.e,by rw[pv.ea,cG],pv.eb,pv.ec,by rw[c9,lw];exact pv.ly,by rw[c9];exact pv.lz,λ i o v z F=>?_,λ i hs v z F=>?_,?_,by rw[c9,lw];left,by rw[c9];left⟩
 ·rw[j0] at z;obtain⟨o',q,rfl⟩:=r6.mp z;unfold wysN at q;rw[j0] at q;obtain⟨pr,h1,rfl⟩:=r6.mp q;rcases pv.wy i pr v h1 F with ⟨e,rfl⟩ | ⟨tw,ws,e,rfl,e2,aa,_⟩
  ·exact .inl ⟨by rw[e];rfl,rfl⟩
  ·exact .inr ⟨tw,keepI ws,by rw[e];rfl,rfl,⟨by rw[e2,cG],by unfold keepI;rw[c9];left⟩,by unfold keepI;rw[c9];left⟩
 ·rw[j0] at z;obtain⟨pr,h1,rfl⟩:=r6.mp z;obtain⟨a,U,e2⟩:=pv.hz i pr v h1 F;exact⟨a,U,e2,by rw[qB];left⟩
 ·let:=(dB ts (wysN ts prs)).len;let:=ok.few;unfold keepI;rw[c9];left
inductive spLaw_i (K:b8)(vs:List V)(H:Hp)(Q:VK):Prop
 | mk:∀ (a:o7)(ns:List Int),(vs=[.ref a])->(SqL K H a ‹67›)->(ns.length<=63)->(∀ H',Q (.bl true) H')->spLaw_i K vs H Q
def spLaw (K:b8):Sp:=λ vs H Q _=>spLaw_i K vs H Q
theorem zbf (prs:List (Nat × Nat)):udz (.tuple (prs.map prD)) (.tuple [])=decide (prs=[]):=by
 cases prs with
 | nil=>rfl
 | cons d ds=>rfl
theorem pY:∀ prs:List (Nat × Nat),udl (prs.map prD)=true
 | []=>rfl
 | pr::r=>by
  show (uf7 (prD pr)&&udl (r.map prD))=true;rw[pY r,uef];exact cL [(pr.1:Int),(pr.2:Int)]
theorem zd1 {f:o7}{fd:FuncData}(T:Bi mg)(F:Fun K "law" "law" s_law f fd)(O__law_pot:‹7› "_law_pot" ["script","k"] (spPot K))(O__law_web:‹7› "_law_web" ["pot","most"] (spWeb K))
  (O__law_pairs:‹7› "_law_pairs" ["pot","n"] (spLPairs K)) (O_pairs_told:‹7› "pairs_told" ["web","pairs"] (spPT K)) (O_pairs_right:‹7› "pairs_right" ["web","pairs","told"] (spPRJ K)) (O__law_changed:‹7› "_law_changed" ["pot","web","pairs","told"] (spLC49 K)) (O__law_told_right:‹7› "_law_told_right" ["web","pairs","told"] (spTR49 K)):FnOk P w K mg base CX0 8 f fd ["script"] (spLaw K):=by
 exact F.ok (k:=7) sc_law (λ vs H Q E h=>?_) (λ cdv A outer s H vs Q E hr h=>?_)
 ·obtain⟨a,ns,rfl,_⟩:=h;rfl
 obtain⟨a,ns,rfl,hS,ba,q⟩:=h;let nd:=sc_law.nd;let units:∀ {x:Nat},x<=4->(A.deeper (envOfC "law" (defScope s_law) ‹128› f cdv)).units+x<cLine:=λ {x} hu=>by let:=hr.units;left
 let hl:‹67›.length=ns.length:=c9 _;exact⟨_,(aD (bW PassesOwn.never rfl (dR rfl T.z_range (aA (aP (jG rfl) rfl T.z_max (by symm) (aA aC (aA (aP (jF rfl) rfl T.z_min (by symm) (aA aC (aA (aP bD rfl T.z_len (by symm) (aA (pv 0) aB)) aB))) aB))) aB)) (aK (i:=1) nd rfl (t6 rfl)) (aD (aN (i:=2) nd rfl (t6 rfl) (aH O__law_pot hr rfl ‹88›)) (aD (aN (i:=3) nd rfl (t6 rfl) (aH O__law_web hr rfl (aA (pv 2) (aA aC aB)))) (aD (aN (i:=4) nd rfl (t6 rfl) (aH O__law_pairs hr rfl (aA (pv 2) (aA (aG aR (pv 3) aC ‹34›) aB)))) (aD (aN (i:=5) nd rfl (t6 rfl) (aH O_pairs_told hr rfl (aA (pv 3) (aA (pv 4) aB)))) (aD (aS (aO yU (aH O_pairs_right hr rfl (aA (pv 3) (aA (pv 4) (aA (pv 5) aB)))) bK (nomark _)) (aE (aJ bK)) aT) (aE (bW PassesOwn.never rfl (dR rfl T.z_range (aA (aF fX aC (bA zZ rfl T.z_int (by symm) (aA (aZ fW (pv 4) (bC aB) (nomark _)) aB))) aB)) (aK (i:=6) nd rfl (t6 rfl)) (aD (aN (i:=7) nd rfl (t6 rfl) (aH O__law_changed hr rfl (aA (pv 2) (aA (pv 3) (aA (pv 4) (aA (pv 5) aB)))))) (aD (aN (i:=8) nd rfl (t6 rfl) (aH O_pairs_right hr rfl (aA (pv 3) (aA (pv 4) (aA (pv 7) aB))))) (aE (aS (PW.pt (cQ (cO (cA (aP (dU (n:="bool")) rfl T.z_isinstance (by symm) (aA (pv 8) (aA (dZ (v:=.ty "bool") rfl T.z_bool (by symm) rfl) aB))))) (dC (aO eF (pv 8) (aH O__law_told_right hr rfl (aA (pv 3) (aA (pv 4) (aA (pv 7) aB)))) (nomark _))))) (aE (aJ bK)) aT)))))))))))) (aE (aJ bK))),?_⟩;exact⟨A,a,A,.inl hS,_,A,_,K,?_,?_,?_⟩
 ·split <;> split <;> left
 ·rw[hl];split <;> split <;> left
 generalize hj:(if (if ((‹67›.length:Nat):Int)<8 then ((‹67›.length:Nat):Int) else 8)>1 then (if ((‹67›.length:Nat):Int)<8 then ((‹67›.length:Nat):Int) else 8) else 1)=j;have bb:j<=8:=by rw[← hj];split <;> split <;> left
 exact dE (n:=j.toNat) (λ i σ H'=>∃ xs:List (Option V),xs.length=8/\σ=some (.ref a)::xs/\Same H H') ⟨v6 8 none,rfl,rfl,Same.refl H⟩ ?turn (λ σ H' _=>q H');rintro i_ σ H0 hi ⟨xs,a1,rfl,s0⟩;obtain⟨x1,x2,x3,x4,x5,x6,x7,x8,rfl⟩:∃ x1 x2 x3 x4 x5 x6 x7 x8:Option V,xs=[x1,x2,x3,x4,x5,x6,x7,x8]:=by
  match xs,a1 with
  | [x1,x2,x3,x4,x5,x6,x7,x8],_=>exact⟨x1,x2,x3,x4,x5,x6,x7,x8,rfl⟩
 exact⟨K,a,_,ns,rfl,s0.seq hS,by left,by left,λ l H1 s1 fl p1=>?_⟩;let aI:Same H H1:=s0.trans s1;let ao:H l=none:=s0.free fl;exact⟨A,l,9,rfl,p1,by decide,by decide,λ wv H2 n ts b3 p4 ok _ aj=>?_⟩;let aw:=ok.few;let n1:=ok.n1;let az:=ok.n24;let ah:∀ {J J':Hp},But l J J'->Pot J l->TupKeep J J':=λ b pp=>by
  obtain⟨xs,e⟩:=pp.lst;exact λ a ys h=>b _ _ (λ z=>by rw[z,e] at h;cases h) h
 let a2:∀ {J J':Hp},TupKeep J J'->Is K J (webD n ts) wv->Is K J' (webD n ts) wv:=λ k h=>Is.tk k _ (fM n ts) h;obtain⟨g0,g,ws,rfl,a4,hg,a5,be⟩:=bY aj;exact⟨K,g0,V,SqT.of a4,rfl,l,n,rfl,p4,n1,az,λ tp ps prs H3 b4 p5 e4 U O=>?_⟩;let a3:=ah b4 p4;let af:Is K H3 (webD n ts) (.ref g0):=a2 a3 aj;let bf:=O.1;let bd:ps.length=prs.length:=by rw[U.length,c9]
 let SH:Same H H3:=λ b o e=>by
  let nl:=aW e ao;exact b4 _ _ nl (b3 _ _ nl (aI _ _ e))
 exact⟨K,n,ts,_,tp,ps,prs,rfl,af,ok,e4,U,O,λ t ta tb tc ys zs J8 S8 pv=>?_⟩;let jv:=zb4 ok O pv;exact⟨Z,n,ts,_,tp,ps,prs,P,_,t,ta,tb,tc,ys,zs,rfl,Is.same S8 _ af,ok,S8 _ _ e4,IsAll.same S8 _ U,O,jv,λ J9 S9=>?_⟩;rw[yF ok O.2];exact⟨E,A,iteF ?_⟩;let ay:=jv.same S9;let ab:=S8.trans S9;let p9:=p5.same ab;exact⟨A,(by show 0<=1000;decide),λ te JA SA fA eA=>?_⟩;let d1:Is K JA (.tuple (prs.map prD)) (.ref tp):=⟨tp,A,SA _ _ (ab _ _ e4),IsAll.same (ab.trans SA) _ U⟩;let d2:Is K JA (.tuple []) (.ref te):=⟨te,A,eA,rfl⟩;exact⟨P,d1,d2,pY prs,rfl,units (uaj (uer _ _) (by decide)),.inr ⟨A,?_⟩⟩;rw[zbf prs];exact⟨E,.inl ⟨by decide,by decide⟩,A,by split <;> decide,by split <;> decide,?_⟩;let pA:=p9.same SA;let aQ:=ay.same SA;let am:=ab.trans SA;exact dE (n:=((10:Int)*(if (!decide (prs=[]))=true then 1 else 0)).toNat) (λ i σ J=>∃ y6 y7 y8:Option V,σ=[some (.ref a),some (.int (0+(i_:Int))),some (.ref l),some (.ref g0),some (.ref tp),some (.ref t),y6,y7,y8]/\But l JA J/\Pot J l) ⟨_,_,_,rfl,But.refl,pA⟩ (λ i σ J hi h=>?_) (λ σ J h=>?_)
 ·obtain⟨y6,y7,y8,rfl,bt,pt⟩:=h;let ne:prs≠[]:=λ z=>by
   rw[z] at hi;exact absurd hi (ueg _)
  let ar:=ah bt pA;let aa:TupKeep H3 J:=λ a xs e=>ar _ _ (am _ _ e);let al:=Is.tk aa _ (fM n ts) af;let eJ:=aa _ _ e4;let ac:=IsAll.tk (K:=K) aa _ (eM prs) U;let aL:=aQ.tk ar;let aU:(wysN ts prs).length=prs.length:=by unfold wysN;rw[c9]
  exact⟨K,K,l,n,ts,_,tp,ps,prs,P,_,t,ta,tb,tc,ys,zs,rfl,pt,al,ok,eJ,ac,O,ucc.mpr ne,aL,by rw[c9,aU],c9 _,λ x hx=>?_,λ a0 hw=>?_,λ hs hh=>?_,λ t' ap ai ak au av a7 a8 a6 J' b' p' an=>?_⟩
  ·unfold keepI at hx;obtain⟨c,hc,rfl⟩:=w8.mp hx;let:=(dB ts (wysN ts prs)).2 c hc;left
  ·obtain⟨o,ho,e⟩:=w8.mp hw;obtain⟨i,hi⟩:=uci.mp ho;cases o with
   | none=>cases e
   | some us =>
    let e:=uaz e;let e':a0=keepI us:=e.symm;obtain⟨pr,h1,h2⟩:=qL (i:=i) (ws:=us) (by rw[c8,hi];rfl);let ax:=(j9.mp h1).1;let wy:=pv.wy i pr _ h1 (d7 (by rw[pv.ly];exact ax));obtain⟨S,x,y,r,_⟩:=jI h2;let:=r.len;rw[e'];unfold keepI;rw[c9];rcases wy with ⟨z,_⟩ | ⟨tw,bc,z,_,_,a9,_⟩
    ·rw[h2] at z;cases z
    ·rw[h2] at z;cases z;left
  ·obtain⟨pr,_,rfl⟩:=w8.mp hh;exact qB n ts pr.1
  let ae:=ah b' pt;let aq:=Is.tk ae _ (fM n ts) al;let e':=ae _ _ eJ;let ad:=IsAll.tk (K:=K) ae _ (eM prs) ac;exact⟨Z,n,ts,_,tp,ps,prs,P,_,t',ap,ai,ak,au,av,rfl,aq,ok,e',ad,O,an,λ J2 S2=>?_⟩;rw[zc0 ok];exact⟨A,P,A,TyOf.bl _,X,iteF ?_⟩;exact⟨K,K,n,ts,_,tp,ps,prs,P,_,t',ap,ai,ak,au,av,rfl,Is.same S2 _ aq,ok,S2 _ _ e',IsAll.same S2 _ ad,O,an.same S2,λ J3 S3=>?_⟩;exact⟨X,?_⟩;rw[uhz rfl];exact iteF ⟨P,A,bt.trans (b'.trans (Same.but (S2.trans S3))),p'.same (S2.trans S3)⟩
 ·obtain⟨y6,y7,y8,rfl,bt,pt⟩:=h;exact⟨C,λ b o e=>bt _ _ (aW e ao) (am _ _ (SH _ _ e))⟩
end
end Me
namespace Me
open PySem PySem.Spec PyProof.Rows L2 L3
abbrev Bdq (x:Str)(st:ud3)(ps:List Str):Prop:=∀ (kV doc pm:i5)(an:Option o7)(cdv ct:i5)(us:List i5),us.length=ps.length->bindArgs ‹80› ⟨us,[]⟩=pure (ps.zip us)
theorem zeg {K:b8}{h:Heap}{mg:Str->Option i5}{x:Str}{st:ud3}{ps:List Str}{f:o7}{od an:Option o7}{sl:Array (Option i5)}{oc kV dc pm cd ct:i5}(X:K.In h)(G:h.Ns uad mg)
  (b:∀ (kV doc pm:i5)(an:Option o7)(cdv ct:i5)(us:List i5),us.length=ps.length->bindArgs ‹80› ⟨us,[]⟩=pure (ps.zip us))
  (a:ua9 K uad x=some (some (.ref f))) (l:K.lookup f=some ⟨oc,od,.func (uc1 x x (defArgs st) (defBody st) (defScope st) .none kV dc pm an cd ct),sl⟩) (c:ue5 K cd x=true) (k:ueh K (.ref f)=true):DefOk K mg x st ps:=by
 let F:=qW (st:=st) l c k;exact⟨f,_,F,F.binds b,PySem.W.mg_of X G a⟩
theorem dq {p:o9}{K:b8}{h:Heap}{mg:Str->Option i5}{x:Str}{st:ud3}{ps:List Str}(f c j u:Nat)(X:K.In h)(G:h.Ns uad mg)
  (b:∀ (kV doc pm:i5)(an:Option o7)(cdv ct:i5)(us:List i5),us.length=ps.length->bindArgs ‹80› ⟨us,[]⟩=pure (ps.zip us))
  (a:ua9 K uad x=some (some (.ref f)):=by kernel_rfl) (l:K.lookup f=some ⟨.type "function",none,.func (uc1 x x (defArgs st) (defBody st) (defScope st) .none .none .none (Hx.mdV p ⟨0,0,0,j,u,0⟩) none (.ref c) .none),#[]⟩:=by kernel_rfl) (cc:ue5 K (.ref c) x=true:=by kernel_rfl) (k:ueh K (.ref f)=true:=by kernel_rfl):DefOk K mg x st ps:=zeg X G b a l cc k
theorem wL:Bdq "is_whole" s_is_whole ["thing"]:=by ac_rfl
theorem vM:Bdq "is_wholes" s_is_wholes ["thing"]:=by ac_rfl
theorem vN:Bdq "is_rising" s_is_rising ["parts"]:=by ac_rfl
theorem uD:Bdq "is_tuple_of" s_is_tuple_of ["thing","many"]:=by ac_rfl
theorem wM:Bdq "is_place" s_is_place ["web","thing"]:=by ac_rfl
theorem sP:Bdq "is_tie_number" s_is_tie_number ["web","thing"]:=by ac_rfl
theorem xQ:Bdq "is_keep" s_is_keep ["web","thing"]:=by ac_rfl
theorem zbr:Bdq "whole" s_whole ["web"]:=by ac_rfl
theorem uB:Bdq "tie_between" s_tie_between ["web","a","b"]:=by ac_rfl
theorem rV:Bdq "are_unlike_places" s_are_unlike_places ["web","thing"]:=by ac_rfl
theorem uT:Bdq "ties_along" s_ties_along ["web","places"]:=by ac_rfl
theorem vK:Bdq "way_right" s_way_right ["web","keep","way"]:=by ac_rfl
theorem sO:Bdq "leads_between" s_leads_between ["web","keep","a","b","way"]:=by ac_rfl
theorem uS:Bdq "way_length" s_way_length ["web","way"]:=by ac_rfl
theorem uA:Bdq "tie_weights" s_tie_weights ["web"]:=by ac_rfl
theorem vP:Bdq "cost_with" s_cost_with ["cost","length","weight"]:=by ac_rfl
theorem tE:Bdq "reached_from" s_reached_from ["web","keep","root"]:=by ac_rfl
theorem vO:Bdq "fars_from" s_fars_from ["web","keep","root"]:=by ac_rfl
theorem vL:Bdq "tree_from" s_tree_from ["web","keep","root"]:=by ac_rfl
theorem xP:Bdq "the_way" s_the_way ["web","keep","a","b"]:=by ac_rfl
theorem zac:Bdq "across" s_across ["web","tie","heights"]:=by ac_rfl
theorem tG:Bdq "heights_hold" s_heights_hold ["web","keep","heights"]:=by ac_rfl
theorem tH:Bdq "heights_from" s_heights_from ["web","keep","a","roof"]:=by ac_rfl
theorem tZ:Bdq "web_heights" s_web_heights ["web","place"]:=by ac_rfl
theorem tF:Bdq "out_of_reach" s_out_of_reach ["height"]:=by ac_rfl
theorem tD:Bdq "ties_of_ways" s_ties_of_ways ["web","ways"]:=by ac_rfl
theorem uU:Bdq "pairs_told" s_pairs_told ["web","pairs"]:=by ac_rfl
theorem uV:Bdq "pair_right" s_pair_right ["web","keep","pair","way","heights"]:=by ac_rfl
theorem uC:Bdq "pairs_right" s_pairs_right ["web","pairs","told"]:=by ac_rfl
theorem wO:Bdq "_law_pot" s__law_pot ["script","k"]:=by ac_rfl
theorem vR:Bdq "_law_take" s__law_take ["pot","many"]:=by ac_rfl
theorem uE:Bdq "_law_length" s__law_length ["pot","way"]:=by ac_rfl
theorem vQ:Bdq "_law_tied" s__law_tied ["pot","n","style","a","b"]:=by ac_rfl
theorem uX:Bdq "_law_order" s__law_order ["pot","many"]:=by ac_rfl
theorem wN:Bdq "_law_web" s__law_web ["pot","most"]:=by ac_rfl
theorem uW:Bdq "_law_pairs" s__law_pairs ["pot","n"]:=by ac_rfl
theorem tK:Bdq "_law_lengths" s__law_lengths ["web"]:=by ac_rfl
theorem sI:Bdq "_law_way_right" s__law_way_right ["web","pair","way","heights"]:=by ac_rfl
theorem rZ:Bdq "_law_told_right" s__law_told_right ["web","pairs","told"]:=by ac_rfl
theorem sK:Bdq "_law_other_way" s__law_other_way ["pot","web","pair","way"]:=by ac_rfl
theorem rS:Bdq "_law_other_heights" s__law_other_heights ["pot","heights"]:=by ac_rfl
theorem tL:Bdq "_law_changed" s__law_changed ["pot","web","pairs","told"]:=by ac_rfl
theorem zc1 {P:o9}{w:uaw}{K:b8}{mg:Str->Option i5}{base:Heap}{f:o7}{fd:FuncData}(T:Bi mg)
  (D_is_whole:DefOk K mg "is_whole" s_is_whole ["thing"])
  (D_is_wholes:DefOk K mg "is_wholes" s_is_wholes ["thing"])
  (D_is_rising:DefOk K mg "is_rising" s_is_rising ["parts"])
  (D_is_tuple_of:DefOk K mg "is_tuple_of" s_is_tuple_of ["thing","many"])
  (D_is_place:DefOk K mg "is_place" s_is_place ["web","thing"])
  (D_is_tie_number:DefOk K mg "is_tie_number" s_is_tie_number ["web","thing"])
  (D_is_keep:DefOk K mg "is_keep" s_is_keep ["web","thing"])
  (D_whole:DefOk K mg "whole" s_whole ["web"])
  (D_tie_between:DefOk K mg "tie_between" s_tie_between ["web","a","b"])
  (D_are_unlike_places:DefOk K mg "are_unlike_places" s_are_unlike_places ["web","thing"])
  (D_ties_along:DefOk K mg "ties_along" s_ties_along ["web","places"])
  (D_way_right:DefOk K mg "way_right" s_way_right ["web","keep","way"])
  (D_leads_between:DefOk K mg "leads_between" s_leads_between ["web","keep","a","b","way"])
  (D_way_length:DefOk K mg "way_length" s_way_length ["web","way"])
  (D_tie_weights:DefOk K mg "tie_weights" s_tie_weights ["web"])
  (D_cost_with:DefOk K mg "cost_with" s_cost_with ["cost","length","weight"])
  (D_reached_from:DefOk K mg "reached_from" s_reached_from ["web","keep","root"])
  (D_fars_from:DefOk K mg "fars_from" s_fars_from ["web","keep","root"])
  (D_tree_from:DefOk K mg "tree_from" s_tree_from ["web","keep","root"])
  (D_the_way:DefOk K mg "the_way" s_the_way ["web","keep","a","b"])
  (D_across:DefOk K mg "across" s_across ["web","tie","heights"])
  (D_heights_hold:DefOk K mg "heights_hold" s_heights_hold ["web","keep","heights"])
  (D_heights_from:DefOk K mg "heights_from" s_heights_from ["web","keep","a","roof"])
  (D_web_heights:DefOk K mg "web_heights" s_web_heights ["web","place"])
  (D_out_of_reach:DefOk K mg "out_of_reach" s_out_of_reach ["height"])
  (D_ties_of_ways:DefOk K mg "ties_of_ways" s_ties_of_ways ["web","ways"])
  (D_pairs_told:DefOk K mg "pairs_told" s_pairs_told ["web","pairs"])
  (D_pair_right:DefOk K mg "pair_right" s_pair_right ["web","keep","pair","way","heights"])
  (D_pairs_right:DefOk K mg "pairs_right" s_pairs_right ["web","pairs","told"])
  (D__law_pot:DefOk K mg "_law_pot" s__law_pot ["script","k"])
  (D__law_take:DefOk K mg "_law_take" s__law_take ["pot","many"])
  (D__law_length:DefOk K mg "_law_length" s__law_length ["pot","way"])
  (D__law_tied:DefOk K mg "_law_tied" s__law_tied ["pot","n","style","a","b"])
  (D__law_order:DefOk K mg "_law_order" s__law_order ["pot","many"])
  (D__law_web:DefOk K mg "_law_web" s__law_web ["pot","most"])
  (D__law_pairs:DefOk K mg "_law_pairs" s__law_pairs ["pot","n"])
  (D__law_lengths:DefOk K mg "_law_lengths" s__law_lengths ["web"])
  (D__law_way_right:DefOk K mg "_law_way_right" s__law_way_right ["web","pair","way","heights"])
  (D__law_told_right:DefOk K mg "_law_told_right" s__law_told_right ["web","pairs","told"])
  (D__law_other_way:DefOk K mg "_law_other_way" s__law_other_way ["pot","web","pair","way"])
  (D__law_other_heights:DefOk K mg "_law_other_heights" s__law_other_heights ["pot","heights"])
  (D__law_changed:DefOk K mg "_law_changed" s__law_changed ["pot","web","pairs","told"])
  (F:Fun K "law" "law" s_law f fd):FnOk P w K mg base CX0 8 f fd ["script"] (spLaw K):=by
 let q:=vE (P:=P) (w:=w) (base:=base) T D__law_take;let a1:=wD (P:=P) (w:=w) (base:=base) T D__law_pot;let ax:=tT T D__law_length q;let aO:=vD T D__law_tied q;let aB:=uN T D__law_order q;let a0:=wC T D__law_web (q.mono (by decide)) aB aO ax;let aw:=za1 (P:=P) (w:=w) (base:=base) T D_whole;let av:=tQ (P:=P) (w:=w) (base:=base) T D_tie_between;let O:=tO T D_ties_along av;let aG:=O.imp zbv;let ay:=tP (P:=P) (w:=w) (base:=base) T D_tie_weights;let aT:=vC (P:=P) (w:=w) (base:=base) T D_cost_with
 let U:=sL T D_reached_from ay aT;let ao:‹2› "reached_from" ["web","keep","root"] (spReached K):=U.imp yK;let ai:‹2› "reached_from" ["web","keep","root"] (spReachedB K):=U.imp yL;let aL:=vB T D_fars_from ao;let aN:=uK T D_tree_from ai;let aW:=vZ T D_the_way aN;let a3:‹4› "the_way" ["web","keep","a","b"] (spWayM K):=aW.imp zel;let am:=sV T D_heights_from aL;let aq:=tN T D_web_heights am (aw.mono (by decide));let aa:=sQ T D_ties_of_ways aG;let aJ:=uL T D_pairs_told (a3.mono (by decide)) (aw.mono (by decide)) aq (aa.mono (by decide));let ad:=wA (P:=P) (w:=w) (base:=base) T D_is_whole;let aR:=vA T D_is_wholes ad;let aU:=wB T D_is_place ad;let ac:=rT T D_are_unlike_places aU;let au:=O.imp zbw;let aD:=uJ T D_way_length au;let aQ:=uI T D_way_right ac (O.mono (by decide));let ak:=sC T D_leads_between aQ;let a4:=yW (P:=P) (w:=w) (base:=base) T D_across;let ap:=sU T D_heights_hold aR (a4.mono (by decide));let an:=sR (P:=P) (w:=w) (K:=K) (base:=base) T D_out_of_reach;let ar:=sS (P:=P) (w:=w) (K:=K) (base:=base) T D_is_tuple_of;let aj:=sM T D_is_tie_number ad;let aS:=sD (P:=P) (w:=w) (K:=K) (base:=base) T D_is_rising;let a2:=wZ T D_is_keep aj (aS.mono (by decide));let aF:=uM T D_pair_right (ap.mono (by decide)) (aw.mono (by decide)) (an.mono (by decide)) (ak.mono (by decide)) (aD.mono (by decide));let az:=tR T D_pairs_right (ar.mono (by decide)) (a2.mono (by decide)) aF (aa.mono (by decide));let aI:=sW T D__law_pairs q;let z:=sX (P:=P) (w:=w) (base:=base) T D__law_lengths;let af:=sE T D__law_way_right z;let ae:=rY T D__law_told_right af (z.mono (by decide));let ah:=sF (K:=K) T D__law_other_way q;let ab:=rR (K:=K) T D__law_other_heights q;let al:=sY T D__law_changed (q.mono (by decide)) ah (z.mono (by decide)) ab;exact zd1 T F (a1.mono (by decide)) (a0.mono (by decide)) (aI.mono (by decide)) (aJ.mono (by decide)) az (al.mono (by decide)) (ae.mono (by decide))
theorem walk {l:PySem.W.OpenLaw}{q:o9}{loose:List Str}{XP:(Str->Option i5)->Heap->Prop}{YP:uaw->Heap->Prop}{d:DefRec}{K:Params->b8}(hn:l.most=some 63)(hdf:d.params.defaults=[])
  (hY:∀ (w:uaw)(h:Heap),YP w h->(K w.params).In h)
  (F:∀ (w:uaw)(mg:Str->Option i5)(fa:o7)(h:Heap),(K w.params).In h->h.Ns uad mg->mg d.name=some (.ref fa) ->
   ∃ fd:FuncData,(∀ (s:i6)(u:i5),BindsTo s fd ⟨[u],[]⟩ [("script",u)])/\∀ base:Heap,(K w.params).In base->base.Ns uad mg->FnOk l.prog w (K w.params) mg base CX0 8 fa fd ["script"] (spLaw (K w.params))) :
  PySem.W.WalkO q loose XP YP l.row.toRowW d [] (λ f vs=>PySem.call f vs) :=
 L2.zb2 (n:=63) (k:=8) (x:="script") (CX:=λ _=>CX0) (sp:=λ w=>spLaw (K w.params)) hn (by decide) hdf ⟨rfl,by decide,by decide,rfl⟩ hY F (λ _ _ a ns hl _ O=>⟨a,ns,rfl,O,hl,λ _=>rfl⟩) λ _ _ _ _ _ z=>z
end Me
namespace Hy
open PySem PySem.W Hx
def cs:List Ch:=[⟨0,15,187,0,187,0⟩,⟨1,15,189,0,187,0⟩,⟨2,22,196,0,187,0⟩,⟨3,27,202,0,187,0⟩,⟨4,32,208,0,187,0⟩,⟨5,39,216,5,216,0⟩,⟨6,39,218,5,216,0⟩,⟨7,46,226,5,216,0⟩,⟨8,53,234,5,216,0⟩,⟨9,58,240,5,216,0⟩,⟨10,65,247,5,216,0⟩,⟨11,72,259,11,259,0⟩,⟨12,72,261,11,259,0⟩,⟨13,77,267,11,259,0⟩,⟨14,82,273,11,259,0⟩,⟨15,87,279,11,259,0⟩,⟨16,94,290,11,259,0⟩,⟨17,99,296,11,259,0⟩,⟨18,106,306,11,259,0⟩,⟨19,113,315,11,259,0⟩,⟨20,120,335,11,259,0⟩,⟨21,125,341,11,259,0⟩,⟨22,132,352,11,259,0⟩,⟨23,139,364,23,364,0⟩,⟨24,139,366,23,364,0⟩,⟨25,146,378,23,364,0⟩,⟨26,151,384,23,364,0⟩,⟨27,156,390,27,390,0⟩,⟨28,156,392,27,390,0⟩,⟨29,163,400,27,390,0⟩,⟨30,170,407,30,407,0⟩,⟨31,170,409,30,407,0⟩,⟨32,177,419,30,407,0⟩,⟨33,182,425,30,407,0⟩,⟨34,189,439,30,407,0⟩,⟨35,194,445,35,445,0⟩,⟨36,194,447,35,445,0⟩,⟨37,201,457,35,445,0⟩,⟨38,208,466,35,445,0⟩,⟨39,215,474,35,445,0⟩,⟨40,222,486,35,445,0⟩,⟨41,229,497,35,445,0⟩,⟨42,236,514,35,445,0⟩,⟨43,241,520,35,445,0⟩,⟨44,248,534,35,445,0⟩,⟨45,255,546,35,445,0⟩,⟨46,260,552,35,445,0⟩,⟨47,265,558,35,445,0⟩,⟨48,270,564,35,445,0⟩,⟨49,275,570,35,445,0⟩,⟨50,280,576,35,445,0⟩]
end Hy
lay_quick Hx.PieceT Hx.PreT Hx.BlockT Hx.LookA Hx.LookB Hx.LookC PySem.Challenge.pw_thinways_k49_papers_of_pairs_judged
namespace Hy
open PySem PySem.W Hx
theorem pre:PreT a8 boots boot_drawn boot_heap boot_toks cs ⟨0,15,187⟩:=by
 rw[PySem.W.Fast.te16428918119715843241,PySem.W.Fast.te1169013402010394834];delta PySem.W.Fast.tw16428918119715843241;intro w;kernel_rfl
theorem pc0:PieceT a8 boots boot_drawn cs ⟨0,15,187⟩ ⟨16,94,290⟩ 399:=by
 rw[PySem.W.Fast.te4643275101561185336,PySem.W.Fast.te1169013402010394834];delta PySem.W.Fast.tw4643275101561185336;intro w;kernel_rfl
theorem pc1:PieceT a8 boots boot_drawn cs ⟨16,94,290⟩ ⟨31,170,409⟩ 397:=by
 rw[PySem.W.Fast.te4643275101561185336,PySem.W.Fast.te1169013402010394834];delta PySem.W.Fast.tw4643275101561185336;intro w;kernel_rfl
theorem pc2:PieceT a8 boots boot_drawn cs ⟨31,170,409⟩ ⟨44,248,534⟩ 391:=by
 rw[PySem.W.Fast.te4643275101561185336,PySem.W.Fast.te1169013402010394834];delta PySem.W.Fast.tw4643275101561185336;intro w;kernel_rfl
theorem pc3:PieceT a8 boots boot_drawn cs ⟨44,248,534⟩ ⟨51,287,591⟩ 202:=by
 rw[PySem.W.Fast.te4643275101561185336,PySem.W.Fast.te1169013402010394834];delta PySem.W.Fast.tw4643275101561185336;intro w;kernel_rfl
theorem blk:BlockT a8 :=by
 rw[PySem.W.Fast.te421534021395069552,PySem.W.Fast.te1169013402010394834];delta PySem.W.Fast.tw421534021395069552;intro w s;kernel_rfl
theorem run (w:uaw)(os:OsState):topRun treeTable a8 w 11 ann0 (12+(1+(399+(397+(391+(202+2)))))) ⟨boot_heap w.params,ufr [],boot_drawn,boot_toks,os⟩ (topStub a8)=some (stT a8 boots boot_drawn cs ⟨51,287,591⟩ w os).abs:=zce pre blk (chain pc0 (by decide) (chain pc1 (by decide) (chain pc2 (by decide) (chain pc3 (by decide) (zX ‹113›)))))
theorem size (w:uaw):((boot_heap w.params).isNs uad&&(ufr []:Array GenState).size==0,(boot_heap w.params).objs.size,(boot_heap w.params).nsMap uad "__annotations__")=(true,11,ann0):=by kernel_rfl
theorem lkA:LookA a8 boots boot_drawn boot_heap cs ⟨51,287,591⟩:=by
 rw[PySem.W.Fast.te7818774390570169022,PySem.W.Fast.te1169013402010394834];delta PySem.W.Fast.tw7818774390570169022;intro w;kernel_rfl
theorem lkB:LookB a8 boots boot_drawn cs ⟨51,287,591⟩ [50] (OpenRow.toRowW (u6).row).records:=by
 rw[PySem.W.Fast.te13889730532244352606,PySem.W.Fast.te1169013402010394834];delta PySem.W.Fast.tw13889730532244352606;intro w;kernel_rfl
theorem lkC:LookC a8 boots cs ⟨51,287,591⟩ [3,20,21,25,26,30,31,37,38,44,45,51,52,56,57,63,64,70,71,75,76,80,81,85,86,92,93,97,98,104,105,111,112,118,119,123,124,130,131,137,138,144,145,149,150,154,155,161,162,168,169,175,176,180,181,187,188,192,193,199,200,206,207,213,214,220,221,227,228,234,235,239,240,246,247,253,254,258,259,263,264,268,269,273,274,278,279,285,286]:=by
 rw[PySem.W.Fast.te6241646928739474683,PySem.W.Fast.te1169013402010394834];delta PySem.W.Fast.tw6241646928739474683;intro w;kernel_rfl
noncomputable abbrev K:=Kf a8 boots cs
theorem Kas (P:Params):[3,20,21,25,26,30,31,37,38,44,45,51,52,56,57,63,64,70,71,75,76,80,81,85,86,92,93,97,98,104,105,111,112,118,119,123,124,130,131,137,138,144,145,149,150,154,155,161,162,168,169,175,176,180,181,187,188,192,193,199,200,206,207,213,214,220,221,227,228,234,235,239,240,246,247,253,254,258,259,263,264,268,269,273,274,278,279,285,286]=(K P).map (·.1):=by kernel_rfl
noncomputable abbrev H:Hook:=kHook K [3,20,21,25,26,30,31,37,38,44,45,51,52,56,57,63,64,70,71,75,76,80,81,85,86,92,93,97,98,104,105,111,112,118,119,123,124,130,131,137,138,144,145,149,150,154,155,161,162,168,169,175,176,180,181,187,188,192,193,199,200,206,207,213,214,220,221,227,228,234,235,239,240,246,247,253,254,258,259,263,264,268,269,273,274,278,279,285,286] Kas
theorem opn:opening a8=plainProg (a8).main.scope.names:=by kernel_rfl
theorem fnc (s:i6):fenceModules? a8 s=some s:=by kernel_rfl
theorem left:LeftO a8 (qv a8 [50]) (lz a8 [50] 51) (λ s=>xlAt (qv a8 [50]) [] s&&recOk (OpenRow.toRowW (u6).row).records s) (Hook.obs H) (Hook.val H) 3408 :=
 zcy (p:=a8) (cs:=cs) (is:=[50]) (as:=[3,20,21,25,26,30,31,37,38,44,45,51,52,56,57,63,64,70,71,75,76,80,81,85,86,92,93,97,98,104,105,111,112,118,119,123,124,130,131,137,138,144,145,149,150,154,155,161,162,168,169,175,176,180,181,187,188,192,193,199,200,206,207,213,214,220,221,227,228,234,235,239,240,246,247,253,254,258,259,263,264,268,269,273,274,278,279,285,286]) (rc:=(OpenRow.toRowW (u6).row).records) (c:=⟨51,287,591⟩) (M:=12+(1+(399+(397+(391+(202+2)))))) (N:=3408) (e:=Kas) opn (by decide) fnc size run (by decide) lkA lkB lkC
end Hy
namespace Hy
open PySem PySem.W PyProof.Rows L2 L3 Hx Me
theorem all {w:uaw}{h:Heap}{mg:Str->Option i5}{fa:o7}(X:(K w.params).In h)(G:h.Ns uad mg)(hfa:mg "law"=some (.ref fa)) :
  ∃ fd:FuncData,(∀ (s:i6)(v:i5),BindsTo s fd ⟨[v],[]⟩ [("script",v)])/\∀ base:Heap,(K w.params).In base->base.Ns uad mg->FnOk (u6).prog w (K w.params) mg base CX0 8 fa fd ["script"] (spLaw (K w.params)):=by
 let T:Bi mg:=⟨uah X G (show ua9 (K w.params) uad "len"=some none by kernel_rfl),uah X G (show ua9 (K w.params) uad "range"=some none by kernel_rfl),uah X G (show ua9 (K w.params) uad "zip"=some none by kernel_rfl),uah X G (show ua9 (K w.params) uad "all"=some none by kernel_rfl),uah X G (show ua9 (K w.params) uad "sorted"=some none by kernel_rfl),uah X G (show ua9 (K w.params) uad "isinstance"=some none by kernel_rfl),uah X G (show ua9 (K w.params) uad "min"=some none by kernel_rfl),uah X G (show ua9 (K w.params) uad "max"=some none by kernel_rfl),uah X G (show ua9 (K w.params) uad "tuple"=some none by kernel_rfl),uah X G (show ua9 (K w.params) uad "list"=some none by kernel_rfl),uah X G (show ua9 (K w.params) uad "int"=some none by kernel_rfl),uah X G (show ua9 (K w.params) uad "bool"=some none by kernel_rfl),uah X G (show ua9 (K w.params) uad "str"=some none by kernel_rfl),uah X G (show ua9 (K w.params) uad "enumerate"=some none by kernel_rfl),uah X G (show ua9 (K w.params) uad "sum"=some none by kernel_rfl),uah X G (show ua9 (K w.params) uad "abs"=some none by kernel_rfl),uah X G (show ua9 (K w.params) uad "set"=some none by kernel_rfl),uah X G (show ua9 (K w.params) uad "reversed"=some none by kernel_rfl),uah X G (show ua9 (K w.params) uad "any"=some none by kernel_rfl),uah X G (show ua9 (K w.params) uad "repr"=some none by kernel_rfl),uah X G (show ua9 (K w.params) uad "dict"=some none by kernel_rfl)⟩;let aQ:=dq (p:=a8) (ps:=["thing"]) 21 20 0 187 X G wL;let aB:=dq (p:=a8) (ps:=["thing"]) 26 25 0 187 X G vM;let aL:=dq (p:=a8) (ps:=["parts"]) 31 30 0 187 X G vN;let ap:=dq (p:=a8) (ps:=["thing","many"]) 38 37 0 187 X G uD;let aR:=dq (p:=a8) (ps:=["web","thing"]) 45 44 5 216 X G wM;let ab:=dq (p:=a8) (ps:=["web","thing"]) 52 51 5 216 X G sP;let aU:=dq (p:=a8) (ps:=["web","thing"]) 57 56 5 216 X G xQ;let a0:=dq (p:=a8) (ps:=["web"]) 64 63 5 216 X G zbr;let ar:=dq (p:=a8) (ps:=["web","a","b"]) 71 70 5 216 X G uB;let z:=dq (p:=a8) (ps:=["web","thing"]) 76 75 11 259 X G rV;let ax:=dq (p:=a8) (ps:=["web","places"]) 81 80 11 259 X G uT;let aJ:=dq (p:=a8) (ps:=["web","keep","way"]) 86 85 11 259 X G vK;let ac:=dq (p:=a8) (ps:=["web","keep","a","b","way"]) 93 92 11 259 X G sO;let aw:=dq (p:=a8) (ps:=["web","way"]) 98 97 11 259 X G uS;let am:=dq (p:=a8) (ps:=["web"]) 105 104 11 259 X G uA;let aN:=dq (p:=a8) (ps:=["cost","length","weight"]) 112 111 11 259 X G vP;let ak:=dq (p:=a8) (ps:=["web","keep","root"]) 119 118 11 259 X G tE;let aI:=dq (p:=a8) (ps:=["web","keep","root"]) 124 123 11 259 X G vO;let aF:=dq (p:=a8) (ps:=["web","keep","root"]) 131 130 11 259 X G vL;let aT:=dq (p:=a8) (ps:=["web","keep","a","b"]) 138 137 11 259 X G xP;let aW:=dq (p:=a8) (ps:=["web","tie","heights"]) 145 144 23 364 X G zac;let ad:=dq (p:=a8) (ps:=["web","keep","heights"]) 150 149 23 364 X G tG;let aj:=dq (p:=a8) (ps:=["web","keep","a","roof"]) 155 154 23 364 X G tH;let aq:=dq (p:=a8) (ps:=["web","place"]) 162 161 27 390 X G tZ;let af:=dq (p:=a8) (ps:=["height"]) 169 168 27 390 X G tF;let ai:=dq (p:=a8) (ps:=["web","ways"]) 176 175 30 407 X G tD;let az:=dq (p:=a8) (ps:=["web","pairs"]) 181 180 30 407 X G uU;let ay:=dq (p:=a8) (ps:=["web","keep","pair","way","heights"]) 188 187 30 407 X G uV;let al:=dq (p:=a8) (ps:=["web","pairs","told"]) 193 192 30 407 X G uC;let aO:=dq (p:=a8) (ps:=["script","k"]) 200 199 35 445 X G wO;let aD:=dq (p:=a8) (ps:=["pot","many"]) 207 206 35 445 X G vR;let ao:=dq (p:=a8) (ps:=["pot","way"]) 214 213 35 445 X G uE;let aG:=dq (p:=a8) (ps:=["pot","n","style","a","b"]) 221 220 35 445 X G vQ;let av:=dq (p:=a8) (ps:=["pot","many"]) 228 227 35 445 X G uX;let aS:=dq (p:=a8) (ps:=["pot","most"]) 235 234 35 445 X G wN;let au:=dq (p:=a8) (ps:=["pot","n"]) 247 246 35 445 X G uW;let ah:=dq (p:=a8) (ps:=["web"]) 254 253 35 445 X G tK;let aa:=dq (p:=a8) (ps:=["web","pair","way","heights"]) 259 258 35 445 X G sI;let O:=dq (p:=a8) (ps:=["web","pairs","told"]) 264 263 35 445 X G rZ;let U:=dq (p:=a8) (ps:=["pot","web","pair","way"]) 269 268 35 445 X G sK;let q:=dq (p:=a8) (ps:=["pot","heights"]) 274 273 35 445 X G rS;let ae:=dq (p:=a8) (ps:=["pot","web","pairs","told"]) 279 278 35 445 X G tL;let e:=hfa.symm.trans (PySem.W.mg_of X G (show ua9 (K w.params) uad "law"=some (some (.ref 286)) by kernel_rfl));cases e;let F:=qW (x:="law") (qual:="law") (st:=s_law) (K:=K w.params) (f:=286) (oc:=.type "function") (od:=none) (an:=none) (osl:=#[]) (kV:=.none) (doc:=.none) (pm:=Hx.mdV a8 ⟨0,0,0,35,445,0⟩) (cdv:=.ref 285) (ct:=.none) ‹113› ‹113› ‹113›;exact⟨_,λ s v=>.of_eq rfl,λ base _ _=>zc1 (P:=(u6).prog) (w:=w) (base:=base) T aQ aB aL ap aR ab aU a0 ar z ax aJ ac aw am aN ak aI aF aT aW ad aj aq af ai az ay al aO aD ao aG av aS au ah aa O U q ae F⟩
end Hy
open PySem PySem.W PyProof.Rows
set_option maxRecDepth 100000 in
set_option maxHeartbeats 0 in
theorem PySem.Challenge.cw_thinways_k49_papers_of_pairs_judged_holds : PySem.Challenge.rw_thinways_k49_papers_of_pairs_judged.Holds := by
 w_on;o_law
 exact holds_open (q:=(Hx.qv PySem.Challenge.pw_thinways_k49_papers_of_pairs_judged [50])) (loose:=Hx.lz PySem.Challenge.pw_thinways_k49_papers_of_pairs_judged [50] 51) (Xt:=λ s=>xlAt (Hx.qv PySem.Challenge.pw_thinways_k49_papers_of_pairs_judged [50]) [] s&&recOk (OpenRow.toRowW (PySem.Challenge.rw_thinways_k49_papers_of_pairs_judged).row).records s) (XP:=XL (Hx.qv PySem.Challenge.pw_thinways_k49_papers_of_pairs_judged [50]) []) (Yf:=Hook.obs Hy.H) (Ya:=Hook.val Hy.H) (YP:=Hook.says Hy.H) (N:=3408) Hy.left (Hook.of Hy.H) (Hook.keeps Hy.H) (λ s e=>xl_of s (Bool.and_eq_true_iff.mp e).1) XL.keeps (by rfl) (by rfl) (by rfl) (λ s e=>recFacts_of (Bool.and_eq_true_iff.mp e).2) (by rfl) (by first | assumption | decide +kernel) (by symm) ⟨rfl,rfl,rfl,rfl,rfl,by symm⟩ ?hw ?hc
 case hw=>w_witness2
 case hc =>
  exact Me.walk (l:=PySem.Challenge.rw_thinways_k49_papers_of_pairs_judged) rfl rfl (λ w h Y=>PySem.W.kIn_of Y) λ w mg fa h KX G hmg=>Hy.all KX G hmg
