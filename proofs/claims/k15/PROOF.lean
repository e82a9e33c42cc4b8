import PyProof.Rows.All
import Wide.All
import OpenK.AllK
import Wide.FinOn
import Lean
import PyProof.EqAt
import PyProof.EqKinds
import PyProof.TupleCall
import KE.KSortTup
import PyProof.ZipIter
import PyProof.TupleIter
import PyProof.WalksMore
import PyProof.Rows.TupIter
import PyProof.EnumIter
import PyProof.EnumFor
import PyProof.EnumStmt
import PyProof.ReprRoads
import PyProof.Rows.SeqMore
import PyProof.ListMulRoad
import PyProof.FactsAll.tuple_2
import PyProof.FactsAll.tuple_3
import PyProof.Rows.Tup
import PyProof.ListRange
import PyProof.TupleOfSeq
import PyProof.SumAny
import PyProof.ConsumeS
import PyProof.Rows.CallKwBuiltin
import KE.KLam
import KE.KSortKey
import PyProof.AutoSeq1
import KE.KListMore
import PyProof.FactsAll.subtypes_4
import PyProof.SetRoads
import PyProof.Rows.SetFrom
import PyProof.WalkInts
import PyProof.DictDisplay
import PyProof.DictWalks
import PySem.Challenge.RW_thinways_k15_shortest_rings_told
set_option Elab.async false
set_option linter.all false
set_option maxRecDepth 100000
def uf3:=@decide_eq_true
def uf4:=@of_decide_eq_true
def uf5:=@decide_eq_false
def uf6:=@of_decide_eq_false
def uf7:=@if_pos
def uf8:=@if_neg
open PySem.Challenge renaming pw_thinways_k15_shortest_rings_told→a7, rw_thinways_k15_shortest_rings_told→l7
open PySem renaming wpAny_bind→a8, Value→b9, Shared→c7, wpAny_pure→d3, Addr→j8, Program→j9, wpAny→k8, sizeLine→m3, wpAny_field→p7, wpAny_newObj_type→u5, model→v5, wpAny_callSpecial?_slot→v6, Around→v7, World→v9, wpAny_setField_rec→x8, wpAny_call_entry→uaa, PyData→uac, starEach→uae, wpAny_holding→uah, builtinLookup_eq_fast→uaz, wpAny_seqItems→ube, wpAny_loadPart'→ubf, mem_of_lookup→ubg, sizeLine_eq→ubj, isSubtype_type→ubn, wpAny_truthy_bool→ubs, typeLookup_type→ubt, Expr→ubv, wpAny_mono→ubx, wpAny_passesOwn→ub7, codeAny_builtin→ub8, wpAny_pyIter_list→ucd, wpAny_attempt→uce, plainId_quiet→ucf, wpAny_typeOf→ucs, wpAny_updateSeq→ucw, wpAny_Call_Name_kw→ucx, Stmt→ucy, wpAny_letGo→uc5, wpAny_rule→udh, wpAny_sequenceKey→ud0, wpAny_of_eq→ud6, signature?_of→ud7, wpAny_isInstance→uea, entryFor_of_tree→ueb, wpAny_specialOf→ueh, wpAny_execs_nil→uei, codeAny_mono→uej, call_meets→uel, wpAny_updateSeq_pair→uer, wpAny_tryCatch→uet, wpAny_standAt→ufa, wpAny_pyIter_tuple→ufb, wpAny_onRaise→ufc, wpAny_newList→ufd, callType_new→ufq, wpAny_forIn_list→ufv, noFill_tuple_add→ufw
open PySem.W renaming Frag→a9, kia_one→uay, fnOf→ubi, keepIn→ub5, codeIn→uda, findIn→ud1, methodObj→uek, nsIn→uem, instObj→uev, lookIn→ufe, cellsFrom_some→ufr
open List renaming getElem?_eq_getElem→b6, getD_eq_getElem?_getD→b8, length_map→c6, range→c9, length_append→d6, size_toArray→d7, mem_singleton→d8, mem_cons_self→g9, mem_cons→h9, getElem?_eq_some_iff→i3, mem_of_getElem?→i9, nodup_cons→j0, getElem?_map→j3, mem_cons_of_mem→j4, replicate→j6, length_cons→k9, mem_append_right→l4, mem_append→l8, length_replicate→m5, map_append→o3, length_singleton→o6, getElem?_eq_none→o7, mem_range→o9, length_range→p8, length_drop→p9, mem_append_left→r8, not_mem_nil→u4, length_reverse→u7, mem_filter→w8, getElem?_append_right→x9, eq_nil_or_concat→z9, getElem?_append_left→uab, append_inj'→uaf, length_take→uag, Nodup→uai, length_set→ual, filterMap_cons→uam, filterMap_append→uan, pairwise_iff_getElem→uas, getElem?_range→uaw, nodup_append→uax, range_succ→ua0, map_cons→ua1, mem_reverse→ua4, mem_map→ua5, lookup_cons→ua6, take_of_length_le→ua7, reverse_cons→ua8, getElem_of_mem→ua9, ext_getElem?→uba, map_map→ubd, take_length→ubk, sum_cons→ubq, replicate_succ→ubr, drop_zero→ubu, length_nil→uby, append_nil→ubz, take_add_one→ub2, reverse_perm→ub3, getD→ucb, drop_eq_getElem_cons→ucc, getElem_mem→ucg, reverse_append→uci, filter_sublist→ucj, length_filterMap_le→ucl, mem_filterMap→uco, getElem?_replicate→ucp, getElem?_cons_succ→ucq, filterMap_map→ucr, flatten_cons→ucu, append_assoc→ucv, length_filter_le→ucz, concat_eq_append→uc0, mem_flatMap→uc3, all_eq_true→uc4, perm_cons_erase→uc8, length_pos_iff→uc9, zip_cons_cons→udd, pairwise_cons→ude, append_of_mem→udf, nodup_nil→udi, pairwise_map→udl, Perm→udm, length_eq_zero_iff→udq, nodup_range→udr, map_reverse→uds, countP_cons→udt, any_eq_true→udu, range_succ_eq_map→udx, pairwise_lt_range→udy, getElem?_set_self→udz, sum_append→ud2, mem_of_mem_erase→ud3, countP_mono_left→ud4, countP_le_length→ud5, getElem?_set_ne→uec, range'→ueg, map_take→uen, map_replicate→ueo, map_drop→uep, getElem?_drop→ueq, toArray→uew, map_set→uex, map_nil→uey, range'_succ→ue2, getLast?_eq_some_getLast→ue3, ext_getElem→ue4, eq_nil_of_length_eq_zero→ue5, of_mem_zip→ufj, forIn_cons→ufk, perm_ext_iff_of_nodup→ufo, length_erase_of_mem→ufz, pairwise_singleton→uf0, filter_cons_of_pos→uf1, filter_cons_of_neg→uf2
open PySem.Heap renaming get?_push_of_some→b7, lt_size→i7, get?_push_size→i8, get?_update_other→m7, size_push→uao, get?_update_self→ubc, ExtBut→uef
open Nat renaming le_refl→c8, ne_of_lt→l9, lt_of_lt_of_le→m8, le_trans→o8, zero_le→v4, lt_of_le_of_lt→uak, lt_irrefl→uap, lt_trichotomy→ubb, min_eq_left→ubo, lt_or_ge→ubp, not_lt_zero→ub0, lt_succ_of_lt→ub6, pow_le_pow_right→ub9, lt_succ_self→uch, le_succ→uck, ne_of_gt→uc1, le_of_lt→uc2, le_add_right→uc7, strongRecOn→udb, succ_le_succ→udv, le_of_not_lt→udw, sub_zero→ud9, le_of_eq→ue1
open Bool renaming false_ne_true→i6, and_eq_true→r6, false_eq_true→ua2, eq_iff_iff→ubm, eq_false_iff→ub4, false_and→udj, and_false→uee, or_eq_true→ufl
open Option.some renaming inj→j5
open Or renaming inl→j7, inr→ueu
open Int renaming natCast_nonneg→m9, toNat_of_nonneg→v8, le_refl→w6, toNat_natCast→uaq, emod_lt_of_pos→ubw, emod_nonneg→ub1, add_right_comm→ues, lt_trans→ue6, le_trans→ue7, le_of_lt→ue8, ediv_one→ue9
open PyProof.Rows renaming slot_tuple_getitem→o0, callWith_type1→uaj
open PySem.Str renaming ofString→u6
open PySem.F renaming plainAttrs_list→z0, type_list_append→uat, slot_list_append→uau, plain_min_loop→ua3, slot_tuple_iterator_next→uca, plain_extend_loop→ucn, slot_enumerate_next→uc6, args_tuple_add_2→udc, entry_tuple_add→udk, slot_tuple_add→udn, entry_min_loop→udo, slot_zip_next→ued, slot_tuple_getitem→uez, args_object_init_2→ue0, type_list_extend→ufh, slot_list_extend→ufi, plain_list_iadd→ufm, args_tuple_lt_2→ufn, entry_tuple_lt→ufs, args_tuple_iterator_next_1→uft, slot_tuple_lt→ufx, entry_tuple_iterator_next→ufy
open Option renaming map_eq_some_iff→uad
open PySem.PyData renaming depth→uar, eqv→uav, depthAll→ubl, eqvAll→ucm, canLayAll0→uct, canLay0→ud8
open Array renaming length_toList→ubh, getElem?_eq_getElem→udg, mk→udp, getD→ufu
open PySem.Heap.IsSliceOf renaming new→uff
open PySem.Heap.SameBut renaming update→ufg
open List.Pairwise renaming nil→ufp
local macro_rules | `(tactic| ac_rfl) => `(tactic| first | exact (fun _ _ _ _ _ _ us hl => match us, hl with | [_], _ => rfl) | exact (fun _ _ _ _ _ _ us hl => match us, hl with | [_, _], _ => rfl) | exact (fun _ _ _ _ _ _ us hl => match us, hl with | [_, _, _], _ => rfl) | exact (fun _ _ _ _ _ _ us hl => match us, hl with | [_, _, _, _], _ => rfl) | exact (fun _ _ _ _ _ _ us hl => match us, hl with | [_, _, _, _, _], _ => rfl) | exact (fun _ _ _ _ _ _ us hl => match us, hl with | [_, _, _, _, _, _], _ => rfl) | exact (fun _ _ _ _ _ _ us hl => match us, hl with | [_, _, _, _, _, _, _], _ => rfl))
local macro_rules | `(tactic| left) => `(tactic| first | lia | omega)
local macro_rules | `(tactic| symm) => `(tactic| decide +kernel)
local macro_rules | `(tactic| right) => `(tactic| exact ⟨rfl, rfl, rfl, by decide +kernel, rfl, by decide +kernel, by decide +kernel⟩)
namespace L2
open PySem PySem.Spec PyProof.Rows
abbrev Key:=Sum Int Str
def keyIs:Key->b9->Bool
 | .inl k,v=>Value.isInt k v
 | .inr x,v=>Value.isStrOf x v
def keyH (w:v9):Key->Int
 | .inl k=>hashInt k
 | .inr x=>hashStr w x
theorem cK:∀ {k:Key}{v:b9},keyIs k v=true->(∃ i t,k=Sum.inl i/\v=Value.int i t)\/(∃ x t,k=Sum.inr x/\v=Value.str x t)
 | .inl i,v,h=>by
  obtain⟨t,e⟩:=Value.isInt_shape (k:=i) (v:=v) h
  exact .inl ⟨i,t,rfl,e⟩
 | .inr x,v,h=>by
  obtain⟨t,e⟩:=Value.isStrOf_shape (x:=x) (v:=v) h
  exact .inr ⟨x,t,rfl,e⟩
theorem zX (a b:Int):decide ((Sum.inl a:Key)=Sum.inl b)=(a==b):=by
 by_cases e:a=b
 ·subst e;simp
 ·have h:¬ (Sum.inl a:Key)=Sum.inl b:=λ q=>e (Sum.inl.inj q)
  rw[uf5 h]
  exact (beq_eq_false_iff_ne.mpr e).symm
theorem zU (a b:Str):decide ((Sum.inr a:Key)=Sum.inr b)=decide (a=b):=by
 by_cases e:a=b
 ·subst e;simp
 ·have h:¬ (Sum.inr a:Key)=Sum.inr b:=λ q=>e (Sum.inr.inj q)
  rw[uf5 h,uf5 e]
theorem zW (a:Int)(b:Str):decide ((Sum.inl a:Key)=Sum.inr b)=false:=uf5 (λ q=>nomatch q)
theorem zV (a:Str)(b:Int):decide ((Sum.inr a:Key)=Sum.inl b)=false:=uf5 (λ q=>nomatch q)
def mixKind (prog:j9)(w:v9):PySem.KeyKind prog w Key where
 is:=keyIs
 hash:=keyH w
 inj:=λ v a b ha hb=>by
  rcases cK ha with ⟨i,t,rfl,rfl⟩ | ⟨x,t,rfl,rfl⟩
  ·rcases cK hb with ⟨j,u,rfl,e⟩ | ⟨y,u,rfl,e⟩
   ·injection e with e1 _;rw[e1]
   ·exact nomatch e
  ·rcases cK hb with ⟨j,u,rfl,e⟩ | ⟨y,u,rfl,e⟩
   ·exact nomatch e
   ·injection e with e1 _;rw[e1]
 byValue:=λ k v h=>by
  rcases cK h with ⟨i,t,rfl,rfl⟩ | ⟨x,t,rfl,rfl⟩ <;> rfl
 pyHash:=λ hv h=>by
  rcases cK hv with ⟨i,t,rfl,rfl⟩ | ⟨x,t,rfl,rfl⟩
  ·exact wpAny_pyHash_int h
  ·exact wpAny_pyHash_str h
 eqBool:=λ hu hv h=>by
  rcases cK hu with ⟨i,t,rfl,rfl⟩ | ⟨x,t,rfl,rfl⟩
  ·rcases cK hv with ⟨j,u,rfl,rfl⟩ | ⟨y,u,rfl,rfl⟩
   ·rw[zX] at h;exact wpAny_eqBool_int h
   ·rw[zW] at h;exact SeqAt.EqAt.int_str i t y u _ _ _ _ h
  ·rcases cK hv with ⟨j,u,rfl,rfl⟩ | ⟨y,u,rfl,rfl⟩
   ·rw[zV] at h;exact SeqAt.EqAt.str_int x t j u _ _ _ _ h
   ·rw[zU] at h;exact wpAny_eqBool_str h
 «strs»:=λ k x t v h=>by
  rcases cK h with ⟨i,u,rfl,e⟩ | ⟨y,u,rfl,e⟩
  ·exact nomatch e
  ·injection e with e1 _
   subst e1
   cases v <;> rfl
end L2
namespace L2
open PySem PySem.Spec PyProof.Rows
inductive V where
 | non | bl (b:Bool) | int (i:Int) | str (x:Str) | byt (b:Array UInt8) | flt (b:UInt64) | ref (a:j8) | ty (n:String)
 deriving DecidableEq
def RelV:V->b9->Prop
 | .non,u=>u=Value.none
 | .bl b,u=>u=Value.bool b
 | .int i,u=>∃ t,u=Value.int i t
 | .str x,u=>∃ t,u=Value.str x t
 | .byt b,u=>∃ t,u=Value.bytes b t
 | .flt b,u=>∃ t,u=Value.float b t
 | .ref a,u=>u=Value.ref a
 | .ty n,u=>u=Value.type n
abbrev Vals:List V->List b9->Prop:=Paired RelV
theorem Vals.length {xs:List V}{us:List b9}(r:Vals xs us):xs.length=us.length:=Paired.length r
theorem Vals.get:∀ {xs:List V}{us:List b9}{i:Nat}{x:V},Vals xs us->xs[i]?=some x->∃ u,us[i]?=some u/\RelV x u
 | _,_,_,_,.nil,e=>by simp at e
 | _,_,0,_,.cons r _,e=>by simp at e;subst e;exact⟨_,rfl,r⟩
 | _,_,i+1,x,.cons _ t,e=>by
  obtain⟨u,h1,h2⟩:=Vals.get (i:=i) (x:=x) t (by simpa using e)
  exact⟨u,by simpa using h1,h2⟩
theorem Vals.set {x:V}{u:b9}(r:RelV x u):∀ {xs:List V}{us:List b9}(i:Nat),Vals xs us->Vals (xs.set i x) (us.set i u)
 | _,_,_,.nil=>.nil
 | _,_,0,.cons _ t=>.cons r t
 | _,_,i+1,.cons q t=>.cons q (Vals.set r i t)
theorem Vals.append:∀ {xs ys:List V}{us ws:List b9},Vals xs us->Vals ys ws->Vals (xs++ys) (us++ws)
 | _,_,_,_,.nil,s=>s
 | _,_,_,_,.cons r t,s=>.cons r (Vals.append t s)
theorem Vals.take:∀ {xs:List V}{us:List b9}(n:Nat),Vals xs us->Vals (xs.take n) (us.take n)
 | _,_,0,_=>.nil
 | _,_,_+1,.nil=>.nil
 | _,_,n+1,.cons r t=>.cons r (Vals.take n t)
theorem Vals.drop:∀ {xs:List V}{us:List b9}(n:Nat),Vals xs us->Vals (xs.drop n) (us.drop n)
 | _,_,0,r=>r
 | _,_,_+1,.nil=>.nil
 | _,_,n+1,.cons _ t=>Vals.drop n t
def RelO:Option V->Option b9->Prop
 | some v,some u=>RelV v u
 | none,none=>True
 | _,_=>False
def KV {κ:Type}:List (κ × V)->List (κ × b9)->Prop:=Paired λ (p:κ × V) (q:κ × b9)=>p.1=q.1/\RelV p.2 q.2
def kV:Key->V
 | .inl i=>.int i
 | .inr x=>.str x
inductive HO where
  | lst (xs:List V)
  | tup (xs:List V)
  | dK (kvs:List (Key × V)) | dT (kvs:List (List Key × V))
  | set (S:Int->Bool) (n:Nat)
  | ins (C dx:j8) (fs:List (Str × V))
  | own (x:j8)
  | xd (fs:List (Str × V))
  | met (f x:j8)
  | rng (lo hi:Int)
  | frz (o:Obj) (u:HO)
  | tbl (ps:Array b9)
  | ext (φ:Heap->Prop)
abbrev Hp:=j8->Option HO
def upd (H:Hp)(a:j8)(o:HO):Hp:=λ b=>if b=a then some o else H b
theorem aK {H:Hp}{a:j8}{o:HO}:upd H a o a=some o:=by unfold upd;rw[uf7 rfl]
theorem aG {H:Hp}{a b:j8}{o:HO}(h:b≠a):upd H a o b=H b:=by unfold upd;rw[uf8 h]
theorem aV {H:Hp}{a b:j8}{o:HO}(h:H a=some o)(h':H b=none):a≠b:=by
 intro e;subst e;rw[h] at h';cases h'
section
variable (P:j9)(w:v9)
def TupN (h:Heap)(a:j8)(items:Array b9):Prop:=∃ o,h.get? a=some o/\o.cls=.type "tuple"/\(∃ n,o.data=.seq items n)/\o.dict=none
theorem TupN.tup {h:Heap}{a:j8}{items:Array b9}(x:TupN h a items):IsTup h a items:=let ⟨o,e,c,d,_⟩:=x;⟨o,e,c,d⟩
theorem TupN.new (h:Heap)(items:Array b9):TupN (h.push { cls:=.type "tuple",data:=.seq items }) h.objs.size items:=⟨_,i8 _ rfl,rfl,⟨_,rfl⟩,rfl⟩
def ObjOk (H:Hp)(h:Heap)(a:j8):HO->Prop
 | .lst xs=>xs.length<=m3/\∃ (its:List b9)(n:Nat),Vals xs its/\h.get? a=some { cls:=.type "list",data:=.seq its.toArray n }
 | .tup xs=>xs.length<=m3/\∃ its:List b9,Vals xs its/\TupN h a its.toArray
 | .dK kvs=>kvs.length<=m3/\(a==sysModules)=false/\∃ vs,KV kvs vs/\h.DictOf (mixKind P w) a vs
 | .dT kvs => kvs.length <= m3 /\ (a==sysModules) = false /\ ∃ xs : List (List Key × j8 × b9),
     Paired (λ (p:List Key × V) (q:List Key × j8 × b9)=>p.1=q.1/\H q.2.1=some (.tup (p.1.map kV))/\RelV p.2 q.2.2) kvs xs /\
     ∃ o es ep,h.get? a=some o/\o.ExactDict/\o.data=.dict es ep/\es.toList=xs.map (entryOfKey (tupleKind (mixKind P w)))/\(xs.map (·.1)).Nodup
 | .set S n=>h.SetOf (intKind P w) a S n
 | .ins C dx fs => H dx = some (.own a) /\ fs.length <= 1000 /\ dx ≠ a /\ h.get? a = some (uev C dx) /\
     ∃ mA,h.Ns1 dx mA/\(∀ f,RelO (fs.lookup f) (mA f))/\PySem.Within mA (fs.map (·.1))
 | .own _=>∃ o,h.get? a=some o
 | .xd fs=>∃ mA,h.Ns1 a mA/\∀ f,RelO (fs.lookup f) (mA f)
 | .rng lo hi=>∃ t u v,h.get? a=some { cls:=.type "range",data:=.fields #[.int lo t,.int hi u,.int 1 v] }
 | .frz o u=>h.get? a=some o/\ObjOk H h a u
 | .tbl ps=>h.get? a=some { cls:=.none,data:=.fields ps }
 | .met f x=>h.get? a=some (uek (.ref f) (.ref x))
 | .ext φ=>φ h/\(∃ o,h.get? a=some o)/\∀ h1 h2:Heap,φ h1->(∀ o,h1.get? a=some o->h2.get? a=some o)->φ h2
def HOk (H:Hp)(h:Heap):Prop:=∀ a o,H a=some o->ObjOk P w H h a o
end
section
variable {P:j9}{w:v9}{H H':Hp}{h h':Heap}{a:j8}{o:HO}
theorem ObjOk.lt (x:ObjOk P w H h a o):a<h.objs.size:=by
 cases o with
 | lst xs=>obtain⟨_,_,_,_,e⟩:=x;exact i7 e
 | tup xs=>obtain⟨_,_,_,p⟩:=x;exact p.tup.lt
 | dK kvs=>obtain⟨_,_,_,_,o,_,_,e,_⟩:=x;exact i7 e
 | dT kvs=>obtain⟨_,_,_,_,o,_,_,e,_⟩:=x;exact i7 e
 | set S n=>obtain⟨o,_,_,_,e,_⟩:=x;exact i7 e
 | ins C dx fs=>obtain⟨_,_,_,e,_⟩:=x;exact i7 e
 | own y=>obtain⟨_,e⟩:=x;exact i7 e
 | xd fs=>obtain⟨_,⟨_,_,_,e,_⟩,_⟩:=x;exact i7 e
 | rng lo hi=>obtain⟨_,_,_,e⟩:=x;exact i7 e
 | frz ob u=>obtain⟨e,_⟩:=x;exact i7 e
 | tbl ps=>exact i7 (show h.get? a=some _ from x)
 | met f y=>exact i7 (show h.get? a=some _ from x)
 | ext φ=>obtain⟨_,⟨_,e⟩,_⟩:=x;exact i7 e
theorem Paired.mapP {α β:Type}{F G:α->β->Prop}:∀ {l₁:List α}{l₂:List β},Paired F l₁ l₂->(∀ a b,F a b->G a b)->Paired G l₁ l₂
 | _,_,.nil,_=>.nil
 | _,_,.cons r t,f=>.cons (f _ _ r) (Paired.mapP t f)
theorem ObjOk.stay (x:ObjOk P w H h a o)(k:∀ b u,(b=a\/H b=some (.own a))->h.get? b=some u->h'.get? b=some u)
  (ho:∀ b,H b=some (.own a)->H' b=some (.own a)) (ht:∀ b xs,H b=some (.tup xs)->H' b=some (.tup xs)):ObjOk P w H' h' a o:=by
 induction o with
 | lst xs=>obtain⟨z,its,n,r,e⟩:=x;exact⟨z,its,n,r,k _ _ (.inl rfl) e⟩
 | tup xs=>obtain⟨z,its,r,ob,e,c⟩:=x;exact⟨z,its,r,ob,k _ _ (.inl rfl) e,c⟩
 | dK kvs=>obtain⟨z,y,vs,r,ob,es,ep,e,c⟩:=x;exact⟨z,y,vs,r,ob,es,ep,k _ _ (.inl rfl) e,c⟩
 | dT kvs =>
  obtain⟨z,y,xs,r,ob,es,ep,e,c⟩:=x
  exact⟨z,y,xs,Paired.mapP r λ p q z=>⟨z.1,ht _ _ z.2.1,z.2.2⟩,ob,es,ep,k _ _ (.inl rfl) e,c⟩
 | set S n=>obtain⟨ob,es,ep,t,e,c⟩:=x;exact⟨ob,es,ep,t,k _ _ (.inl rfl) e,c⟩
 | ins C dx fs =>
  obtain⟨d,z,ne,e,mA,⟨od,es,ep,e2,c⟩,r⟩:=x
  exact⟨ho _ d,z,ne,k _ _ (.inl rfl) e,mA,⟨od,es,ep,k _ _ (.inr d) e2,c⟩,r⟩
 | own y=>obtain⟨ob,e⟩:=x;exact⟨ob,k _ _ (.inl rfl) e⟩
 | xd fs=>obtain⟨mA,⟨od,es,ep,e,c⟩,r⟩:=x;exact⟨mA,⟨od,es,ep,k _ _ (.inl rfl) e,c⟩,r⟩
 | rng lo hi=>obtain⟨t,u,v,e⟩:=x;exact⟨t,u,v,k _ _ (.inl rfl) e⟩
 | frz ob u ih=>obtain⟨e,q⟩:=x;exact⟨k _ _ (.inl rfl) e,ih q⟩
 | tbl ps =>
  have e:h.get? a=some { cls:=.none,data:=.fields ps }:=x
  show h'.get? a=some { cls:=.none,data:=.fields ps }
  exact k a _ (.inl rfl) e
 | met f y =>
  have e:h.get? a=some (uek (.ref f) (.ref y)):=x
  show h'.get? a=some (uek (.ref f) (.ref y))
  exact k a _ (.inl rfl) e
 | ext φ=>obtain⟨p,⟨o,e⟩,st⟩:=x;exact⟨st _ _ p λ o q=>k _ _ (.inl rfl) q,⟨o,k _ _ (.inl rfl) e⟩,st⟩
theorem HOk.lt (x:HOk P w H h)(e:H a=some o):a<h.objs.size:=(x a o e).lt
theorem HOk.fresh (x:HOk P w H h)(e:h.objs.size<=a):H a=none:=by
 cases q:H a with
 | none=>rfl
 | some u=>exact absurd (m8 (x.lt q) e) (uap _)
theorem HOk.kept (x:HOk P w H h)(k:∀ b u,h.get? b=some u->h'.get? b=some u):HOk P w H h':=λ a o e =>
 (x a o e).stay (λ b u _ q=>k b u q) (λ _ q=>q) λ _ _ q=>q
theorem HOk.laid (x:HOk P w H h)(k:∀ b u,h.get? b=some u->h'.get? b=some u)(hp:h.objs.size<=a)(new:ObjOk P w (upd H a o) h' a o):HOk P w (upd H a o) h':=λ b u e=>by
 have hn:=x.fresh hp
 by_cases hb:b=a
 ·subst hb;rw[aK] at e;cases e;exact new
 ·rw[aG hb] at e
  exact (x b u e).stay (λ c v _ q=>k c v q) (λ c q=>by rw[aG (aV q hn)];exact q) λ c xs q=>by rw[aG (aV q hn)];exact q
end
def Rd (H:Hp)(a:j8)(u:HO):Prop:=H a=some u\/∃ o,H a=some (.frz o u)
theorem Rd.of {H:Hp}{a:j8}{u:HO}(h:H a=some u):Rd H a u:=.inl h
theorem Rd.ok {P:j9}{w:v9}{H:Hp}{h:Heap}{a:j8}{u:HO}(r:Rd H a u)(x:HOk P w H h):ObjOk P w H h a u:=by
 rcases r with r | ⟨o,r⟩
 ·exact x a u r
 ·obtain⟨_,q⟩:=x a _ r
  exact q
def Mut:Option HO->Prop
 | some (.lst _)=>True
 | some (.dK _)=>True
 | some (.dT _)=>True
 | some (.set _ _)=>True
 | some (.ins _ _ _)=>True
 | some (.ext _)=>True
 | _=>False
section
variable {P:j9}{w:v9}{H:Hp}{h h':Heap}{x e:j8}{o':HO}
theorem HOk.write (ok:HOk P w H h)(mu:Mut (H x))(he:e=x\/H e=some (.own x))(k:∀ b u,b≠e->h.get? b=some u->h'.get? b=some u)(heo:∃ u,h'.get? e=some u)
  (new:ObjOk P w (upd H x o') h' x o'):HOk P w (upd H x o') h':=λ b u q=>by
 have nown:∀ c y,H c=some (.own y)->c≠x:=λ c y r z=>by subst z;rw[r] at mu;exact mu
 have ntup:∀ c xs,H c=some (.tup xs)->c≠x:=λ c xs r z=>by subst z;rw[r] at mu;exact mu
 by_cases hb:b=x
 ·subst hb;rw[aK] at q;cases q;exact new
 ·rw[aG hb] at q
  by_cases hbe:b=e
  ·have q':H b=some (.own x):=by
    rcases he with z | z
    ·exact absurd (hbe.trans z) hb
    ·rw[hbe];exact z
   rw[q] at q';cases q'
   obtain⟨v,hv⟩:=heo
   exact⟨v,by rw[hbe];exact hv⟩
  ·refine (ok b u q).stay (λ c v hc r=>k c v ?_ r) (λ c r=>by rw[aG (nown c b r)];exact r) λ c xs r=>by rw[aG (ntup c xs r)];exact r
   rcases hc with rfl | hc
   ·exact hbe
   ·rintro rfl
    rcases he with z | z
    ·exact nown c b hc z
    ·rw[hc] at z;cases z;exact hb rfl
end
structure Un (fs ex:List j8)(H H':Hp)(h h':Heap):Prop where
 keep:∀ b o,h.get? b=some o->H b=none->b∉fs->b∉ex->h'.get? b=some o
 slot:∀ b o,h.get? b=some o->H b=none->b∈fs->b∉ex->∃ sl,h'.get? b=some { o with slots:=sl }
 free:∀ b o,h.get? b=some o->H b=none->b∉ex->H' b=none
 there:∀ b o,h.get? b=some o->b∉ex->∃ o',h'.get? b=some o'
 tups:∀ b xs,H b=some (.tup xs)->H' b=some (.tup xs)
 frzs:∀ b o u,H b=some (.frz o u)->H' b=some (.frz o u)
 tbls:∀ b ps,H b=some (.tbl ps)->∃ more,H' b=some (.tbl (ps++more))
section
variable {fs fs' ex ex':List j8}{H H1 H2:Hp}{h h1 h2 h':Heap}{a x e:j8}{o:HO}
theorem Un.any (u:Un fs ex H H1 h h1){b:j8}{ob:Obj}(q:h.get? b=some ob)(n:H b=none)(hx:b∉ex):∃ sl,h1.get? b=some { ob with slots:=sl }:=by
 by_cases hb:b∈fs
 ·exact u.slot b ob q n hb hx
 ·exact⟨ob.slots,u.keep b ob q n hb hx⟩
theorem Un.trans (a:Un fs ex H H1 h h1)(b:Un fs ex H1 H2 h1 h2):Un fs ex H H2 h h2 where
 keep:=λ c ob q n hc hx=>b.keep c ob (a.keep c ob q n hc hx) (a.free c ob q n hx) hc hx
 slot:=λ c ob q n hc hx=>by
  obtain⟨sl,e1⟩:=a.slot c ob q n hc hx
  obtain⟨sl',e2⟩:=b.slot c _ e1 (a.free c ob q n hx) hc hx
  exact⟨sl',e2⟩
 free:=λ c ob q n hx=>by
  obtain⟨o',e1⟩:=a.there c ob q hx
  exact b.free c o' e1 (a.free c ob q n hx) hx
 there:=λ c ob q hx=>by
  obtain⟨o',e1⟩:=a.there c ob q hx
  exact b.there c o' e1 hx
 tups:=λ c xs q=>b.tups c xs (a.tups c xs q)
 frzs:=λ c ob xs q=>b.frzs c ob xs (a.frzs c ob xs q)
 tbls:=λ c ps q=>by
  obtain⟨m1,e1⟩:=a.tbls c ps q
  obtain⟨m2,e2⟩:=b.tbls c _ e1
  exact⟨m1++m2,by rw[e2,Array.append_assoc]⟩
theorem Un.kept (k:∀ b u,h.get? b=some u->h'.get? b=some u):Un fs ex H H h h' :=
 ⟨λ b ob q _ _ _=>k b ob q,λ b ob q _ _ _=>⟨ob.slots,k b ob q⟩,λ _ _ _ n _=>n,λ b ob q _=>⟨ob,k b ob q⟩,λ _ _ q=>q,λ _ _ _ q=>q,λ _ ps q=>⟨#[],by rw[q];simp⟩⟩
theorem Un.refl:Un fs ex H H h h:=Un.kept λ _ _ q=>q
theorem Un.laid (k:∀ b u,h.get? b=some u->h'.get? b=some u)(hp:h.objs.size<=a)(hn:H a=none):Un fs ex H (upd H a o) h h' where
 keep:=λ b u q _ _ _=>k b u q
 slot:=λ b u q _ _ _=>⟨u.slots,k b u q⟩
 free:=λ b u q n _=>by rw[aG (l9 (m8 (i7 q) hp))];exact n
 there:=λ b u q _=>⟨u,k b u q⟩
 tups:=λ b xs q=>by rw[aG (aV q hn)];exact q
 frzs:=λ b u xs q=>by rw[aG (aV q hn)];exact q
 tbls:=λ b ps q=>⟨#[],by rw[aG (aV q hn),q];simp⟩
theorem Un.write (mu:Mut (H x))(he:e=x\/H e=some (.own x))(k:∀ b u,b≠e->h.get? b=some u->h'.get? b=some u)(heo:∃ u,h'.get? e=some u):Un fs ex H (upd H x o) h h':=by
 have hx:∀ b,H b=none->b≠x:=λ b n z=>by subst z;rw[n] at mu;exact mu
 have hb:∀ b,H b=none->b≠e:=λ b n z=>by
  subst z
  rcases he with r | r
  ·exact hx b n r
  ·rw[n] at r;cases r
 have hm:∀ b u,H b=some u->¬ Mut (some u)->b≠x:=λ b u q nm z=>by subst z;rw[q] at mu;exact nm mu
 refine⟨λ b u q n _ _=>k b u (hb b n) q,λ b u q n _ _=>⟨u.slots,k b u (hb b n) q⟩,λ b u q n _=>by rw[aG (hx b n)];exact n,λ b u q _=>?_,
  λ b xs q=>by rw[aG (hm b _ q λ z=>z)];exact q,λ b u xs q=>by rw[aG (hm b _ q λ z=>z)];exact q,λ b ps q=>⟨#[],by rw[aG (hm b _ q λ z=>z),q];simp⟩⟩
 by_cases hbe:b=e
 ·subst hbe;exact heo
 ·exact⟨u,k b u hbe q⟩
end
def trk (h:Heap)(H:Hp):List j8:=(c9 h.objs.size).filter λ a=>(H a).isSome
def hidT (h:Heap)(H:Hp):Heap:=PySem.W.hideAll h (trk h H)
theorem vR (h:Heap)(H:Hp):(hidT h H).objs.size=h.objs.size:=PySem.W.hideAll_size _ _
theorem xG {h:Heap}{H:Hp}{b:j8}{o:Obj}(e:h.get? b=some o)(n:H b=none):(hidT h H).get? b=some o :=
 PySem.W.hideAll_get _ e λ hm=>by
  have q:(H b).isSome=true:=(w8.mp hm).2
  rw[n] at q;simp at q
theorem yO {h:Heap}{H:Hp}{b:j8}{o:Obj}(e:(hidT h H).get? b=some o):h.get? b=some o/\H b=none:=by
 have e':h.get? b=some o:=PySem.W.of_hideAll (trk h H) e
 refine⟨e',?_⟩
 cases q:H b with
 | none=>rfl
 | some x =>
  have hm:b∈trk h H:=w8.mpr ⟨o9.mpr (i7 e'),by simp [q]⟩
  have z:(hidT h H).get? b=none:=PySem.W.hideAll_none (trk h H) hm
  rw[z] at e;cases e
def allNews (g h:Heap)(L:j8):List (j8 × Obj):=(c9 h.objs.size).filterMap λ a=>if a=L\/(g.get? a).isSome=true then none else (h.get? a).map λ o=>(a,o)
def rest (g h:Heap)(L d:j8):List (j8 × Obj):=(allNews g h L).filter λ p=>decide (p.1≠d)
end L2
namespace L2
open PySem PySem.Spec PyProof.Rows
structure Mod (K:a9)(mg:Str->Option b9)(base:Heap):Prop where
 kin:K.In base
 glob:base.Ns mainGlobals mg
 blt:∃ mb,base.Ns builtinsNs mb/\∀ x:Str,x≠"__name__"->mb x=bootBuiltins x
 nolimit:base.NoLimit
structure Cx where
 prog:j9
 w:v9
 K:a9
 mg:Str->Option b9
 base:Heap
 A:v7
 N:List Str
 s₀:c7
 H₀:Hp
 env:Env
 outer:List Env
 stack:List Env
 ex:List j8
 fn:Str->Bool
 calm:Bool
 pn:List (j8 × Obj)
 xe:b9->c7->Prop
def frs (l:List Env):List j8:=l.filterMap (·.frame)
abbrev Cx.fs (X:Cx):List j8:=frs X.outer
def Vis (sc:Scope)(x:Str):Prop:=sc.names.lookup x=some .local\/sc.names.lookup x=some .cell\/sc.names.lookup x=some .free
def Loc (sc:Scope)(x:Str):Prop:=sc.names.lookup x=some .local\/sc.names.lookup x=some .cell
def Look (env:Env)(h:Heap)(m:Str->Option b9)(x:Str)(u:b9):Prop :=
 (env.kindOf x=some .local/\m x=some u)\/((env.kindOf x=some .cell\/env.kindOf x=some .free)/\∃ c,env.cells.lookup x=some c/\h.IsCell c (some u))
structure Cx.Ok (X:Cx):Prop where
 mod:Mod X.K X.mg X.base
 kind:X.env.scope.kind=.function
 glob:X.env.globals=mainGlobals
 blt:X.env.builtins=builtinsNs
 above:X.s₀.heap.objs.size<=X.env.locals
 inj:∀ x y c,X.env.cells.lookup x=some c->X.env.cells.lookup y=some c->x=y
 has:∀ x,(X.env.kindOf x=some .cell\/X.env.kindOf x=some .free)->∃ c,X.env.cells.lookup x=some c
 cab:∀ x c,X.fn x=true->X.env.cells.lookup x=some c->X.s₀.heap.objs.size<=c
 hd:X.calm=true->X.A.handled=none
 frames:X.A.frames=some X.stack
 stk:X.stack=X.outer\/(X.stack=X.env::X.outer/\X.env.frame=some X.env.locals)
 exf:∀ b∈X.ex,b≠X.env.locals/\∀ x c,X.env.cells.lookup x=some c->c≠b
 bs:∀ b o,X.base.get? b=some o->X.s₀.heap.get? b=some o/\X.H₀ b=none
 bsz:X.base.objs.size<=X.s₀.heap.objs.size
 noex:∀ b o,X.base.get? b=some o->b∉X.ex
 exfs:∀ b∈X.ex,b∉X.fs
 funs:X.s₀.heap.FunFrames X.base X.outer
 frf:∀ b∈X.fs,X.H₀ b=none
structure Inv (X:Cx)(pins:List (j8 × Obj))(σ:List (Option V))(H:Hp)(s:c7):Prop where
 ok:X.Ok
 os:s.os=X.s₀.os
 bare:AllBare s.gens
 base:Un X.fs X.ex X.H₀ H X.s₀.heap s.heap
 loc:∃ m,s.heap.Ns X.env.locals m/\∀ (i:Nat)(x:Str)(v:V),X.N[i]?=some x->σ[i]?=some (some v)->Vis X.env.scope x->∃ u,RelV v u/\Look X.env s.heap m x u
 cell:∀ x c,X.env.cells.lookup x=some c->∃ v,s.heap.IsCell c v
 free:H X.env.locals=none
 freeC:∀ x c,X.env.cells.lookup x=some c->H c=none
 pin:∀ p∈X.pn++pins,s.heap.get? p.1=some p.2/\H p.1=none/\p.1≠X.env.locals/\p.1∉X.fs/\∀ v,p.2.data≠.cell v
 hok:HOk X.prog X.w H s.heap
 len:σ.length=X.N.length
section
variable {X:Cx}{pins:List (j8 × Obj)}{σ:List (Option V)}{H H':Hp}{s:c7}{h':Heap}
theorem Cx.Ok.nofr (ok:X.Ok){b:j8}{o:Obj}(e:X.base.get? b=some o):b∉X.fs:=λ hb=>by
 have:=(ok.funs.mem hb).1
 rw[e] at this;cases this
theorem Inv.bs (I:Inv X pins σ H s):∀ b o,X.base.get? b=some o->s.heap.get? b=some o/\H b=none:=λ b o e =>
 ⟨I.base.keep b o (I.ok.bs b o e).1 (I.ok.bs b o e).2 (I.ok.nofr e) (I.ok.noex b o e),I.base.free b o (I.ok.bs b o e).1 (I.ok.bs b o e).2 (I.ok.noex b o e)⟩
theorem Inv.bk (I:Inv X pins σ H s):∀ b o,X.base.get? b=some o->s.heap.get? b=some o:=λ b o e=>(I.bs b o e).1
theorem Inv.mod (I:Inv X pins σ H s):Mod X.K X.mg X.base:=I.ok.mod
theorem Inv.kIn (I:Inv X pins σ H s):X.K.In s.heap:=I.ok.mod.kin.keeps I.bk
theorem Inv.lt (I:Inv X pins σ H s):X.env.locals<s.heap.objs.size:=let ⟨_,hn,_⟩:=I.loc;hn.lt
theorem Inv.sz (I:Inv X pins σ H s):X.s₀.heap.objs.size<=s.heap.objs.size:=o8 I.ok.above (uc2 I.lt)
theorem Inv.nofs (I:Inv X pins σ H s){a:j8}(h:s.heap.objs.size<=a):a∉X.fs:=λ hb=>by
 obtain⟨_,o,ho,_⟩:=I.ok.funs.mem hb
 exact absurd (m8 (i7 ho) (o8 I.sz h)) (uap _)
theorem Inv.cne (I:Inv X pins σ H s):∀ x c,X.env.cells.lookup x=some c->c≠X.env.locals:=λ x c e z=>by
 obtain⟨v,o,ho,hd⟩:=I.cell x c e
 obtain⟨m,⟨o',es,ep,ho',hd',_⟩,_⟩:=I.loc
 rw[z,ho'] at ho;cases ho;rw[hd'] at hd;cases hd
theorem Inv.funs (I:Inv X pins σ H s):s.heap.FunFrames X.base X.outer:=by
 have all:∀ (l:List Env),(∀ b∈frs l,b∈X.fs)->X.s₀.heap.FunFrames X.base l->s.heap.FunFrames X.base l:=by
  intro l
  induction l with
  | nil=>intro _ _;trivial
  | cons env r ih =>
   intro hs hl
   obtain⟨hk,⟨L,o,hf,hn,ho,hd⟩,hr⟩:=hl
   have hL:L∈X.fs:=hs L (by unfold frs;rw[uam,hf];exact g9)
   obtain⟨sl,e⟩:=I.base.slot L o ho (I.ok.frf L hL) hL λ z=>I.ok.exfs L z hL
   exact⟨hk,⟨L,_,hf,hn,e,hd⟩,ih (λ b hb=>hs b (by unfold frs;rw[uam,hf];exact j4 _ hb)) hr⟩
 exact all X.outer (λ _ hb=>hb) I.ok.funs
theorem Inv.stack (I:Inv X pins σ H s):s.heap.FunFrames X.base X.stack:=by
 rcases I.ok.stk with e | ⟨e,hf⟩
 ·rw[e];exact I.funs
 ·rw[e]
  obtain⟨m,hn,_⟩:=I.loc
  refine .cons (by rw[I.ok.kind];decide) hf hn ?_ I.funs
  exact Heap.get?_none_of_le (o8 I.ok.bsz I.ok.above)
theorem Inv.stkSub (I:Inv X pins σ H s):∀ b∈frs X.stack,b∈X.env.locals::X.fs:=λ b hb=>by
 rcases I.ok.stk with e | ⟨e,hf⟩
 ·rw[e] at hb;exact j4 _ hb
 ·rw[e] at hb
  unfold frs at hb
  rw[uam,hf] at hb
  exact hb
theorem Inv.stkFree (I:Inv X pins σ H s):∀ b∈frs X.stack,H b=none:=λ b hb=>by
 rcases h9.mp (I.stkSub b hb) with e | hb
 ·rw[e];exact I.free
 ·obtain⟨_,o,ho,_⟩:=I.ok.funs.mem hb
  exact I.base.free b o ho (I.ok.frf b hb) λ z=>I.ok.exfs b z hb
theorem Inv.step {g':Array GenState}{t':Nat}{d':Drawn}{ch:List j8}(I:Inv X pins σ H s)
  (hch:∀ b∈ch,(b∈X.ex\/X.s₀.heap.objs.size<=b)/\b≠X.env.locals/\(∀ x c,X.env.cells.lookup x=some c->c≠b)/\∀ p∈X.pn++pins,p.1≠b)
  (keep:∀ b o,b≠X.env.locals->b∉X.fs->b∉ch->s.heap.get? b=some o->H b=none->h'.get? b=some o)
  (slot:∀ b o,b≠X.env.locals->b∈X.fs->b∉ch->s.heap.get? b=some o->H b=none->∃ sl,h'.get? b=some { o with slots:=sl }) (free:∀ b o,b∉ch->s.heap.get? b=some o->H b=none->H' b=none)
  (there:∀ b o,b∉ch->s.heap.get? b=some o->∃ o',h'.get? b=some o')
  (tups:∀ b xs,H b=some (.tup xs)->H' b=some (.tup xs)) (frzs:∀ b o u,H b=some (.frz o u)->H' b=some (.frz o u)) (tbls:∀ b ps,H b=some (.tbl ps)->∃ more,H' b=some (.tbl (ps++more)))
  (ns:∀ m,s.heap.Ns X.env.locals m->h'.Ns X.env.locals m) (hok:HOk X.prog X.w H' h') (hg:AllBare g') :
  Inv X pins σ H' { s with heap:=h',gens:=g',drawn:=d',toks:=t' }:=by
 have neL:∀ b o,X.s₀.heap.get? b=some o->b≠X.env.locals:=λ b o e=>l9 (m8 (i7 e) I.ok.above)
 have neC:∀ b o,X.s₀.heap.get? b=some o->b∉X.ex->b∉ch:=λ b o e hx hb=>by
  rcases (hch b hb).1 with z | z
  ·exact hx z
  ·exact absurd (m8 (i7 e) z) (uap _)
 have cellK:∀ x c,X.env.cells.lookup x=some c->∀ v,s.heap.IsCell c v->h'.IsCell c v:=λ x c e v ⟨o,ho,hd⟩=>by
  have nch:c∉ch:=λ z=>(hch c z).2.2.1 x c e rfl
  by_cases hc:c∈X.fs
  ·obtain⟨sl,q⟩:=slot c o (I.cne x c e) hc nch ho (I.freeC x c e)
   exact⟨_,q,hd⟩
  ·exact⟨o,keep c o (I.cne x c e) hc nch ho (I.freeC x c e),hd⟩
 refine⟨I.ok,I.os,hg,⟨λ b o e n hb hx=>?_,λ b o e n hb hx=>?_,λ b o e n hx=>?_,λ b o e hx=>?_,λ b xs e=>tups b xs (I.base.tups b xs e),λ b o xs e=>frzs b o xs (I.base.frzs b o xs e),λ b ps e=>?_⟩,?_,λ x c e=>?_,?_,λ x c e=>?_,λ p hp=>?_,hok,I.len⟩
 ·exact keep b o (neL b o e) hb (neC b o e hx) (I.base.keep b o e n hb hx) (I.base.free b o e n hx)
 ·obtain⟨sl,e1⟩:=I.base.slot b o e n hb hx
  obtain⟨sl',e2⟩:=slot b _ (neL b o e) hb (neC b o e hx) e1 (I.base.free b o e n hx)
  exact⟨sl',e2⟩
 ·obtain⟨o',e1⟩:=I.base.there b o e hx
  exact free b o' (neC b o e hx) e1 (I.base.free b o e n hx)
 ·obtain⟨o',e1⟩:=I.base.there b o e hx
  exact there b o' (neC b o e hx) e1
 ·obtain⟨m1,e1⟩:=I.base.tbls b ps e
  obtain⟨m2,e2⟩:=tbls b _ e1
  exact⟨m1++m2,by rw[e2,Array.append_assoc]⟩
 ·obtain⟨m,hn,hl⟩:=I.loc
  refine⟨m,ns m hn,λ i x v e1 e2 e3=>?_⟩
  obtain⟨u,r,l⟩:=hl i x v e1 e2 e3
  refine⟨u,r,?_⟩
  rcases l with l | ⟨k,c,e,z⟩
  ·exact .inl l
  ·exact .inr ⟨k,c,e,cellK x c e _ z⟩
 ·obtain⟨v,z⟩:=I.cell x c e
  exact⟨v,cellK x c e v z⟩
 ·obtain⟨m,⟨o,_,_,ho,_⟩,_⟩:=I.loc
  exact free _ o (λ z=>(hch _ z).2.1 rfl) ho I.free
 ·obtain⟨v,o,ho,hd⟩:=I.cell x c e
  exact free c o (λ z=>(hch c z).2.2.1 x c e rfl) ho (I.freeC x c e)
 ·obtain⟨e,n,ne,nf,d⟩:=I.pin p hp
  have nch:p.1∉ch:=λ z=>(hch p.1 z).2.2.2 p hp rfl
  exact⟨keep p.1 p.2 ne nf nch e n,free p.1 p.2 nch e n,ne,nf,d⟩
theorem Inv.un {t':Nat}(I:Inv X pins σ H s)(u:Un X.fs [] H H' s.heap h')(hok:HOk X.prog X.w H' h'):Inv X pins σ H' { s with heap:=h',toks:=t' }:=by
 obtain⟨m,⟨o,es,ep,ho,r⟩,_⟩:=id I.loc
 obtain⟨sl,hL⟩:=u.any ho I.free (by simp)
 exact I.step (g':=s.gens) (d':=s.drawn) (ch:=[]) (λ _ z=>nomatch z) (λ b o _ hb _ e n=>u.keep b o e n hb (by simp)) (λ b o _ hb _ e n=>u.slot b o e n hb (by simp)) (λ b o _ e n=>u.free b o e n (by simp)) (λ b o _ e=>u.there b o e (by simp)) u.tups u.frzs u.tbls (λ m' hm=>by
  obtain⟨o',es',ep',ho',r'⟩:=hm
  rw[ho] at ho';cases ho'
  exact⟨_,es',ep',hL,r'⟩) hok I.bare
theorem Inv.call {g':Array GenState}{t':Nat}{d':Drawn}{ch:List j8}(I:Inv X pins σ H s)(u:Un (frs X.stack) ch H H' s.heap h')(hok:HOk X.prog X.w H' h')(hg:AllBare g')
  (hch:∀ b∈ch,(b∈X.ex\/X.s₀.heap.objs.size<=b)/\b≠X.env.locals/\(∀ x c,X.env.cells.lookup x=some c->c≠b)/\∀ p∈X.pn++pins,p.1≠b) :
  Inv X pins σ H' { s with heap:=h',gens:=g',drawn:=d',toks:=t' }:=by
 obtain⟨m,⟨o,es,ep,ho,r⟩,_⟩:=id I.loc
 obtain⟨sl,hL⟩:=u.any ho I.free λ z=>(hch _ z).2.1 rfl
 exact I.step (ch:=ch) hch (λ b o hL hb hc e n=>u.keep b o e n (λ z=>(h9.mp (I.stkSub b z)).elim hL hb) hc) (λ b o _ _ hc e n=>u.any e n hc) (λ b o hc e n=>u.free b o e n hc) (λ b o hc e=>u.there b o e hc) u.tups u.frzs u.tbls (λ m' hm=>by
  obtain⟨o',es',ep',ho',r'⟩:=hm
  rw[ho] at ho';cases ho'
  exact⟨_,es',ep',hL,r'⟩) hok hg
theorem Inv.turned {t':Nat}{it:j8}(I:Inv X pins σ H s)(k:∀ b o,b≠it->s.heap.get? b=some o->h'.get? b=some o)(hn:H it=none)(hL:it≠X.env.locals)
  (h1:it∈X.ex\/X.s₀.heap.objs.size<=it) (h2:∀ x c,X.env.cells.lookup x=some c->c≠it) (h3:∀ p∈X.pn++pins,p.1≠it):Inv X pins σ H { s with heap:=h',toks:=t' }:=by
 have nit:∀ b u,H b=some u->b≠it:=λ b u e z=>by rw[z,hn] at e;cases e
 refine I.step (g':=s.gens) (d':=s.drawn) (ch:=[it]) (λ b hb=>?_) (λ b o _ _ hc e _=>k b o (λ z=>hc (by simp [z])) e) (λ b o _ _ hc e _=>⟨o.slots,k b o (λ z=>hc (by simp [z])) e⟩) (λ _ _ _ _ n=>n)
  (λ b o hc e=>⟨o,k b o (λ z=>hc (by simp [z])) e⟩) (λ _ _ e=>e) (λ _ _ _ e=>e) (λ b ps e=>⟨#[],by rw[e];simp⟩) (λ m hm=>?_) (λ b u e=>?_) I.bare
 ·have e:b=it:=by simpa using hb
  subst e
  exact⟨h1,hL,h2,h3⟩
 ·obtain⟨o,es,ep,ho,r⟩:=hm
  exact⟨o,es,ep,k _ o (Ne.symm hL) ho,r⟩
 ·refine (I.hok b u e).stay (λ c v hc q=>k c v ?_ q) (λ _ q=>q) λ _ _ q=>q
  rcases hc with z | z
  ·rw[z];exact nit b u e
  ·exact nit c _ z
theorem Inv.tok (I:Inv X pins σ H s)(t:Nat):Inv X pins σ H { s with toks:=t }:=I.un (h':=s.heap) (t':=t) Un.refl I.hok
theorem Inv.kept {t':Nat}(I:Inv X pins σ H s)(k:∀ b u,s.heap.get? b=some u->h'.get? b=some u):Inv X pins σ H { s with heap:=h',toks:=t' }:=I.un (Un.kept k) (I.hok.kept k)
theorem Inv.laid {a:j8}{o:HO}{t':Nat}(I:Inv X pins σ H s)(k:∀ b u,s.heap.get? b=some u->h'.get? b=some u)(hp:s.heap.objs.size<=a)(new:ObjOk X.prog X.w (upd H a o) h' a o) :
  Inv X pins σ (upd H a o) { s with heap:=h',toks:=t' }:=I.un (Un.laid k hp (I.hok.fresh hp)) (I.hok.laid k hp new)
theorem Inv.write {x e:j8}{o:HO}{t':Nat}(I:Inv X pins σ H s)(mu:Mut (H x))(he:e=x\/H e=some (.own x))(k:∀ b u,b≠e->s.heap.get? b=some u->h'.get? b=some u)(heo:∃ u,h'.get? e=some u)
  (new:ObjOk X.prog X.w (upd H x o) h' x o):Inv X pins σ (upd H x o) { s with heap:=h',toks:=t' }:=I.un (Un.write mu he k heo) (I.hok.write mu he k heo new)
theorem Inv.pins_of {pins':List (j8 × Obj)}(I:Inv X pins σ H s)(h:∀ p∈pins',s.heap.get? p.1=some p.2/\H p.1=none/\p.1≠X.env.locals/\p.1∉X.fs/\∀ v,p.2.data≠.cell v):Inv X pins' σ H s :=
 ⟨I.ok,I.os,I.bare,I.base,I.loc,I.cell,I.free,I.freeC,λ p hp=>(l8.mp hp).elim (λ z=>I.pin p (r8 _ z)) (h p),I.hok,I.len⟩
theorem mQ {N:List Str}(hN:N.Nodup){i j:Nat}{x:Str}(a:N[i]?=some x)(b:N[j]?=some x):i=j:=by
 obtain⟨h1,e1⟩:=i3.mp a
 obtain⟨h2,e2⟩:=i3.mp b
 exact (List.getElem_inj hN).mp (e1.trans e2.symm)
theorem lE {M:Model}{A:v7}{E:b9->c7->Prop}{i:Nat}{x:Str}{v:V}{u:b9}{Q:Unit->c7->Prop}(I:Inv X pins σ H s)(hN:X.N.Nodup)(hi:X.N[i]?=some x)(hx:Loc X.env.scope x)(r:RelV v u)
  (h:∀ s',Inv X pins (σ.set i (some v)) H s'->(∃ a,Heap.SameBut a s.heap s'.heap/\(a=X.env.locals\/X.env.cells.lookup x=some a))->Q () s') (hf:X.fn x=true\/X.env.scope.names.lookup x=some .local:=by first | exact .inl rfl | exact .inr rfl | assumption):k8 M A (storeName X.env x u) Q E s:=by
 obtain⟨m,hn,hl⟩:=id I.loc
 have hcls:(X.env.scope.kind==.class||(X.env.scope.kind==.module&&X.env.locals != X.env.globals))=false:=by rw[I.ok.kind];rfl
 have hiσ:i<σ.length:=by rw[I.len];exact (i3.mp hi).1
 have cne:=I.cne
 have tracked:∀ {a:j8}{h':Heap},(∃ o,s.heap.get? a=some o/\H a=none)->Heap.SameBut a s.heap h'->HOk X.prog X.w H h':=λ {a h'} ha hs b ob e=>by
  obtain⟨_,_,hfree⟩:=ha
  refine (I.hok b ob e).stay (λ c w' hc q=>(hs.2 c ?_).trans q) (λ _ q=>q) λ _ _ q=>q
  rintro rfl
  rcases hc with rfl | hc
  ·rw[hfree] at e;cases e
  ·rw[hfree] at hc;cases hc
 rcases hx with hk | hk
 ·refine wpAny_storeName_local hk hn (λ h' hn' hs=>?_) hcls
  obtain⟨oL,_,_,hoL,_⟩:=id hn
  refine h _ ⟨I.ok,I.os,I.bare,⟨λ b o e n hb hx=>?_,λ b o e n hb hx=>?_,I.base.free,λ b o e hx=>?_,I.base.tups,I.base.frzs,I.base.tbls⟩,⟨_,hn',λ j y v' e1 e2 e3=>?_⟩,λ y c e=>?_,I.free,I.freeC,λ p hp=>?_,tracked ⟨oL,hoL,I.free⟩ hs,by simpa using I.len⟩ ⟨_,hs,.inl rfl⟩
  ·exact (hs.2 b (l9 (m8 (i7 e) I.ok.above))).trans (I.base.keep b o e n hb hx)
  ·obtain⟨sl,e1⟩:=I.base.slot b o e n hb hx
   exact⟨sl,(hs.2 b (l9 (m8 (i7 e) I.ok.above))).trans e1⟩
  ·obtain⟨o',e1⟩:=I.base.there b o e hx
   exact⟨o',(hs.2 b (l9 (m8 (i7 e) I.ok.above))).trans e1⟩
  ·by_cases hj:j=i
   ·subst hj
    rw[hi] at e1;cases e1
    rw[udz hiσ] at e2
    cases e2
    exact⟨u,r,.inl ⟨hk,by simp⟩⟩
   ·rw[uec (Ne.symm hj)] at e2
    obtain⟨u',r',q⟩:=hl j y v' e1 e2 e3
    refine⟨u',r',?_⟩
    rcases q with ⟨k,e⟩ | ⟨k,c,e,z⟩
    ·refine .inl ⟨k,?_⟩
     have:y≠x:=λ e=>hj (mQ hN e1 (e ▸ hi))
     simp [this,e]
    ·exact .inr ⟨k,c,e,z.sameBut hs (cne y c e)⟩
  ·obtain⟨w',z⟩:=I.cell y c e
   exact⟨w',z.sameBut hs (cne y c e)⟩
  ·obtain⟨e,n,ne,nf,d⟩:=I.pin p hp
   exact⟨(hs.2 p.1 ne).trans e,n,ne,nf,d⟩
 ·have hfn:X.fn x=true:=by
   rcases hf with z | z
   ·exact z
   ·rw[z] at hk;cases hk
  obtain⟨c,hc⟩:=I.ok.has x (.inl hk)
  obtain⟨w',z⟩:=I.cell x c hc
  refine wpAny_storeName_cell I.ok.kind hk hc z (λ h' hc' hs=>?_)
  obtain⟨oc,hoc,hocd⟩:=id z
  refine h { s with heap:=h' } ⟨I.ok,I.os,I.bare,⟨λ b o e n hb hx=>?_,λ b o e n hb hx=>?_,I.base.free,λ b o e hx=>?_,I.base.tups,I.base.frzs,I.base.tbls⟩,⟨m,hn.sameBut hs (Ne.symm (cne x c hc)),λ j y v' e1 e2 e3=>?_⟩,λ y c' e=>?_,I.free,I.freeC,λ p hp=>?_,tracked ⟨oc,hoc,I.freeC x c hc⟩ hs,by simpa using I.len⟩ ⟨c,hs,.inr hc⟩
  ·exact (hs.2 b (l9 (m8 (i7 e) (I.ok.cab x c hfn hc)))).trans (I.base.keep b o e n hb hx)
  ·obtain⟨sl,e1⟩:=I.base.slot b o e n hb hx
   exact⟨sl,(hs.2 b (l9 (m8 (i7 e) (I.ok.cab x c hfn hc)))).trans e1⟩
  ·obtain⟨o',e1⟩:=I.base.there b o e hx
   exact⟨o',(hs.2 b (l9 (m8 (i7 e) (I.ok.cab x c hfn hc)))).trans e1⟩
  ·by_cases hj:j=i
   ·subst hj
    rw[hi] at e1;cases e1
    rw[udz hiσ] at e2
    cases e2
    exact⟨u,r,.inr ⟨.inl hk,c,hc,hc'⟩⟩
   ·rw[uec (Ne.symm hj)] at e2
    obtain⟨u',r',q⟩:=hl j y v' e1 e2 e3
    refine⟨u',r',?_⟩
    rcases q with q | ⟨k,c',e,z'⟩
    ·exact .inl q
    ·refine .inr ⟨k,c',e,z'.sameBut hs ?_⟩
     rintro rfl
     exact hj (mQ hN e1 (I.ok.inj _ _ _ e hc ▸ hi))
  ·by_cases hcc:c'=c
   ·subst hcc;exact⟨_,hc'⟩
   ·obtain⟨w2,z2⟩:=I.cell y c' e
    exact⟨w2,z2.sameBut hs hcc⟩
  ·obtain⟨e,n,ne,nf,d⟩:=I.pin p hp
   refine⟨(hs.2 p.1 ?_).trans e,n,ne,nf,d⟩
   intro q
   rw[q,hoc] at e
   have q':oc=p.2:=j5 e
   exact d w' (by rw[← q'];exact hocd)
theorem mH {M:Model}{A:v7}{E:b9->c7->Prop}{i:Nat}{x:Str}{v:V}{u:b9}{Q:Unit->c7->Prop}(I:Inv X pins σ H s)(hN:X.N.Nodup)(hi:X.N[i]?=some x)(hx:Loc X.env.scope x)(r:RelV v u)
  (h:∀ s',Inv X pins (σ.set i (some v)) H s'->Q () s') (hf:X.fn x=true\/X.env.scope.names.lookup x=some .local:=by first | exact .inl rfl | exact .inr rfl | assumption):k8 M A (storeName X.env x u) Q E s :=
 lE I hN hi hx r (λ s' I' _=>h s' I') hf
theorem Inv.call' {s':c7}{ch:List j8}(I:Inv X pins σ H s)(ho:s'.os=s.os)(u:Un (frs X.stack) ch H H' s.heap s'.heap)(hok:HOk X.prog X.w H' s'.heap)(hg:AllBare s'.gens)
  (hch:∀ b∈ch,(b∈X.ex\/X.s₀.heap.objs.size<=b)/\b≠X.env.locals/\(∀ x c,X.env.cells.lookup x=some c->c≠b)/\∀ p∈X.pn++pins,p.1≠b):Inv X pins σ H' s':=by
 obtain⟨h',g',d',t',o'⟩:=s'
 have e:o'=s.os:=ho
 subst e
 exact I.call (g':=g') (t':=t') (d':=d') u hok hg hch
end
abbrev XK:=b9->Option j8->Hp->Prop
abbrev St:=List (Option V)
abbrev VK:=V->Hp->Prop
abbrev TE:=St->Hp->VK->Prop
abbrev TT:=St->Hp->(Bool->Hp->Prop)->Prop
abbrev TA:=St->Hp->(List V->Hp->Prop)->Prop
structure Ends where
 nx:St->Hp->Prop
 rt:VK
 bk:St->Hp->Prop:=λ _ _=>False
 ct:St->Hp->Prop:=λ _ _=>False
abbrev TS:=Ends->St->Hp->Prop
def EP (X:Cx)(pins:List (j8 × Obj))(σ:St)(Q:VK)(u:b9)(s':c7):Prop:=∃ v H',Inv X pins σ H' s'/\RelV v u/\Q v H'
def TP (X:Cx)(pins:List (j8 × Obj))(σ:St)(Q:Bool->Hp->Prop)(b:Bool)(s':c7):Prop:=∃ H',Inv X pins σ H' s'/\Q b H'
def AP (X:Cx)(pins:List (j8 × Obj))(σ:St)(Q:List V->Hp->Prop)(us:List b9)(s':c7):Prop:=∃ vs H',Inv X pins σ H' s'/\Vals vs us/\Q vs H'
def SP (X:Cx)(pins:List (j8 × Obj))(D:Ends)(f:Flow)(s':c7):Prop :=
 match f with
 | .next=>∃ σ' H',Inv X pins σ' H' s'/\D.nx σ' H'
 | .brk=>∃ σ' H',Inv X pins σ' H' s'/\D.bk σ' H'
 | .cont=>∃ σ' H',Inv X pins σ' H' s'/\D.ct σ' H'
 | .ret u=>∃ v σ' H',Inv X pins σ' H' s'/\RelV v u/\D.rt v H'
def PE (X:Cx)(e:ubv)(t:TE):Prop :=
 ∀ (pins:List (j8 × Obj))(s:c7)(σ:St)(H:Hp)(Q:VK),Inv X pins σ H s->t σ H Q->k8 (v5 X.prog X.w) X.A (eval e X.env) (EP X pins σ Q) X.xe s
def PT (X:Cx)(e:ubv)(t:TT):Prop :=
 ∀ (pins:List (j8 × Obj))(s:c7)(σ:St)(H:Hp)(Q:Bool->Hp->Prop),Inv X pins σ H s->t σ H Q->k8 (v5 X.prog X.w) X.A (isTrue e X.env (eval e X.env)) (TP X pins σ Q) X.xe s
def PW (X:Cx)(e:ubv)(t:TT):Prop :=
 ∀ (whole:Sem b9)(pins:List (j8 × Obj))(s:c7)(σ:St)(H:Hp)(Q:Bool->Hp->Prop),Inv X pins σ H s->t σ H Q->k8 (v5 X.prog X.w) X.A (isTrue e X.env whole) (TP X pins σ Q) X.xe s
theorem PW.pt {X:Cx}{e:ubv}{t:TT}(h:PW X e t):PT X e t:=h _
def PA (X:Cx)(es:List ubv)(t:TA):Prop :=
 ∀ (pos:Pos)(pins:List (j8 × Obj))(s:c7)(σ:St)(H:Hp)(Q:List V->Hp->Prop),Inv X pins σ H s->t σ H Q->k8 (v5 X.prog X.w) X.A (spliced (backTo pos (uae es X.env))) (AP X pins σ Q) X.xe s
def PS (X:Cx)(st:ucy)(t:TS):Prop :=
 ∀ (pins:List (j8 × Obj))(s:c7)(σ:St)(H:Hp)(D:Ends),Inv X pins σ H s->t D σ H->k8 (v5 X.prog X.w) X.A (exec st X.env) (SP X pins D) X.xe s
def PSs (X:Cx)(st:List ucy)(t:TS):Prop :=
 ∀ (pins:List (j8 × Obj))(s:c7)(σ:St)(H:Hp)(D:Ends),Inv X pins σ H s->t D σ H->k8 (v5 X.prog X.w) X.A (execs st X.env) (SP X pins D) X.xe s
theorem thn {α:Type}{t:Sem α}{Q Q':α->c7->Prop}{M:Model}{A:v7}{E:b9->c7->Prop}{s:c7}(h:k8 M A t Q E s)(hQ:∀ a s,Q a s->Q' a s):k8 M A t Q' E s:=ubx h hQ λ _ _ x=>x
end L2
namespace L2
open PySem PySem.Spec PyProof.Rows
section
variable {X:Cx}
inductive EVar (σ:L2.St)(i:Nat)(Q:V->Prop):Prop
 | mk:∀ v,(σ[i]?=some (some v))->Q v->EVar σ i Q
inductive EBl (x:V)(Q:Bool->Prop):Prop
 | mk:∀ c,(x=.bl c)->Q c->EBl x Q
inductive EInt (x:V)(Q:Int->Prop):Prop
 | mk:∀ i,(x=.int i)->Q i->EInt x Q
inductive ERef (x:V)(Q:j8->Prop):Prop
 | mk:∀ a,(x=.ref a)->Q a->ERef x Q
inductive EOne (vs:List V)(Q:Int->Prop):Prop
 | mk:∀ j,(vs=[.int j])->Q j->EOne vs Q
inductive ETwo (vs:List V)(Q:V->V->Prop):Prop
 | mk:∀ v w,(vs=[v,w])->Q v w->ETwo vs Q
def tVar (i:Nat):TE:=λ σ H Q=>EVar σ i λ v=>Q v H
def tC (v:V):TE:=λ _ H Q=>Q v H
theorem zN {i:Nat}{x:Str}{pos:Pos}(hN:X.N[i]?=some x)(hv:Vis X.env.scope x)(hd:(x==("__debug__":Str))=false:=by decide)(hcd:(x==("__classdict__":Str))=false:=by decide):PE X (.Name x pos) (tVar i):=by
 intro pins s σ H Q I h
 obtain⟨v,e,h⟩:=h
 obtain⟨m,hn,hl⟩:=I.loc
 obtain⟨u,r,l⟩:=hl i x v hN e hv
 have fin:EP X pins σ Q u s:=⟨v,H,I,r,h⟩
 rcases l with ⟨hk,hm⟩ | ⟨hk,c,hc,hcell⟩
 ·exact wpAny_Name (wpAny_loadName_local I.ok.kind hk hn hm fin) hd
 ·rcases hk with hk | hk
  ·exact wpAny_Name (wpAny_loadName_cell I.ok.kind hk hc hcell fin) hd
  ·exact wpAny_Name (wpAny_loadName_free I.ok.kind hk hc hcell fin hcd) hd
theorem aB {i j pos}:PE X (.Constant (.int i) j pos) (tC (.int i)):=λ _ _ _ H _ I h=>wpAny_Constant_int ⟨.int i,H,I.tok _,⟨_,rfl⟩,h⟩
theorem dG {b j pos}:PE X (.Constant (.bool b) j pos) (tC (.bl b)):=λ _ _ _ H _ I h=>Constant_bool ⟨.bl b,H,I,rfl,h⟩
theorem bC {j pos}:PE X (.Constant .none j pos) (tC .non):=λ _ _ _ H _ I h=>Constant_none ⟨.non,H,I,rfl,h⟩
def Gl (X:Cx)(x:Str):Prop:=X.env.kindOf x=some .globalImplicit
theorem yT {E:b9->c7->Prop}{pins:List (j8 × Obj)}{s:c7}{σ:St}{H:Hp}{x:Str}{u:b9}{pos:Pos}{Q:b9->c7->Prop}(I:Inv X pins σ H s)(hg:Gl X x)(hm:X.mg x=some u)(h:Q u s)
  (hd:(x==("__debug__":Str))=false:=by decide):k8 (v5 X.prog X.w) X.A (eval (.Name x pos) X.env) Q E s :=
 Calls.Name_function_global I.ok.kind hg (Calls.loadGlobal_global (by rw[I.ok.glob];exact I.mod.glob.keeps I.bk) hm h) hd
theorem cU {E:b9->c7->Prop}{pins:List (j8 × Obj)}{s:c7}{σ:St}{H:Hp}{x:Str}{u:b9}{pos:Pos}{Q:b9->c7->Prop}(I:Inv X pins σ H s)(hg:Gl X x)(hm:X.mg x=none)(hv:bootBuiltins x=some u)(h:Q u s)
  (hn:x≠"__name__":=by decide) (hd:(x==("__debug__":Str))=false:=by decide):k8 (v5 X.prog X.w) X.A (eval (.Name x pos) X.env) Q E s:=by
 obtain⟨mb,h1,h2⟩:=I.mod.blt
 exact Calls.Name_function_global I.ok.kind hg (Calls.loadGlobal_builtin (by rw[I.ok.glob];exact I.mod.glob.keeps I.bk) hm (by rw[I.ok.blt];exact h1.keeps I.bk) ((h2 x hn).trans hv) h) hd
theorem eI {x:Str}{v:V}{u:b9}{pos:Pos}(hg:Gl X x)(hm:X.mg x=none)(hv:bootBuiltins x=some u)(r:RelV v u)(hn:x≠"__name__":=by decide)(hd:(x==("__debug__":Str))=false:=by decide):PE X (.Name x pos) (tC v) :=
 λ _ _ _ H _ I h=>cU I hg hm hv ⟨v,H,I,r,h⟩ hn hd
variable {a b:ubv}{ta tb:TE}{pos:Pos}
def tB (t:TE):TT:=λ σ H Q=>t σ H λ x H1=>EBl x λ c=>Q c H1
theorem dS {e:ubv}{t:TE}(h:PE X e t)(he:∀ whole,isTrue e X.env whole=(do let v ← whole;standAt e.pos;holding [v] (truthy v)):=by intro _;rfl):PT X e (tB t):=by
 intro pins s σ H Q I hw
 refine isTrue_plain (thn (h pins s σ H _ I hw) λ v s1 ⟨x,H1,I1,r1,q1⟩=>?_) (he _)
 obtain⟨d,rfl,q⟩:=q1
 cases r1
 exact ubs ⟨H1,I1,q⟩
variable {tA tB':TT}{rest:List ubv}
def tAnd (t u:TT):TT:=λ σ H Q=>t σ H λ c H1=>if c=true then u σ H1 Q else Q false H1
def tOr (t u:TT):TT:=λ σ H Q=>t σ H λ c H1=>if c=true then Q true H1 else u σ H1 Q
def tNot (t:TT):TT:=λ σ H Q=>t σ H λ c H1=>Q (!c) H1
theorem fI (ha:PT X a tA):PW X (.BoolOp .And [a] pos) tA:=by
 intro wh pins s σ H Q I h
 refine isTrue_and (thn (ha pins s σ H Q I h) λ c s1 e=>?_)
 cases c with
 | true=>exact isTrue_and_nil e
 | false=>exact e
theorem eK (ha:PT X a tA):PW X (.BoolOp .Or [a] pos) tA:=by
 intro wh pins s σ H Q I h
 refine isTrue_or (thn (ha pins s σ H Q I h) λ c s1 e=>?_)
 cases c with
 | false=>exact isTrue_or_nil e
 | true=>exact e
theorem eM (ha:PT X a tA)(hb:PW X (.BoolOp .And (b::rest) pos) tB'):PW X (.BoolOp .And (a::b::rest) pos) (tAnd tA tB'):=by
 intro wh pins s σ H Q I h
 refine isTrue_and (thn (ha pins s σ H _ I h) λ c s1 ⟨H1,I1,q1⟩=>?_)
 cases c with
 | true=>exact hb wh pins s1 σ H1 Q I1 q1
 | false=>exact⟨H1,I1,q1⟩
theorem eN (ha:PT X a tA)(hb:PW X (.BoolOp .Or (b::rest) pos) tB'):PW X (.BoolOp .Or (a::b::rest) pos) (tOr tA tB'):=by
 intro wh pins s σ H Q I h
 refine isTrue_or (thn (ha pins s σ H _ I h) λ c s1 ⟨H1,I1,q1⟩=>?_)
 cases c with
 | true=>exact⟨H1,I1,q1⟩
 | false=>exact hb wh pins s1 σ H1 Q I1 q1
theorem jO (ha:PT X a tA):PT X (.UnaryOp .Not a pos) (tNot tA):=by
 intro pins s σ H Q I h
 exact isTrue_not (ha pins s σ H (λ c H1=>Q (!c) H1) I h)
def tAndV (ta tb:TE):TE:=λ σ H Q=>ta σ H λ x H1=>EBl x λ c=>if c=true then tb σ H1 Q else Q (.bl false) H1
def tOrV (ta tb:TE):TE:=λ σ H Q=>ta σ H λ x H1=>EBl x λ c=>if c=true then Q (.bl true) H1 else tb σ H1 Q
def tNotV (ta:TE):TE:=λ σ H Q=>ta σ H λ x H1=>EBl x λ c=>Q (.bl (!c)) H1
theorem dE {op} {t:TE} (h:PE X a t):PE X (.BoolOp op [a] pos) t:=λ pins s σ H Q I hw=>BoolOp_one (h pins s σ H Q I hw)
theorem fN (ha:PE X a ta)(hb:PE X (.BoolOp .And (b::rest) pos) tb):PE X (.BoolOp .And (a::b::rest) pos) (tAndV ta tb):=by
 intro pins s σ H Q I h
 refine BoolOp_and (thn (ha pins s σ H _ I h) λ v s1 ⟨x,H1,I1,r1,q1⟩=>?_)
 obtain⟨c,rfl,q1⟩:=q1
 cases r1
 refine ubs ?_
 cases c with
 | true=>exact hb pins s1 σ H1 Q I1 q1
 | false=>exact⟨.bl false,H1,I1,rfl,q1⟩
theorem jU (ha:PE X a ta)(hb:PE X (.BoolOp .Or (b::rest) pos) tb):PE X (.BoolOp .Or (a::b::rest) pos) (tOrV ta tb):=by
 intro pins s σ H Q I h
 refine BoolOp_or (thn (ha pins s σ H _ I h) λ v s1 ⟨x,H1,I1,r1,q1⟩=>?_)
 obtain⟨c,rfl,q1⟩:=q1
 cases r1
 refine ubs ?_
 cases c with
 | false=>exact hb pins s1 σ H1 Q I1 q1
 | true=>exact⟨.bl true,H1,I1,rfl,q1⟩
theorem oV (ha:PE X a ta):PE X (.UnaryOp .Not a pos) (tNotV ta):=by
 intro pins s σ H Q I h
 refine UnaryOp_ (thn (ha pins s σ H _ I h) λ v s1 ⟨x,H1,I1,r1,q1⟩=>?_)
 obtain⟨c,rfl,q1⟩:=q1
 cases r1
 exact not_of (ubs ⟨.bl (!c),H1,I1,rfl,q1⟩)
end
end L2
namespace L2
open PySem PySem.Spec PyProof.Rows
def SqL (K:a9)(H:Hp)(a:j8)(xs:List V):Prop :=
 Rd H a (.lst xs) \/
  ∃ (o:Obj)(its:Array b9)(n:Nat),K.lookup a=some o/\o.cls=.type "list"/\o.dict=none/\o.data=.seq its n/\its.size<=m3/\Vals xs its.toList
def SqT (K:a9)(H:Hp)(a:j8)(xs:List V):Prop :=
 Rd H a (.tup xs) \/
  ∃ (o:Obj)(its:Array b9)(n:Nat),K.lookup a=some o/\o.cls=.type "tuple"/\o.data=.seq its n/\its.size<=m3/\Vals xs its.toList
def absV:b9->Option V
 | .none=>some .non
 | .bool b=>some (.bl b)
 | .int i _=>some (.int i)
 | .str x _=>some (.str x)
 | .bytes b _=>some (.byt b)
 | .float b _=>some (.flt b)
 | .ref a=>some (.ref a)
 | .type n=>some (.ty n)
 | _=>none
theorem RelV.abs {x:V}{u:b9}(r:RelV x u):absV u=some x:=by
 cases x with
 | non=>cases r;rfl
 | bl _=>cases r;rfl
 | int _=>obtain⟨t,rfl⟩:=r;rfl
 | str _=>obtain⟨t,rfl⟩:=r;rfl
 | byt _=>obtain⟨t,rfl⟩:=r;rfl
 | flt _=>obtain⟨t,rfl⟩:=r;rfl
 | ref _=>cases r;rfl
 | ty _=>cases r;rfl
theorem RelV.inj {x y:V}{u:b9}(r:RelV x u)(q:RelV y u):x=y:=j5 (r.abs.symm.trans q.abs)
theorem Vals.inj:∀ {xs ys:List V}{us:List b9},Vals xs us->Vals ys us->xs=ys
 | _,_,_,.nil,.nil=>rfl
 | _,_,_,.cons r t,.cons r' t'=>by rw[r.inj r',Vals.inj t t']
section
variable {X:Cx}{pins:List (j8 × Obj)}{σ:St}{H:Hp}{s:c7}{a:j8}{xs ys:List V}
theorem SqL.of {K:a9}(h:H a=some (.lst xs)):SqL K H a xs:=.inl (.inl h)
theorem SqT.of {K:a9}(h:H a=some (.tup xs)):SqT K H a xs:=.inl (.inl h)
theorem Inv.list (I:Inv X pins σ H s)(h:SqL X.K H a xs):∃ its:List b9,Vals xs its/\PlainL s.heap a its.toArray/\xs.length<=m3:=by
 rcases h with h | ⟨o,its,n,hk,hc,hd,hs,hz,r⟩
 ·obtain⟨z,its,n,r,e⟩:=h.ok I.hok
  exact⟨its,r,⟨_,n,e,rfl,rfl,rfl⟩,z⟩
 ·refine⟨its.toList,r,⟨o,n,I.kIn a o hk,hc,hd,by simpa using hs⟩,?_⟩
  have e:=r.length
  simp only [ubh] at e
  left
theorem Inv.tuple (I:Inv X pins σ H s)(h:SqT X.K H a xs):∃ its:List b9,Vals xs its/\IsTup s.heap a its.toArray/\xs.length<=m3:=by
 rcases h with h | ⟨o,its,n,hk,hc,hs,hz,r⟩
 ·obtain⟨z,its,r,p⟩:=h.ok I.hok
  exact⟨its,r,p.tup,z⟩
 ·refine⟨its.toList,r,⟨o,I.kIn a o hk,hc,n,by simpa using hs⟩,?_⟩
  have e:=r.length
  simp only [ubh] at e
  left
theorem Inv.list_inj (I:Inv X pins σ H s)(h:SqL X.K H a xs)(h':SqL X.K H a ys):xs=ys:=by
 obtain⟨its,r,⟨o,n,e,_,_,d⟩,_⟩:=I.list h
 obtain⟨its',r',⟨o',n',e',_,_,d'⟩,_⟩:=I.list h'
 rw[e] at e';cases e'
 rw[d] at d'
 injection d' with d1 _
 have:its=its':=by simpa using congrArg Array.toList d1
 subst this
 exact r.inj r'
theorem Inv.tuple_inj (I:Inv X pins σ H s)(h:SqT X.K H a xs)(h':SqT X.K H a ys):xs=ys:=by
 obtain⟨its,r,⟨o,e,_,n,d⟩,_⟩:=I.tuple h
 obtain⟨its',r',⟨o',e',_,n',d'⟩,_⟩:=I.tuple h'
 rw[e] at e';cases e'
 rw[d] at d'
 injection d' with d1 _
 have:its=its':=by simpa using congrArg Array.toList d1
 subst this
 exact r.inj r'
end
abbrev Cx.wish (X:Cx)(E:b9->c7->Prop):Cx:={ X with xe:=E }
abbrev Cx.nox (X:Cx):Cx:=X.wish λ _ _=>False
theorem Cx.Ok.wish {X:Cx}(ok:X.Ok)(E:b9->c7->Prop):(X.wish E).Ok :=
 ⟨ok.mod,ok.kind,ok.glob,ok.blt,ok.above,ok.inj,ok.has,ok.cab,ok.hd,ok.frames,ok.stk,ok.exf,ok.bs,ok.bsz,ok.noex,ok.exfs,ok.funs,ok.frf⟩
theorem Cx.Ok.unwish {X:Cx}{E:b9->c7->Prop}(ok:(X.wish E).Ok):X.Ok :=
 ⟨ok.mod,ok.kind,ok.glob,ok.blt,ok.above,ok.inj,ok.has,ok.cab,ok.hd,ok.frames,ok.stk,ok.exf,ok.bs,ok.bsz,ok.noex,ok.exfs,ok.funs,ok.frf⟩
section
variable {X:Cx}{pins:List (j8 × Obj)}{σ:St}{H:Hp}{s:c7}{E:b9->c7->Prop}
theorem Inv.wish (I:Inv X pins σ H s)(E:b9->c7->Prop):Inv (X.wish E) pins σ H s:=⟨I.ok.wish E,I.os,I.bare,I.base,I.loc,I.cell,I.free,I.freeC,I.pin,I.hok,I.len⟩
theorem Inv.unwish (I:Inv (X.wish E) pins σ H s):Inv X pins σ H s:=⟨I.ok.unwish,I.os,I.bare,I.base,I.loc,I.cell,I.free,I.freeC,I.pin,I.hok,I.len⟩
theorem SP.unwish {D:Ends}{f:Flow}{s':c7}(h:SP (X.wish E) pins D f s'):SP X pins D f s':=by
 cases f with
 | next=>obtain⟨σ',H',I,q⟩:=h;exact⟨σ',H',I.unwish,q⟩
 | brk=>obtain⟨σ',H',I,q⟩:=h;exact⟨σ',H',I.unwish,q⟩
 | cont=>obtain⟨σ',H',I,q⟩:=h;exact⟨σ',H',I.unwish,q⟩
 | ret u=>obtain⟨v,σ',H',I,r,q⟩:=h;exact⟨v,σ',H',I.unwish,r,q⟩
theorem PSs.nox {st:List ucy}{t:TS}(h:PSs X.nox st t):PSs X st t:=λ pins s σ H D I hw =>
 ubx (h pins s σ H D (I.wish _) hw) (λ _ _ q=>q.unwish) λ _ _ z=>False.elim z
end
section
variable {X:Cx}{st:ucy}{rest:List ucy}{t u:TS}{e:ubv}{te:TE}{pos:Pos}
def tNext:TS:=λ D σ H=>D.nx σ H
def tSeq (t u:TS):TS:=λ D σ H=>t { D with nx:=u D } σ H
theorem aX:PSs X [] tNext:=λ _ _ σ H _ I h=>uei ⟨σ,H,I,h⟩
theorem aD (h1:PS X st t)(h2:PSs X rest u):PSs X (st::rest) (tSeq t u):=by
 intro pins s σ H D I h
 refine wpAny_execs_cons (thn (h1 pins s σ H { D with nx:=u D } I h) λ f s1 q=>?_)
 cases f with
 | next =>
  obtain⟨σ',H',I',q⟩:=q
  exact h2 pins s1 σ' H' D I' q
 | ret v=>exact q
 | brk=>exact q
 | cont=>exact q
theorem aE (h1:PS X st t):PSs X [st] t:=by
 intro pins s σ H D I h
 refine wpAny_execs_cons (thn (h1 pins s σ H D I h) λ f s1 q=>?_)
 cases f with
 | next=>exact uei q
 | ret v=>exact q
 | brk=>exact q
 | cont=>exact q
def tCont:TS:=λ D σ H=>D.ct σ H
theorem kG:PS X (.Continue pos) tCont:=λ _ _ σ H _ I h=>wpAny_Continue ⟨σ,H,I,h⟩
theorem Inv.quiet {pins:List (j8 × Obj)}{σ:St}{H:Hp}{s:c7}(I:Inv X pins σ H s):interactive X.env=false:=by simp [interactive,I.ok.kind]
def tDrop (te:TE):TS:=λ D σ H=>te σ H λ _ H1=>D.nx σ H1
theorem cQ (he:PE X e te)(hs:swapsWith e none pos.line X.env=pure false:=by rfl):PS X (.Expr e pos) (tDrop te):=by
 intro pins s σ H D I h
 exact wpAny_Expr_any (thn (he pins s σ H _ I h) λ v s1 ⟨x,H1,I1,r1,q1⟩=>⟨σ,H1,I1,q1⟩) I.quiet hs
def tRet (te:TE):TS:=λ D σ H=>te σ H D.rt
theorem aL (he:PE X e te):PS X (.Return (some e) pos) (tRet te):=by
 intro pins s σ H D I h
 exact wpAny_Return_some (thn (he pins s σ H _ I h) λ v s1 ⟨x,H1,I1,r1,q1⟩=>⟨x,σ,H1,I1,r1,q1⟩)
def tIfS (c:TT)(t u:TS):TS:=λ D σ H=>c σ H λ b H1=>if b=true then t D σ H1 else u D σ H1
theorem aW {c:ubv}{a b:List ucy}{tc:TT}(hc:PT X c tc)(ha:PSs X a t)(hb:PSs X b u):PS X (.If c a b pos) (tIfS tc t u):=by
 intro pins s σ H D I h
 refine wpAny_If (thn (hc pins s σ H _ I h) λ d s1 ⟨H1,I1,q1⟩=>?_)
 cases d with
 | true=>exact ha pins s1 σ H1 D I1 q1
 | false=>exact hb pins s1 σ H1 D I1 q1
end
abbrev TG:=V->St->Hp->(St->Hp->Prop)->Prop
abbrev TGs:=List V->St->Hp->(St->Hp->Prop)->Prop
def PG (X:Cx)(target:ubv)(t:TG):Prop :=
 ∀ (pins:List (j8 × Obj))(s:c7)(σ:St)(H:Hp)(v:V)(u:b9)(Q:St->Hp->Prop),Inv X pins σ H s->RelV v u->t v σ H Q ->
  k8 (v5 X.prog X.w) X.A (assign target X.env u) (λ _ s'=>∃ σ' H',Inv X pins σ' H' s'/\Q σ' H') X.xe s
def PGs (X:Cx)(ts:List ubv)(t:TGs):Prop :=
 ∀ (pins:List (j8 × Obj))(s:c7)(σ:St)(H:Hp)(vs:List V)(us:List b9)(Q:St->Hp->Prop),Inv X pins σ H s->Vals vs us->t vs σ H Q ->
  k8 (v5 X.prog X.w) X.A (assignInOrder ((assignEach ts X.env).map (·.2)) us) (λ _ s'=>∃ σ' H',Inv X pins σ' H' s'/\Q σ' H') X.xe s
abbrev TSet:=V->V->V->Hp->(Hp->Prop)->Prop
def PSet (X:Cx)(t:TSet):Prop :=
 ∀ (pins:List (j8 × Obj))(s:c7)(σ:St)(H:Hp)(o i v:V)(ov iv u:b9)(Q:Hp->Prop),Inv X pins σ H s->RelV o ov->RelV i iv->RelV v u->t o i v H Q ->
  k8 (v5 X.prog X.w) X.A (setItem ov iv u) (λ _ s'=>∃ H',Inv X pins σ H' s'/\Q H') X.xe s
section
variable {X:Cx}{pos:Pos}
def gName (i:Nat):TG:=λ v σ H Q=>Q (σ.set i (some v)) H
theorem aH {i:Nat}{x:Str}(hN:X.N.Nodup)(hi:X.N[i]?=some x)(hx:Loc X.env.scope x)(hf:X.fn x=true\/X.env.scope.names.lookup x=some .local:=by first | exact .inl rfl | exact .inr rfl | assumption):PG X (.Name x pos) (gName i):=by
 intro pins s σ H v u Q I r h
 exact wpAny_assign_Name (mH I hN hi hx r (λ s' I'=>⟨_,H,I',h⟩) hf)
def gNil:TGs:=λ vs σ H Q=>vs=[]/\Q σ H
inductive gCons_i (t:TG)(u:TGs)(vs:List V)(σ:L2.St)(H:Hp)(Q:L2.St->Hp->Prop):Prop
 | mk:∀ v r,(vs=v::r)->(t v σ H λ σ' H'=>u r σ' H' Q)->gCons_i t u vs σ H Q
def gCons (t:TG)(u:TGs):TGs:=λ vs σ H Q=>gCons_i t u vs σ H Q
theorem bG:PGs X [] gNil:=by
 intro pins s σ H vs us Q I r h
 obtain⟨e,h⟩:=h
 subst e
 cases r
 exact assignInOrder_nil ⟨σ,H,I,h⟩
theorem aO {e:ubv}{es:List ubv}{t:TG}{u:TGs}(h1:PG X e t)(h2:PGs X es u)
  (hs:(assignEach (e::es) X.env).map (·.2)=assign e X.env::(assignEach es X.env).map (·.2):=by rfl):PGs X (e::es) (gCons t u):=by
 intro pins s σ H vs us Q I r h
 obtain⟨v,vr,e1,h⟩:=h
 subst e1
 cases r with
 | cons r rr =>
  rw[hs]
  refine assignInOrder_cons (thn (h1 pins s σ H _ _ _ I r h) λ _ s1 ⟨σ1,H1,I1,q1⟩=>?_)
  exact h2 pins s1 σ1 H1 _ _ Q I1 rr q1
inductive gTup_i (K:a9)(n:Nat)(t:TGs)(v:V)(σ:L2.St)(H:Hp)(Q:L2.St->Hp->Prop):Prop
 | mk:∀ a xs,(v=.ref a)->(SqT K H a xs)->(xs.length=n)->(t xs σ H Q)->gTup_i K n t v σ H Q
def gTup (K:a9)(n:Nat)(t:TGs):TG:=λ v σ H Q=>gTup_i K n t v σ H Q
theorem bP {es:List ubv}{k:Nat}{t:TGs}{n:Nat}(hc:X.calm=true)(h:PGs X es t)
  (hn:(assignEach es X.env).length=n:=by rfl) (hst:(assignEach es X.env).findIdx? (·.1)=none:=by rfl):PG X (.Tuple es k pos) (gTup X.K n t):=by
 intro pins s σ H v u Q I r hw
 obtain⟨a,xs,e1,hq,hl,hw⟩:=hw
 subst e1
 cases r
 obtain⟨its,rv,ht,hz⟩:=I.tuple hq
 refine assign_Tuple_tuple (I.ok.hd hc) ht (by simp [hn,← hl,rv.length]) hst λ h' hx=>?_
 have I1:Inv X pins σ H { s with heap:=h' }:=I.kept (t':=s.toks) λ b o e=>hx b o (l9 (i7 e)) e
 exact h pins _ σ H xs _ Q I1 (by simpa using rv) hw
def gSub (to ti:TE)(t:TSet):TG:=λ v σ H Q=>to σ H λ o H1=>ti σ H1 λ i H2=>t o i v H2 λ H3=>Q σ H3
theorem dD {o i:ubv}{to ti:TE}{t:TSet}(ho:PE X o to)(hi:PE X i ti)(hs:PSet X t)
  (ha:∀ v,assign (.Subscript o i pos) X.env v=(do
   let ov ← holding [v] (eval o X.env)
   let iv ← holding [v,ov] (eval i X.env)
   standAt pos
   holding [v,ov,iv] (setItem ov iv v)
   release [v,ov,iv] []):=by intro _;rfl):PG X (.Subscript o i pos) (gSub to ti t):=by
 intro pins s σ H v u Q I r h
 rw[ha]
 refine a8 (uah (thn (ho pins s σ H _ I h) λ ov s1 ⟨x,H1,I1,r1,q1⟩=>?_))
 refine a8 (uah (thn (hi pins s1 σ H1 _ I1 q1) λ iv s2 ⟨y,H2,I2,r2,q2⟩=>?_))
 refine a8 (ufa (a8 (uah (thn (hs pins s2 σ H2 x y v ov iv u _ I2 r1 r2 r q2) λ _ s3 ⟨H3,I3,q3⟩=>?_))))
 exact wpAny_release ⟨σ,H3,I3,q3⟩
def tAsg (te:TE)(g:TG):TS:=λ D σ H=>te σ H λ x H1=>g x σ H1 D.nx
theorem bJ {tg e:ubv}{te:TE}{g:TG}(he:PE X e te)(hg:PG X tg g)(hs:swapsWithSole [tg] e pos.line X.env=pure false:=by rfl)(hw:swappedStores [tg] e X.env=pure none:=by rfl)
  (h1:(assignEach [tg] X.env).map (·.2)=[assign tg X.env]:=by rfl):PS X (.Assign [tg] e pos) (tAsg te g):=by
 intro pins s σ H D I h
 refine wpAny_Assign_stores (thn (he pins s σ H _ I h) λ v s1 ⟨x,H1,I1,r1,q1⟩=>?_) hs hw
 rw[h1]
 exact thn (hg pins s1 σ H1 x v _ I1 r1 q1) λ _ s2 q=>q
theorem aI {i:Nat}{x:Str}{e:ubv}{te:TE}{pos':Pos}(hN:X.N.Nodup)(hi:X.N[i]?=some x)(hx:Loc X.env.scope x)(he:PE X e te)(hs:swapsWith e (some (.Name x pos')) pos.line X.env=pure false:=by rfl)(hf:X.fn x=true\/X.env.scope.names.lookup x=some .local:=by first | exact .inl rfl | exact .inr rfl | assumption) :
  PS X (.Assign [.Name x pos'] e pos) (tAsg te (gName i)):=by
 intro pins s σ H D I h
 refine wpAny_Assign_Name (thn (he pins s σ H _ I h) λ v s1 ⟨y,H1,I1,r1,q1⟩=>?_) hs
 exact mH I1 hN hi hx r1 (λ s2 I2=>⟨_,H1,I2,q1⟩) hf
end
section
variable {X:Cx}{pos:Pos}
def tWhile (c:TT)(tb:TS):TS:=λ D σ H=>∃ W:Nat->St->Hp->Prop,(∃ m,W m σ H)/\∀ m σ H,W m σ H ->
 c σ H λ b H1=>if b=true then ∃ N:St->Hp->Prop,(∀ σ' H',N σ' H'->∃ m',m'<m/\W m' σ' H')/\tb { D with nx:=N,ct:=N,bk:=D.nx } σ H1 else D.nx σ H1
theorem mP {c:ubv}{body:List ucy}{tc:TT}{tb:TS}(hp:PassesOwn (v5 X.prog X.w) X.A X.env X.xe)(hc:PT X c tc)(hb:PSs X body tb):PS X (.While c body [] pos) (tWhile tc tb):=by
 intro pins s σ H D I h
 obtain⟨W,⟨m0,w0⟩,turn⟩:=h
 refine wpAny_While (codeAny_whileLoop (λ n s'=>∃ σ' H',Inv X pins σ' H' s'/\W n σ' H') ?_ m0 ⟨σ,H,I,w0⟩)
 rintro n s1 ⟨σ1,H1,I1,w1⟩
 refine ub7 hp (thn (hc pins s1 σ1 H1 _ I1 (turn n σ1 H1 w1)) λ b s2 ⟨H2,I2,q2⟩=>?_)
 cases b with
 | true =>
  obtain⟨N,hN,q2⟩:=q2
  rw[uf7 rfl]
  refine ub7 hp (thn (hb pins s2 σ1 H2 _ I2 q2) λ f s3 q3=>?_)
  cases f with
  | next =>
   obtain⟨σ3,H3,I3,n3⟩:=q3
   obtain⟨m',hm,w3⟩:=hN σ3 H3 n3
   exact⟨m',hm,σ3,H3,I3,w3⟩
  | cont =>
   obtain⟨σ3,H3,I3,n3⟩:=q3
   obtain⟨m',hm,w3⟩:=hN σ3 H3 n3
   exact⟨m',hm,σ3,H3,I3,w3⟩
  | brk=>exact q3
  | ret v=>exact q3
 | false =>
  rw[uf8 i6]
  exact uei ⟨σ1,H2,I2,q2⟩
end
structure It where
 go:Nat->Hp->Prop
 yld:Nat->Hp->V->Hp->Prop
 stop:Nat->Hp->Prop
def FpOk (X:Cx)(pins:List (j8 × Obj))(H:Hp)(b:j8):Prop :=
 H b=none/\b≠X.env.locals/\b∉X.fs/\(b∈X.ex\/X.s₀.heap.objs.size<=b)/\(∀ x c,X.env.cells.lookup x=some c->c≠b)/\∀ p∈X.pn++pins,p.1≠b
theorem Inv.fpOk {X:Cx}{pins:List (j8 × Obj)}{σ:St}{H H':Hp}{s:c7}{b:j8}(I:Inv X pins σ H s)(hb:s.heap.objs.size<=b)(hn:H' b=none):FpOk X pins H' b:=by
 refine⟨hn,uc1 (m8 I.lt hb),I.nofs hb,.inr (o8 I.sz hb),λ x c e z=>?_,λ p hp z=>?_⟩
 ·obtain⟨v,q⟩:=I.cell x c e
  exact absurd (m8 q.lt (by rw[z];exact hb)) (uap _)
 ·exact absurd (m8 (i7 (I.pin p hp).1) (by rw[z];exact hb)) (uap _)
structure Turn (P:j9)(w:v9)(K:a9)(tg:ubv)(J:It)(fp:List j8)(it:j8)(tn:Nat->Heap->Prop):Prop where
 mem:it∈fp
 obj:∀ i h,tn i h->∀ b∈fp,∃ o,h.get? b=some o/\∀ v,o.data≠.cell v
 keep:∀ i h h',tn i h->(∀ b∈fp,∀ o,h.get? b=some o->h'.get? b=some o)->tn i h'
 item:∀ (X:Cx),X.prog=P->X.w=w->X.K=K->X.calm=true->∀ (i:Nat)(pins:List (j8 × Obj))(s:c7)(σ:St)(H:Hp)(E:b9->c7->Prop),Inv X pins σ H s->(∀ b∈fp,FpOk X pins H b)->tn i s.heap->J.go i H ->
  k8 (v5 P w) X.A (pyNext (.ref it)) (λ r s1=>∃ u,r=some u /\
   k8 (v5 P w) X.A (letOwnedTupleGo tg (.ref it) u) (λ _ s2=>∃ x H',Inv X pins σ H' s2/\RelV x u/\J.yld i H x H'/\tn (i+1) s2.heap/\∀ b∈fp,H' b=none) E s1) E s
 done:∀ (X:Cx),X.prog=P->X.w=w->X.K=K->X.calm=true->∀ (i:Nat)(pins:List (j8 × Obj))(s:c7)(σ:St)(H:Hp)(E:b9->c7->Prop),Inv X pins σ H s->(∀ b∈fp,FpOk X pins H b)->tn i s.heap->J.stop i H ->
  k8 (v5 P w) X.A (pyNext (.ref it)) (λ r s1=>r=none/\Inv X pins σ H s1) E s
 self:∀ (A:v7)(i:Nat)(s:c7)(Q:b9->c7->Prop)(E:b9->c7->Prop),tn i s.heap->Q (.ref it) s->k8 (v5 P w) A (pyIter (.ref it)) Q E s
abbrev TI:=St->Hp->(It->Hp->Prop)->Prop
def PIE (X:Cx)(pins:List (j8 × Obj))(σ:St)(tg:ubv)(R:It->Hp->Prop)(itv:b9)(s2:c7):Prop :=
 ∃ (it:j8)(fp:List j8)(tn:Nat->Heap->Prop)(J:It)(H':Hp),itv=.ref it/\Inv X pins σ H' s2/\Turn X.prog X.w X.K tg J fp it tn/\tn 0 s2.heap/\(∀ b∈fp,FpOk X pins H' b)/\R J H'
def PI (X:Cx)(tg iter:ubv)(wi:TI):Prop :=
 ∀ (pins:List (j8 × Obj))(s:c7)(σ:St)(H:Hp)(R:It->Hp->Prop),Inv X pins σ H s->wi σ H R ->
  k8 (v5 X.prog X.w) X.A (eval iter X.env) (λ v s1=>k8 (v5 X.prog X.w) X.A (pyIter v) (PIE X pins σ tg R) X.xe s1) X.xe s
theorem jW {M:Model}{A:v7}{E:b9->c7->Prop}{s:c7}{tg:ubv}{it:j8}{u:b9}{o:Obj}{n:String}{vs:Array b9}{Q:Unit->c7->Prop}(ho:s.heap.get? it=some o)(hc:o.cls=.type n)(hd:o.data=.fields vs)
  (hn:["enumerate","zip","dict_itemiterator","dict_reverseitemiterator","odict_iterator","itertools.zip_longest","itertools.pairwise"].contains n=false) (hQ:Q () s):k8 M A (letOwnedTupleGo tg (.ref it) u) Q E s:=by
 unfold letOwnedTupleGo
 cases tg <;> first
  | exact d3 hQ
  | (cases u <;> first
      | exact d3 hQ
      | (refine a8 (wpAny_load ho ?_)
         rw[hc,hd]
         show k8 M A (if (["enumerate","zip","dict_itemiterator","dict_reverseitemiterator","odict_iterator","itertools.zip_longest","itertools.pairwise"].contains n&&vs[0]?==some (rawInt _))=true then _ else _) Q E s
         rw[uf8 (by intro h;rw[hn,udj] at h;cases h)]
         exact d3 hQ))
def Itl (K:a9)(a:j8):It :=
 ⟨λ i H=>∃ xs x,SqL K H a xs/\xs[i]?=some x,λ i H x H'=>H'=H/\∀ xs,SqL K H a xs->xs[i]?=some x,λ i H=>∃ xs,SqL K H a xs/\xs.length<=i⟩
def Itt (K:a9)(a:j8):It :=
 ⟨λ i H=>∃ xs x,SqT K H a xs/\xs[i]?=some x,λ i H x H'=>H'=H/\∀ xs,SqT K H a xs->xs[i]?=some x,λ i H=>∃ xs,SqT K H a xs/\xs.length<=i⟩
def Itr (lo:Int)(n:Nat):It:=⟨λ i _=>i<n,λ i H x H'=>H'=H/\x=.int (lo+i),λ i _=>n<=i⟩
theorem uN {P:j9}{w:v9}{K:a9}{tg:ubv}(a it:j8):Turn P w K tg (Itl K a) [it] it (λ i h=>h.IsListIter it a i) where
 mem:=by simp
 obj:=λ i h st b hb=>by
  have e:b=it:=by simpa using hb
  subst e
  obtain⟨o,e,c,d⟩:=st
  exact⟨o,e,λ v z=>by rw[d] at z;cases z⟩
 keep:=λ i h h' st k=>st.at λ o e=>k it (by simp) o e
 item:=by
  intro X hP hw hK hc i pins s σ H E I hf st hg
  subst hP hw hK
  obtain⟨xs,x,hq,hx⟩:=hg
  obtain⟨its,rv,p,hz⟩:=I.list hq
  obtain⟨u,hu,ru⟩:=rv.get hx
  obtain⟨f0,f1,f2,f3,f4,f5⟩:=hf it (by simp)
  refine wpAny_pyNext_list_item st p.isList (x:=u) (by simpa using hu) λ h' st' sb=>?_
  have I1:Inv X pins σ H { s with heap:=h' }:=I.turned (t':=s.toks) (λ b o hb e=>(sb.2 b hb).trans e) f0 f1 f3 f4 f5
  obtain⟨o,e,c,d⟩:=id st'
  exact⟨u,rfl,jW (s:={ s with heap:=h' }) e c d (by decide) ⟨x,H,I1,ru,⟨rfl,λ ys hy=>by rw[I.list_inj hy hq];exact hx⟩,st',λ b hb=>(hf b hb).1⟩⟩
 done:=by
  intro X hP hw hK hc i pins s σ H E I hf st hg
  subst hP hw hK
  obtain⟨xs,hq,hx⟩:=hg
  obtain⟨its,rv,p,hz⟩:=I.list hq
  obtain⟨f0,f1,f2,f3,f4,f5⟩:=hf it (by simp)
  have hl:=rv.length
  exact wpAny_pyNext_list_end (I.ok.hd hc) st p.isList (by simp;left) λ h' eb=>⟨rfl,I.turned (t':=s.toks) (λ b o hb e=>eb b o hb e) f0 f1 f3 f4 f5⟩
 self:=λ _ _ _ _ _ st h=>wpAny_pyIter_listiter st h
theorem tP {P:j9}{w:v9}{K:a9}{tg:ubv}(a it:j8):Turn P w K tg (Itt K a) [it] it (λ i h=>h.IsTupleIter it a i) where
 mem:=by simp
 obj:=λ i h st b hb=>by
  have e:b=it:=by simpa using hb
  subst e
  obtain⟨o,e,c,d⟩:=st
  exact⟨o,e,λ v z=>by rw[d] at z;cases z⟩
 keep:=λ i h h' st k=>st.at λ o e=>k it (by simp) o e
 item:=by
  intro X hP hw hK hc i pins s σ H E I hf st hg
  subst hP hw hK
  obtain⟨xs,x,hq,hx⟩:=hg
  obtain⟨its,rv,p,hz⟩:=I.tuple hq
  obtain⟨u,hu,ru⟩:=rv.get hx
  obtain⟨f0,f1,f2,f3,f4,f5⟩:=hf it (by simp)
  refine wpAny_pyNext_tuple_item st (show s.heap.IsTuple a its.toArray from p) (x:=u) (by simpa using hu) λ h' st' sb=>?_
  have I1:Inv X pins σ H { s with heap:=h' }:=I.turned (t':=s.toks) (λ b o hb e=>(sb.2 b hb).trans e) f0 f1 f3 f4 f5
  obtain⟨o,e,c,d⟩:=id st'
  exact⟨u,rfl,jW (s:={ s with heap:=h' }) e c d (by decide) ⟨x,H,I1,ru,⟨rfl,λ ys hy=>by rw[I.tuple_inj hy hq];exact hx⟩,st',λ b hb=>(hf b hb).1⟩⟩
 done:=by
  intro X hP hw hK hc i pins s σ H E I hf st hg
  subst hP hw hK
  obtain⟨xs,hq,hx⟩:=hg
  obtain⟨its,rv,p,hz⟩:=I.tuple hq
  obtain⟨f0,f1,f2,f3,f4,f5⟩:=hf it (by simp)
  have hl:=rv.length
  exact wpAny_pyNext_tuple_end (I.ok.hd hc) st (show s.heap.IsTuple a its.toArray from p) (by simp;left) λ h' eb=>⟨rfl,I.turned (t':=s.toks) (λ b o hb e=>eb b o hb e) f0 f1 f3 f4 f5⟩
 self:=λ _ _ _ _ _ st h=>wpAny_pyIter_tupleiter st h
theorem tQ {P:j9}{w:v9}{K:a9}{tg:ubv}(it:j8)(lo:Int)(n:Nat):Turn P w K tg (Itr lo n) [it] it (λ i h=>IsRangeIter h it (lo+(i:Nat)*1) ((n:Int)-(i:Nat)) 1) where
 mem:=by simp
 obj:=λ i h st b hb=>by
  have e:b=it:=by simpa using hb
  subst e
  exact⟨_,st,λ v z=>by
   have z':Data.fields _=Data.cell v:=z
   cases z'⟩
 keep:=λ i h h' st k=>k it (by simp) _ st
 item:=by
  intro X hP hw hK hc i pins s σ H E I hf st hg
  subst hP hw hK
  obtain⟨f0,f1,f2,f3,f4,f5⟩:=hf it (by simp)
  have W:=Walks.range (prog:=X.prog) (w:=X.w) (I.ok.hd hc) it lo 1 n
  refine W.item i s _ _ hg st λ v h' tk hv st' kk=>?_
  obtain⟨t,rfl⟩:=hv
  have I1:Inv X pins σ H { s with heap:=h',toks:=tk }:=I.turned (λ b o hb e=>kk b o (by simpa using hb) e) f0 f1 f3 f4 f5
  refine⟨_,rfl,jW (s:={ s with heap:=h',toks:=tk }) (n:="range_iterator") st' rfl rfl (by decide) ⟨.int (lo+i),H,I1,⟨t,?_⟩,⟨rfl,rfl⟩,st',λ b hb=>(hf b hb).1⟩⟩
  rw[Int.mul_one]
 done:=by
  intro X hP hw hK hc i pins s σ H E I hf st hg
  subst hP hw hK
  obtain⟨f0,f1,f2,f3,f4,f5⟩:=hf it (by simp)
  exact wpAny_pyNext_range_end (I.ok.hd hc) st (by have:n<=i:=hg;left) λ h' eb=>⟨rfl,I.turned (t':=s.toks) (λ b o hb e=>eb b o hb e) f0 f1 f3 f4 f5⟩
 self:=λ _ _ _ _ _ st h=>wpAny_pyIter_rangeiter st h
end L2
namespace L2
open PySem PySem.Spec PyProof.Rows
section
variable {X:Cx}{tg:ubv}
def iList (K:a9)(tl:TE):TI:=λ σ H R=>tl σ H λ x H1=>ERef x λ a=>(∃ xs,SqL K H1 a xs)/\R (Itl K a) H1
def iTup (K:a9)(tl:TE):TI:=λ σ H R=>tl σ H λ x H1=>ERef x λ a=>(∃ xs,SqT K H1 a xs)/\R (Itt K a) H1
theorem bV {l:ubv}{tl:TE}(hl:PE X l tl):PI X tg l (iList X.K tl):=by
 intro pins s σ H R I h
 refine thn (hl pins s σ H _ I h) λ v s1 ⟨x,H1,I1,r1,q1⟩=>?_
 obtain⟨a,e,⟨xs,hq⟩,q⟩:=q1
 subst e
 cases r1
 obtain⟨its,rv,p,hz⟩:=I1.list hq
 refine ucd p.isList ?_
 refine⟨s1.heap.objs.size,[s1.heap.objs.size],_,_,H1,rfl,I1.kept (t':=s1.toks) λ b o e=>b7 _ e,uN a _,⟨_,i8 _ rfl,rfl,rfl⟩,λ b hb=>?_,q⟩
 have e:b=s1.heap.objs.size:=by simpa using hb
 subst e
 exact I1.fpOk (c8 _) (I1.hok.fresh (c8 _))
theorem cT {l:ubv}{tl:TE}(hl:PE X l tl):PI X tg l (iTup X.K tl):=by
 intro pins s σ H R I h
 refine thn (hl pins s σ H _ I h) λ v s1 ⟨x,H1,I1,r1,q1⟩=>?_
 obtain⟨a,e,⟨xs,hq⟩,q⟩:=q1
 subst e
 cases r1
 obtain⟨its,rv,p,hz⟩:=I1.tuple hq
 refine ufb (show s1.heap.IsTuple a its.toArray from p) ?_
 refine⟨s1.heap.objs.size,[s1.heap.objs.size],_,_,H1,rfl,I1.kept (t':=s1.toks) λ b o e=>b7 _ e,tP a _,⟨_,i8 _ rfl,rfl,rfl⟩,λ b hb=>?_,q⟩
 have e:b=s1.heap.objs.size:=by simpa using hb
 subst e
 exact I1.fpOk (c8 _) (I1.hok.fresh (c8 _))
theorem mO {pins:List (j8 × Obj)}{σ:St}{H:Hp}{s:c7}{R:It->Hp->Prop}{E:b9->c7->Prop}{lo hi:Int}{t u v:Tok}{tk:Nat}(I:Inv X pins σ H s)(h1:-(2^62)<=lo)(h2:lo<2^62)(h3:-(2^62)<=hi)(h4:hi<2^62)
  (q:R (Itr lo (hi-lo).toNat) H):k8 (v5 X.prog X.w) X.A (pyIter (.ref s.heap.objs.size)) (PIE X pins σ tg R) E { s with heap:=s.heap.push { cls:=.type "range",data:=.fields #[.int lo t,.int hi u,.int 1 v] },toks:=tk }:=by
 refine wpAny_pyIter_range (IsRange.new ..) (small_one h1 h2 h3 h4) ?_
 have I1:Inv X pins σ H { s with heap:=s.heap.push { cls:=.type "range",data:=.fields #[.int lo t,.int hi u,.int 1 v] },toks:=tk }:=I.kept λ b o e=>b7 _ e
 refine⟨(s.heap.push { cls:=.type "range",data:=.fields #[.int lo t,.int hi u,.int 1 v] }).objs.size,[(s.heap.push { cls:=.type "range",data:=.fields #[.int lo t,.int hi u,.int 1 v] }).objs.size],_,_,H,rfl,
  I1.kept (t':=tk) λ b o e=>b7 _ e,tQ _ lo (hi-lo).toNat,?_,λ b hb=>?_,q⟩
 ·have e1:lo+((0:Nat):Int)*1=lo:=by simp
  have e2:(((hi-lo).toNat:Nat):Int)-((0:Nat):Int)=Builtin.Range.rangeSize lo hi 1:=by rw[rangeSize_one];split <;> left
  show IsRangeIter _ _ (lo+((0:Nat):Int)*1) ((((hi-lo).toNat:Nat):Int)-((0:Nat):Int)) 1
  rw[e1,e2]
  exact i8 _ rfl
 ·have e:b=(s.heap.push { cls:=.type "range",data:=.fields #[.int lo t,.int hi u,.int 1 v] }).objs.size:=by simpa using hb
  subst e
  exact I1.fpOk (c8 _) (I1.hok.fresh (c8 _))
def iRng1 (ta:TA):TI:=λ σ H R=>ta σ H λ vs H1=>EOne vs λ j=>-(2^62)<=j/\j<2^62/\R (Itr 0 j.toNat) H1
def iRng2 (ta:TA):TI:=λ σ H R=>ta σ H λ vs H1=>∃ i j:Int,vs=[.int i,.int j]/\(-(2^62)<=i/\i<2^62/\-(2^62)<=j/\j<2^62)/\R (Itr i (j-i).toNat) H1
theorem cM {a:ubv}{ta:TA}{p pos:Pos}(hg:Gl X "range")(hm:X.mg "range"=none)(ha:PA X [a] ta)(hs:uae [a] X.env=[(false,eval a X.env)]:=by rfl):PI X tg (.Call (.Name "range" p) [a] [] pos) (iRng1 ta):=by
 intro pins s σ H R I h
 refine Call_ (cU I hg hm boot_range (uaj (thn (ha pos pins s σ H _ I h) λ us s1 ⟨vs,H1,I1,r1,q1⟩=>?_) hs rfl))
 obtain⟨j,e,q1,q2,q⟩:=q1
 subst e
 cases r1 with
 | cons r rr =>
  cases rr
  obtain⟨t,rfl⟩:=r
  exact call_range_1 (mO I1 (by left) (by left) q1 q2 (by simpa using q))
theorem uY {a b:ubv}{ta:TA}{p pos:Pos}(hg:Gl X "range")(hm:X.mg "range"=none)(ha:PA X [a,b] ta)(hs:uae [a,b] X.env=[(false,eval a X.env),(false,eval b X.env)]:=by rfl)(hs2:uae [b] X.env=[(false,eval b X.env)]:=by rfl) :
  PI X tg (.Call (.Name "range" p) [a,b] [] pos) (iRng2 ta):=by
 intro pins s σ H R I h
 refine Call_ (cU I hg hm boot_range (uaj (thn (ha pos pins s σ H _ I h) λ us s1 ⟨vs,H1,I1,r1,q1⟩=>?_) (by rw[hs,hs2]) (by rw[hs2];rfl)))
 obtain⟨i,j,e,⟨q1,q2,q3,q4⟩,q⟩:=q1
 subst e
 cases r1 with
 | cons r rr =>
  cases rr with
  | cons r' rr =>
   cases rr
   obtain⟨t,rfl⟩:=r
   obtain⟨t',rfl⟩:=r'
   exact call_range_2 (mO I1 q1 q2 q3 q4 q)
def tFor (wi:TI)(g:TG)(tb:TS):TS:=λ D σ H=>wi σ H λ J H1=>∃ W:Nat->Nat->St->Hp->Prop,(∃ m,W 0 m σ H1)/\∀ i m σ H,W i m σ H ->
 (J.stop i H/\D.nx σ H)\/(J.go i H/\∃ N:St->Hp->Prop,(∀ σ' H',N σ' H'->∃ m',m'<m/\W (i+1) m' σ' H')/\∀ x H',J.yld i H x H'->g x σ H' λ σ2 H2=>tb { D with nx:=N,ct:=N,bk:=D.nx } σ2 H2)
def pinsAt (fp:List j8)(h:Heap):List (j8 × Obj):=fp.filterMap λ b=>(h.get? b).map λ o=>(b,o)
theorem fS {fp:List j8}{h:Heap}{b:j8}{o:Obj}(hb:b∈fp)(e:h.get? b=some o):(b,o)∈pinsAt fp h:=uco.mpr ⟨b,hb,by rw[e];rfl⟩
theorem vD {fp:List j8}{h:Heap}{p:j8 × Obj}(hp:p∈pinsAt fp h):p.1∈fp/\h.get? p.1=some p.2:=by
 obtain⟨b,hb,e⟩:=uco.mp hp
 cases q:h.get? b with
 | none=>rw[q] at e;cases e
 | some o =>
  rw[q] at e
  have e':(b,o)=p:=j5 e
  subst e'
  exact⟨hb,q⟩
theorem Inv.pinned {pins:List (j8 × Obj)}{σ:St}{H:Hp}{s:c7}{fp:List j8}(I:Inv X pins σ H s)(hf:∀ b∈fp,FpOk X pins H b)(ho:∀ b∈fp,∃ o,s.heap.get? b=some o/\∀ v,o.data≠.cell v):Inv X (pins++pinsAt fp s.heap) σ H s :=
 I.pins_of λ p hp=>(l8.mp hp).elim (λ z=>I.pin p (l4 _ z)) λ z=>by
  obtain⟨hb,e⟩:=vD z
  obtain⟨f0,f1,f2,_⟩:=hf p.1 hb
  obtain⟨o,e',d⟩:=ho p.1 hb
  rw[e] at e';cases e'
  exact⟨e,f0,f1,f2,d⟩
theorem Inv.unpinned {pins pl:List (j8 × Obj)}{σ:St}{H:Hp}{s:c7}(I:Inv X (pins++pl) σ H s):Inv X pins σ H s:=I.pins_of λ p hp=>I.pin p (l4 _ (r8 _ hp))
theorem bD {iter:ubv}{body:List ucy}{wi:TI}{g:TG}{tb:TS}{pos:Pos}(hp:PassesOwn (v5 X.prog X.w) X.A X.env X.xe)(hc:X.calm=true)(hi:PI X tg iter wi)(hg:PG X tg g)(hb:PSs X body tb)
  (hs:∀ x,foldedSetIterable iter X.env x=pure x:=by intro _;rfl):PS X (.For tg iter body [] pos) (tFor wi g tb):=by
 intro pins s σ H D I h
 refine wpAny_For (thn (hi pins s σ H _ I h) λ v s1 h1=>thn h1 λ itv s2 h2=>?_) hs
 obtain⟨it,fp,tn,J,H2,e,I2,T,st2,f2,W,⟨m0,w0⟩,turn⟩:=h2
 subst e
  -- what stays true of the iterator's objects through the loop
 have stat:∀ {H':Hp},(∀ b∈fp,H' b=none)->∀ b∈fp,FpOk X pins H' b:=λ hn b hb=>⟨hn b hb,(f2 b hb).2⟩
 refine codeAny_forLoop_any (λ n s'=>∃ i σ' H',Inv X pins σ' H' s'/\tn i s'.heap/\(∀ b∈fp,H' b=none)/\W i n σ' H') ?_ m0 ⟨0,σ,H2,I2,st2,λ b hb=>(f2 b hb).1,w0⟩
 rintro n s3 ⟨i,σ3,H3,I3,st3,fr3,w3⟩
 rcases turn i n σ3 H3 w3 with ⟨stop,qn⟩ | ⟨go,N,hN,step⟩
 ·refine ub7 hp (thn (T.done X rfl rfl rfl hc i pins s3 σ3 H3 X.xe I3 (stat fr3) st3 stop) λ r s4 ⟨hr,I4⟩=>?_)
  subst hr
  exact uei ⟨σ3,H3,I4,qn⟩
 ·refine ub7 hp (thn (T.item X rfl rfl rfl hc i pins s3 σ3 H3 X.xe I3 (stat fr3) st3 go) λ r s4 ⟨u,hr,h4⟩=>?_)
  subst hr
  refine ub7 hp (thn h4 λ _ s5 ⟨x,H5,I5,r5,y5,st5,fr5⟩=>?_)
  have I5':=I5.pinned (stat fr5) (T.obj _ _ st5)
  refine ub7 hp (thn (hg _ s5 σ3 H5 x u _ I5' r5 (step x H5 y5)) λ _ s6 ⟨σ6,H6,I6,q6⟩=>?_)
  refine ub7 hp (thn (hb _ s6 σ6 H6 _ I6 q6) λ f s7 q7=>?_)
  have again:∀ {σ7:St}{H7:Hp},Inv X (pins++pinsAt fp s5.heap) σ7 H7 s7->N σ7 H7->∃ m,m<n/\∃ i σ' H',Inv X pins σ' H' s7/\tn i s7.heap/\(∀ b∈fp,H' b=none)/\W i m σ' H':=λ {σ7 H7} I7 n7=>by
   obtain⟨m',hm,w7⟩:=hN σ7 H7 n7
   refine⟨m',hm,i+1,σ7,H7,I7.unpinned,T.keep _ _ _ st5 λ b hb o e=>(I7.pin (b,o) (l4 _ (l4 _ (fS hb e)))).1,λ b hb=>?_,w7⟩
   obtain⟨o,e,d⟩:=T.obj _ _ st5 b hb
   exact (I7.pin (b,o) (l4 _ (l4 _ (fS hb e)))).2.1
  cases f with
  | next=>obtain⟨σ7,H7,I7,n7⟩:=q7;exact again I7 n7
  | cont=>obtain⟨σ7,H7,I7,n7⟩:=q7;exact again I7 n7
  | brk=>obtain⟨σ7,H7,I7,q7⟩:=q7;exact⟨σ7,H7,I7.unpinned,q7⟩
  | ret v=>obtain⟨x7,σ7,H7,I7,r7,q7⟩:=q7;exact⟨x7,σ7,H7,I7.unpinned,r7,q7⟩
end
theorem dP {K:a9}{a:j8}{xs:List V}{g:TG}{tb:TS}{D:Ends}{σ:St}{H:Hp}(Pv:Nat->St->Hp->Prop)(h0:Pv 0 σ H)(hl:∀ i σ H,i<=xs.length->Pv i σ H->SqL K H a xs)
  (hs:∀ i x σ H,xs[i]?=some x->Pv i σ H->g x σ H λ σ2 H2=>tb { D with nx:=Pv (i+1),ct:=Pv (i+1),bk:=D.nx } σ2 H2) (hd:∀ σ H,Pv xs.length σ H->D.nx σ H) :
  ∃ W:Nat->Nat->St->Hp->Prop,(∃ m,W 0 m σ H)/\∀ i m σ H,W i m σ H ->
   ((Itl K a).stop i H/\D.nx σ H)\/((Itl K a).go i H/\∃ N:St->Hp->Prop,(∀ σ' H',N σ' H'->∃ m',m'<m/\W (i+1) m' σ' H')/\∀ x H',(Itl K a).yld i H x H'->g x σ H' λ σ2 H2=>tb { D with nx:=N,ct:=N,bk:=D.nx } σ2 H2):=by
 refine⟨λ i m σ H=>m=xs.length-i/\i<=xs.length/\Pv i σ H,⟨xs.length,by simp,v4 _,h0⟩,?_⟩
 rintro i m σ H ⟨rfl,hi,p⟩
 have q:=hl i σ H hi p
 by_cases hlt:i<xs.length
 ·refine .inr ⟨⟨xs,xs[i],q,by simp [hlt]⟩,Pv (i+1),λ σ' H' p'=>⟨xs.length-(i+1),by left,rfl,hlt,p'⟩,λ x H' y=>?_⟩
  obtain⟨e,y⟩:=y
  subst e
  exact hs i x σ _ (y xs q) p
 ·have e:i=xs.length:=by left
  subst e
  exact .inl ⟨⟨xs,q,c8 _⟩,hd σ H p⟩
theorem eJ {K:a9}{a:j8}{xs:List V}{g:TG}{tb:TS}{D:Ends}{σ:St}{H:Hp}(Pv:Nat->St->Hp->Prop)(h0:Pv 0 σ H)(hl:∀ i σ H,i<=xs.length->Pv i σ H->SqT K H a xs)
  (hs:∀ i x σ H,xs[i]?=some x->Pv i σ H->g x σ H λ σ2 H2=>tb { D with nx:=Pv (i+1),ct:=Pv (i+1),bk:=D.nx } σ2 H2) (hd:∀ σ H,Pv xs.length σ H->D.nx σ H) :
  ∃ W:Nat->Nat->St->Hp->Prop,(∃ m,W 0 m σ H)/\∀ i m σ H,W i m σ H ->
   ((Itt K a).stop i H/\D.nx σ H)\/((Itt K a).go i H/\∃ N:St->Hp->Prop,(∀ σ' H',N σ' H'->∃ m',m'<m/\W (i+1) m' σ' H')/\∀ x H',(Itt K a).yld i H x H'->g x σ H' λ σ2 H2=>tb { D with nx:=N,ct:=N,bk:=D.nx } σ2 H2):=by
 refine⟨λ i m σ H=>m=xs.length-i/\i<=xs.length/\Pv i σ H,⟨xs.length,by simp,v4 _,h0⟩,?_⟩
 rintro i m σ H ⟨rfl,hi,p⟩
 have q:=hl i σ H hi p
 by_cases hlt:i<xs.length
 ·refine .inr ⟨⟨xs,xs[i],q,by simp [hlt]⟩,Pv (i+1),λ σ' H' p'=>⟨xs.length-(i+1),by left,rfl,hlt,p'⟩,λ x H' y=>?_⟩
  obtain⟨e,y⟩:=y
  subst e
  exact hs i x σ _ (y xs q) p
 ·have e:i=xs.length:=by left
  subst e
  exact .inl ⟨⟨xs,q,c8 _⟩,hd σ H p⟩
theorem dL {lo:Int}{n:Nat}{g:TG}{tb:TS}{D:Ends}{σ:St}{H:Hp}(Pv:Nat->St->Hp->Prop)(h0:Pv 0 σ H)
  (hs:∀ i σ H,i<n->Pv i σ H->g (.int (lo+i)) σ H λ σ2 H2=>tb { D with nx:=Pv (i+1),ct:=Pv (i+1),bk:=D.nx } σ2 H2) (hd:∀ σ H,Pv n σ H->D.nx σ H) :
  ∃ W:Nat->Nat->St->Hp->Prop,(∃ m,W 0 m σ H)/\∀ i m σ H,W i m σ H ->
   ((Itr lo n).stop i H/\D.nx σ H)\/((Itr lo n).go i H/\∃ N:St->Hp->Prop,(∀ σ' H',N σ' H'->∃ m',m'<m/\W (i+1) m' σ' H')/\∀ x H',(Itr lo n).yld i H x H'->g x σ H' λ σ2 H2=>tb { D with nx:=N,ct:=N,bk:=D.nx } σ2 H2):=by
 refine⟨λ i m σ H=>m=n-i/\i<=n/\Pv i σ H,⟨n,by simp,v4 _,h0⟩,?_⟩
 rintro i m σ H ⟨rfl,hi,p⟩
 by_cases hlt:i<n
 ·refine .inr ⟨hlt,Pv (i+1),λ σ' H' p'=>⟨n-(i+1),by left,rfl,hlt,p'⟩,λ x H' y=>?_⟩
  obtain⟨e,y⟩:=y
  subst e y
  exact hs i σ _ hlt p
 ·have e:i=n:=by left
  subst e
  exact .inl ⟨c8 _,hd σ H p⟩
end L2
namespace L2
open PySem PySem.Spec PyProof.Rows
abbrev R2:=V->V->Hp->VK->Prop
def OpR (X:Cx)(f:b9->b9->Sem b9)(r:R2):Prop :=
 ∀ (pins:List (j8 × Obj))(s:c7)(σ:St)(H:Hp)(x y:V)(v u:b9)(Q:VK),Inv X pins σ H s->RelV x v->RelV y u->r x y H Q ->
  k8 (v5 X.prog X.w) X.A (f v u) (EP X pins σ Q) X.xe s
def UnR (X:Cx)(f:b9->Sem b9)(r:V->Hp->VK->Prop):Prop :=
 ∀ (pins:List (j8 × Obj))(s:c7)(σ:St)(H:Hp)(x:V)(v:b9)(Q:VK),Inv X pins σ H s->RelV x v->r x H Q ->
  k8 (v5 X.prog X.w) X.A (f v) (EP X pins σ Q) X.xe s
def CallR (X:Cx)(f:b9)(r:List V->Hp->VK->Prop):Prop :=
 ∀ (pins:List (j8 × Obj))(s:c7)(σ:St)(H:Hp)(xs:List V)(us:List b9)(Q:VK),Inv X pins σ H s->Vals xs us->r xs H Q ->
  k8 (v5 X.prog X.w) X.A (call f us) (EP X pins σ Q) X.xe s
def tOp (r:R2)(ta tb:TE):TE:=λ σ H Q=>ta σ H λ x H1=>tb σ H1 λ y H2=>r x y H2 Q
def tUn (r:V->Hp->VK->Prop)(ta:TE):TE:=λ σ H Q=>ta σ H λ x H1=>r x H1 Q
inductive rI_i (C:Int->Int->Prop)(g:Int->Int->V)(x:V)(y:V)(H:Hp)(Q:VK):Prop
 | mk:∀ i j,(x=.int i)->(y=.int j)->(C i j)->(Q (g i j) H)->rI_i C g x y H Q
def rI (C:Int->Int->Prop)(g:Int->Int->V):R2:=λ x y H Q=>rI_i C g x y H Q
inductive rI0_i (g:Int->Int->V)(x:V)(y:V)(H:Hp)(Q:VK):Prop
 | mk:∀ i j,(x=.int i)->(y=.int j)->(Q (g i j) H)->rI0_i g x y H Q
def rI0 (g:Int->Int->V):R2:=λ x y H Q=>rI0_i g x y H Q
inductive rU_i (g:Int->V)(x:V)(H:Hp)(Q:VK):Prop
 | mk:∀ i,(x=.int i)->(Q (g i) H)->rU_i g x H Q
def rU (g:Int->V):V->Hp->VK->Prop:=λ x H Q=>rU_i g x H Q
section
variable {X:Cx}{a b c:ubv}{ta tb tc:TE}{pos:Pos}
theorem binT (ha:PE X a ta)(hb:PE X b tb){pins:List (j8 × Obj)}{s:c7}{σ:St}{H:Hp}{R:V->V->Hp->Prop}(I:Inv X pins σ H s)
  (h:ta σ H λ x H1=>tb σ H1 λ y H2=>R x y H2) {Q:b9->c7->Prop} {f:b9->b9->Sem b9}
  (hf:∀ v u s2 x y H2,Inv X pins σ H2 s2->RelV x v->RelV y u->R x y H2->k8 (v5 X.prog X.w) X.A (f v u) Q X.xe s2) :
  k8 (v5 X.prog X.w) X.A (eval a X.env) (λ v s₁=>k8 (v5 X.prog X.w) X.A (eval b X.env) (λ u s₂=>k8 (v5 X.prog X.w) X.A (f v u) Q X.xe s₂) X.xe s₁) X.xe s:=by
 refine thn (ha pins s σ H _ I h) λ v s1 ⟨x,H1,I1,r1,q1⟩=>?_
 refine thn (hb pins s1 σ H1 _ I1 q1) λ u s2 ⟨y,H2,I2,r2,q2⟩=>?_
 exact hf v u s2 x y H2 I2 r1 r2 q2
theorem aJ {op:Operator}{r:R2}(ho:OpR X (binaryOp op) r)(ha:PE X a ta)(hb:PE X b tb):PE X (.BinOp a op b pos) (tOp r ta tb):=by
 intro pins s σ H Q I h
 exact wpAny_BinOp (binT ha hb I h λ v u s2 x y H2 I2 rx ry q=>ho pins s2 σ H2 x y v u Q I2 rx ry q)
theorem cV {op:UnaryOp}{r:V->Hp->VK->Prop}(ho:UnR X (unaryOp op) r)(ha:PE X a ta):PE X (.UnaryOp op a pos) (tUn r ta):=by
 intro pins s σ H Q I h
 exact UnaryOp_ (thn (ha pins s σ H _ I h) λ v s1 ⟨x,H1,I1,r1,q1⟩=>ho pins s1 σ H1 x v Q I1 r1 q1)
theorem opI {f:b9->b9->Sem b9}{C:Int->Int->Prop}{g:Int->Int->Int}
  (rule:∀ (i j:Int)(t u:Tok)(s:c7)(Q:b9->c7->Prop)(E:b9->c7->Prop),C i j->Q (.int (g i j) s.toks) { s with toks:=s.toks+1 }->k8 (v5 X.prog X.w) X.A (f (.int i t) (.int j u)) Q E s) :
  OpR X f (rI C λ i j=>.int (g i j)):=by
 intro pins s σ H x y v u Q I rx ry h
 obtain⟨i,j,rfl,rfl,hc,q⟩:=h
 obtain⟨t,rfl⟩:=rx
 obtain⟨t',rfl⟩:=ry
 exact rule i j t t' s _ _ hc ⟨.int (g i j),H,I.tok _,⟨_,rfl⟩,q⟩
theorem opI0 {f:b9->b9->Sem b9}{g:Int->Int->Int}
  (rule:∀ (i j:Int)(t u:Tok)(s:c7)(Q:b9->c7->Prop)(E:b9->c7->Prop),Q (.int (g i j) s.toks) { s with toks:=s.toks+1 }->k8 (v5 X.prog X.w) X.A (f (.int i t) (.int j u)) Q E s) :
  OpR X f (rI0 λ i j=>.int (g i j)):=by
 intro pins s σ H x y v u Q I rx ry h
 obtain⟨i,j,rfl,rfl,q⟩:=h
 obtain⟨t,rfl⟩:=rx
 obtain⟨t',rfl⟩:=ry
 exact rule i j t t' s _ _ ⟨.int (g i j),H,I.tok _,⟨_,rfl⟩,q⟩
theorem opB0 {f:b9->b9->Sem b9}{g:Int->Int->Bool}
  (rule:∀ (i j:Int)(t u:Tok)(s:c7)(Q:b9->c7->Prop)(E:b9->c7->Prop),Q (.bool (g i j)) s->k8 (v5 X.prog X.w) X.A (f (.int i t) (.int j u)) Q E s) :
  OpR X f (rI0 λ i j=>.bl (g i j)):=by
 intro pins s σ H x y v u Q I rx ry h
 obtain⟨i,j,rfl,rfl,q⟩:=h
 obtain⟨t,rfl⟩:=rx
 obtain⟨t',rfl⟩:=ry
 exact rule i j t t' s _ _ ⟨.bl (g i j),H,I,rfl,q⟩
def CDiv (i j:Int):Prop:=0<j/\j<1073741824
def CPow (i j:Int):Prop:=0<=j/\j<=1000000/\i.natAbs<2^64
def CMul (i j:Int):Prop:=(-(2^64)<i/\i<2^64)\/(-(2^64)<j/\j<2^64)
theorem CMul.ok {i j:Int}(h:CMul i j):IntMulOk i j:=by
 rcases h with ⟨h1,h2⟩ | ⟨h1,h2⟩
 ·exact .of_left (intBits_le_64 h1 h2)
 ·exact .of_right (intBits_le_64 h1 h2)
theorem bL:OpR X (binaryOp .Add) (rI0 λ i j=>.int (i+j)):=opI0 λ _ _ _ _ _ _ _ q=>add_int q
theorem dW:OpR X (binaryOp .Sub) (rI0 λ i j=>.int (i-j)):=opI0 λ _ _ _ _ _ _ _ q=>sub_int q
theorem fP:OpR X (binaryOp .Mult) (rI CMul λ i j=>.int (i*j)):=opI λ _ _ _ _ _ _ _ hc q=>mul_int q hc.ok
theorem oB:OpR X (binaryOp .FloorDiv) (rI CDiv λ i j=>.int (i / j)):=opI λ i j _ _ _ _ _ hc q=>by
 have h1:(0:Int)<j:=hc.1
 have h2:j<1073741824:=hc.2
 exact floordiv_int (by left) (by rw[Int.fdiv_eq_ediv_of_nonneg i (by left)];exact q) (.inl (PyProof.noPylong_small (by left)))
theorem cF:OpR X (binaryOp .Mod) (rI (λ _ j=>0<j) λ i j=>.int (i%j)):=opI λ i j _ _ _ _ _ hc q=>by
 have h1:(0:Int)<j:=hc
 exact mod_int' (by left) (by rw[Int.fmod_eq_emod_of_nonneg i (by left)];exact q)
theorem bW:OpR X (binaryOp .Pow) (rI CPow λ i j=>.int (i^j.toNat)):=opI λ _ _ _ _ _ _ _ hc q=>pow_int_small hc.1 hc.2.1 hc.2.2 q
theorem unI {f:b9->Sem b9}{g:Int->Int}
  (rule:∀ (i:Int)(t:Tok)(s:c7)(Q:b9->c7->Prop)(E:b9->c7->Prop),Q (.int (g i) s.toks) { s with toks:=s.toks+1 }->k8 (v5 X.prog X.w) X.A (f (.int i t)) Q E s) :
  UnR X f (rU λ i=>.int (g i)):=by
 intro pins s σ H x v Q I rx h
 obtain⟨i,rfl,q⟩:=h
 obtain⟨t,rfl⟩:=rx
 exact rule i t s _ _ ⟨.int (g i),H,I.tok _,⟨_,rfl⟩,q⟩
theorem cS:UnR X (unaryOp .USub) (rU λ i=>.int (-i)):=unI λ _ _ _ _ _ q=>neg_int q
end
def scal:V->V->Bool
 | .non,.non=>true | .non,.int _=>true | .int _,.non=>true | .non,.bl _=>true | .bl _,.non=>true | .non,.str _=>true | .str _,.non=>true
 | .int _,.int _=>true | .bl _,.bl _=>true | .str _,.str _=>true | .byt _,.byt _=>true
 | .int _,.str _=>true | .str _,.int _=>true | .bl _,.str _=>true | .str _,.bl _=>true
 | _,_=>false
def rEq:R2:=λ x y H Q=>scal x y=true/\Q (.bl (decide (x=y))) H
def rNe:R2:=λ x y H Q=>scal x y=true/\Q (.bl (!decide (x=y))) H
theorem oJ {i j:Int}:decide (V.int i=V.int j)=(i==j):=by
 rw[ubm]
 simp
theorem pE {i j:Bool}:decide (V.bl i=V.bl j)=(i==j):=by
 rw[ubm]
 simp
theorem oI {i j:Str}:decide (V.str i=V.str j)=(i==j):=by
 rw[ubm]
 simp
theorem oK {i j:Array UInt8}:decide (V.byt i=V.byt j)=(i.toList==j.toList):=by
 rw[ubm]
 cases i
 cases j
 simp
section
variable {X:Cx}{a b c:ubv}{ta tb tc:TE}{pos:Pos}
theorem aT {pins:List (j8 × Obj)}{σ:St}{H:Hp}{s:c7}{Q:VK}{k k':Bool}(I:Inv X pins σ H s)(q:Q (.bl k) H)(e:k=k'):EP X pins σ Q (.bool k') s:=by
 subst e
 exact⟨.bl k,H,I,rfl,q⟩
theorem bE:OpR X (compareOp .Eq) rEq:=by
 intro pins s σ H x y v u Q I rx ry h
 obtain⟨hs,q⟩:=h
 cases x with
 | non =>
  cases rx
  cases y with
  | non=>cases ry;exact PySem.EqNone.eq_none_none (aT I q (by simp))
  | bl j=>cases ry;exact PySem.EqNone.eq_none_bool (aT I q (by simp))
  | int j=>obtain⟨t',rfl⟩:=ry;exact PySem.EqNone.eq_none_int (aT I q (by simp))
  | str j=>obtain⟨t',rfl⟩:=ry;exact PySem.EqNone.eq_none_str (aT I q (by simp))
  | _=>exact absurd (show false=true from hs) i6
 | bl i =>
  cases rx
  cases y with
  | non=>cases ry;exact PySem.EqNone.eq_bool_none (aT I q (by simp))
  | bl j=>cases ry;exact eq_bool (aT I q pE)
  | str j=>obtain⟨t',rfl⟩:=ry;exact PySem.EqMixed.eq_bool_str (aT I q (by simp))
  | _=>exact absurd (show false=true from hs) i6
 | int i =>
  obtain⟨t,rfl⟩:=rx
  cases y with
  | non=>cases ry;exact PySem.EqNone.eq_int_none (aT I q (by simp))
  | int j=>obtain⟨t',rfl⟩:=ry;exact eq_int (aT I q oJ)
  | str j=>obtain⟨t',rfl⟩:=ry;exact PySem.EqMixed.eq_int_str (aT I q (by simp))
  | _=>exact absurd (show false=true from hs) i6
 | str i =>
  obtain⟨t,rfl⟩:=rx
  cases y with
  | non=>cases ry;exact PySem.EqNone.eq_str_none (aT I q (by simp))
  | bl j=>cases ry;exact PySem.EqMixed.eq_str_bool (aT I q (by simp))
  | int j=>obtain⟨t',rfl⟩:=ry;exact PySem.EqMixed.eq_str_int (aT I q (by simp))
  | str j=>obtain⟨t',rfl⟩:=ry;exact eq_str (aT I q oI)
  | _=>exact absurd (show false=true from hs) i6
 | byt i =>
  obtain⟨t,rfl⟩:=rx
  cases y with
  | byt j=>obtain⟨t',rfl⟩:=ry;exact PySem.W.eq_bytes (aT I q oK)
  | _=>exact absurd (show false=true from hs) i6
 | _=>cases y <;> exact absurd (show false=true from hs) i6
theorem eO:OpR X (compareOp .NotEq) rNe:=by
 intro pins s σ H x y v u Q I rx ry h
 obtain⟨hs,q⟩:=h
 cases x with
 | non =>
  cases rx
  cases y with
  | non=>cases ry;exact PySem.EqNone.ne_none_none (aT I q (by simp))
  | bl j=>cases ry;exact PySem.EqNone.ne_none_bool (aT I q (by simp))
  | int j=>obtain⟨t',rfl⟩:=ry;exact PySem.EqNone.ne_none_int (aT I q (by simp))
  | str j=>obtain⟨t',rfl⟩:=ry;exact PySem.EqNone.ne_none_str (aT I q (by simp))
  | _=>exact absurd (show false=true from hs) i6
 | bl i =>
  cases rx
  cases y with
  | non=>cases ry;exact PySem.EqNone.ne_bool_none (aT I q (by simp))
  | bl j=>cases ry;exact ne_bool (aT I q (congrArg not pE))
  | str j=>obtain⟨t',rfl⟩:=ry;exact PySem.EqMixed.ne_bool_str (aT I q (by simp))
  | _=>exact absurd (show false=true from hs) i6
 | int i =>
  obtain⟨t,rfl⟩:=rx
  cases y with
  | non=>cases ry;exact PySem.EqNone.ne_int_none (aT I q (by simp))
  | int j=>obtain⟨t',rfl⟩:=ry;exact ne_int (aT I q (congrArg not oJ))
  | str j=>obtain⟨t',rfl⟩:=ry;exact PySem.EqMixed.ne_int_str (aT I q (by simp))
  | _=>exact absurd (show false=true from hs) i6
 | str i =>
  obtain⟨t,rfl⟩:=rx
  cases y with
  | non=>cases ry;exact PySem.EqNone.ne_str_none (aT I q (by simp))
  | bl j=>cases ry;exact PySem.EqMixed.ne_str_bool (aT I q (by simp))
  | int j=>obtain⟨t',rfl⟩:=ry;exact PySem.EqMixed.ne_str_int (aT I q (by simp))
  | str j=>obtain⟨t',rfl⟩:=ry;exact ne_str (aT I q (congrArg not oI))
  | _=>exact absurd (show false=true from hs) i6
 | byt i =>
  obtain⟨t,rfl⟩:=rx
  cases y with
  | byt j=>obtain⟨t',rfl⟩:=ry;exact PySem.W.ne_bytes (aT I q (congrArg not oK))
  | _=>exact absurd (show false=true from hs) i6
 | _=>cases y <;> exact absurd (show false=true from hs) i6
theorem dH:OpR X (compareOp .Lt) (rI0 λ i j=>.bl (decide (i<j))):=opB0 λ _ _ _ _ _ _ _ q=>lt_int q
theorem cG:OpR X (compareOp .Gt) (rI0 λ i j=>.bl (decide (j<i))):=opB0 λ _ _ _ _ _ _ _ q=>gt_int q
theorem dF:OpR X (compareOp .Is) (λ x y H Q=>y=.non/\Q (.bl (decide (x=.non))) H):=by
 intro pins s σ H x y v u Q I rx ry h
 obtain⟨rfl,q⟩:=h
 cases ry
 refine is_none_gen (aT I q ?_)
 cases x <;> first
  | (cases rx;rfl)
  | (obtain⟨t,rfl⟩:=rx;rfl)
theorem jH:OpR X (compareOp .IsNot) (λ x y H Q=>y=.non/\Q (.bl (!decide (x=.non))) H):=by
 intro pins s σ H x y v u Q I rx ry h
 obtain⟨rfl,q⟩:=h
 cases ry
 refine isnot_none_gen (aT I q ?_)
 cases x <;> first
  | (cases rx;rfl)
  | (obtain⟨t,rfl⟩:=rx;rfl)
theorem nomark (b:ubv){op:CmpOp}(h:op≠.In:=by decide)(h2:op≠.NotIn:=by decide):behindInMarks op b=false:=by
 have e1:(op==CmpOp.In)=false:=by cases op <;> first | rfl | exact absurd rfl h
 have e2:(op==CmpOp.NotIn)=false:=by cases op <;> first | rfl | exact absurd rfl h2
 cases b <;> simp [behindInMarks,e1,e2]
theorem bF {op:CmpOp}{r:R2}(ho:OpR X (compareOp op) r)(ha:PE X a ta)(hb:PE X b tb)(hm:behindInMarks op b=false):PE X (.Compare a [op] [b] pos) (tOp r ta tb):=by
 intro pins s σ H Q I h
 exact wpAny_Compare1 (binT ha hb I h λ v u s2 x y H2 I2 rx ry q=>ho pins s2 σ H2 x y v u Q I2 rx ry q) hm
def tTest (t:TE):TT:=λ σ H Q=>t σ H λ x H'=>EBl x λ k=>Q k H'
theorem aN {op:CmpOp}{r:R2}(ho:OpR X (compareOp op) r)(ha:PE X a ta)(hb:PE X b tb)(hm:behindInMarks op b=false):PT X (.Compare a [op] [b] pos) (tTest (tOp r ta tb)):=by
 intro pins s σ H Q I h
 refine wpAny_isTrue_Compare1 (thn (ha pins s σ H _ I h) λ v s1 ⟨x,H1,I1,r1,q1⟩=>thn (hb pins s1 σ H1 _ I1 q1) λ u s2 ⟨y,H2,I2,r2,q2⟩ =>
  thn (ho pins s2 σ H2 x y v u _ I2 r1 r2 q2) λ c s3 ⟨z,H3,I3,r3,k,e,q3⟩=>?_) hm
 subst e
 cases r3
 exact ubs ⟨H3,I3,q3⟩
theorem line63:(m3:Nat)<2^63:=by rw[ubj];decide
theorem vals1 {x:V}{us:List b9}(r:Vals [x] us):∃ u,us=[u]/\RelV x u:=by
 cases r with
 | cons r1 r2=>cases r2;exact⟨_,rfl,r1⟩
theorem vals2 {x y:V}{us:List b9}(r:Vals [x,y] us):∃ u w',us=[u,w']/\RelV x u/\RelV y w':=by
 cases r with
 | cons r1 r2 =>
  cases r2 with
  | cons r3 r4=>cases r4;exact⟨_,_,rfl,r1,r3⟩
theorem gB (hc:X.calm=true):CallR X (.builtin "max") (λ xs H Q=>∃ i j,xs=[.int i,.int j]/\Q (.int (if j>i then j else i)) H):=by
 intro pins s σ H xs us Q I r h
 obtain⟨i,j,rfl,q⟩:=h
 obtain⟨u,w',rfl,⟨t,rfl⟩,⟨t',rfl⟩⟩:=vals2 r
 refine max_two_ints (I.ok.hd hc) λ h' tk k=>⟨_,H,I.kept k,?_,q⟩
 by_cases hj:j>i
 ·rw[uf7 hj,uf7 hj];exact⟨_,rfl⟩
 ·rw[uf8 hj,uf8 hj];exact⟨_,rfl⟩
inductive call_min2_i  (xs:List V) (H:Hp) (Q:VK):Prop
 | mk:∀ i j,(xs=[.int i,.int j])->(Q (.int (if j<i then j else i)) H)->call_min2_i xs H Q
theorem fZ (hc:X.calm=true):CallR X (.builtin "min") (call_min2_i):=by
 intro pins s σ H xs us Q I r h
 obtain⟨i,j,rfl,q⟩:=h
 obtain⟨u,w',rfl,⟨t,rfl⟩,⟨t',rfl⟩⟩:=vals2 r
 refine min_two_ints (I.ok.hd hc) λ h' tk k=>⟨_,H,I.kept k,?_,q⟩
 by_cases hj:j<i
 ·rw[uf7 hj,uf7 hj];exact⟨_,rfl⟩
 ·rw[uf8 hj,uf8 hj];exact⟨_,rfl⟩
theorem vZ:CallR X (.type "int") (λ xs H Q=>(∃ i,xs=[.int i]/\Q (.int i) H)\/∃ k,xs=[.bl k]/\Q (.int (if k then 1 else 0)) H):=by
 intro pins s σ H xs us Q I r h
 rcases h with ⟨i,rfl,q⟩ | ⟨k,rfl,q⟩
 ·obtain⟨u,rfl,t,rfl⟩:=vals1 r
  exact call_int_int ⟨.int i,H,I,⟨_,rfl⟩,q⟩
 ·obtain⟨u,rfl,r1⟩:=vals1 r
  cases r1
  exact call_int_bool ⟨.int (if k then 1 else 0),H,I.tok _,⟨_,rfl⟩,q⟩
end
end L2
namespace L2
open PySem PySem.Spec PyProof.Rows
structure ObjM (h:Heap)(x dx C:j8)(mA:Str->Option b9):Prop where
 obj:h.get? x=some (uev C dx)
 ns:h.Ns1 dx mA
 ne:dx≠x
theorem vL {h:Heap}{dx:j8}{mA:Str->Option b9}(n:h.Ns1 dx mA):∃ od,h.get? dx=some od/\∀ name,ufe name od=some (mA name):=by
 obtain⟨o,es,ep,ho,hd,hk,_,hm⟩:=n
 refine⟨o,ho,λ name=>?_⟩
 have e:=hm name
 unfold nsFind findBy at e
 rw[← Array.find?_toList] at e
 unfold ufe
 rw[hd]
 dsimp only
 split
 ·rename_i y q
  rw[q] at e
  exact congrArg some e
 ·rename_i q
  rw[q] at e
  have a:es.toList.any (·.refKey)=false:=by
   rw[List.any_eq_false]
   intro y hy
   obtain⟨z,t,hkey⟩:=hk y (Array.mem_toList_iff.mp hy)
   simp [DictEntry.refKey,hkey]
  have a':¬ es.toList.any (·.refKey)=true:=by rw[a];exact i6
  rw[uf8 a']
  exact congrArg some e
theorem ObjM.look {h:Heap}{x dx C:j8}{mA:Str->Option b9}(I:ObjM h x dx C mA):∃ od,PySem.W.InstAt h x (uev C dx) C (some od)/\∀ name,ufe name od=some (mA name) :=
 let ⟨od,ho,hl⟩:=vL I.ns
 ⟨od,⟨I.obj,rfl,rfl,ho⟩,hl⟩
section
variable {prog:j9}{w:v9}{A:v7}{E:b9->c7->Prop}{s:c7}{K:a9}{x dx C f:j8}{mA:Str->Option b9}{name:Str}{v:b9}
end
section
variable {P:j9}{w:v9}{H H':Hp}{h h':Heap}{a C dx:j8}{fs fs':List (Str × V)}
theorem yW (hok:HOk P w H h)(e:H a=some (.ins C dx fs)):∃ mA,ObjM h a dx C mA/\(∀ f,RelO (fs.lookup f) (mA f))/\PySem.Within mA (fs.map (·.1))/\fs.length<=1000/\H dx=some (.own a):=by
 obtain⟨d,z,ne,ob,mA,n,r,q⟩:=(show ObjOk P w H h a (.ins C dx fs) from hok a _ e)
 exact⟨mA,⟨ob,n,ne⟩,r,q,z,d⟩
end
structure Cls (K:a9)(C:j8):Prop where
 pg:PySem.W.plainGet K C Str.empty=true
 hd:PySem.W.hasDictIn K C=true
 po:PySem.W.plainOver K C=true
 sa:ud1 K (.ref C) "__setattr__"=some (some (.builtin "object.__setattr__"))
theorem Cls.get {K:a9}{C:j8}(c:Cls K C)(f:Str):PySem.W.plainGet K C f=true:=c.pg
structure Con (K:a9)(C:j8)(f:Str)(v:V)(u:b9):Prop where
 at_:ud1 K (.ref C) f=some (some u)
 rel:RelV v u
 get:PySem.W.specialIn K u "__get__"=some none
 cp:PySem.W.copiedNames.contains f=false
section
variable {X:Cx}{pins:List (j8 × Obj)}{σ:St}{H:Hp}{s:c7}{a C dx:j8}{fs:List (Str × V)}{f:Str}{v:V}{A:v7}{E:b9->c7->Prop}
end
section
variable {X:Cx}{o e value:ubv}{f:Str}{pos pos' tpos:Pos}{ta tv:TE}
end
section
variable {X:Cx}{pins:List (j8 × Obj)}{σ:St}{H:Hp}{s:c7}{A:v7}{E:b9->c7->Prop}{Q:b9->c7->Prop}{c:b9}{b:Bool}
inductive TyOf (K:a9)(H:Hp):V->b9->Prop where
 | non:TyOf K H .non (.type "NoneType")
 | bl (x:Bool):TyOf K H (.bl x) (.type "bool")
 | int (i:Int):TyOf K H (.int i) (.type "int")
 | str (x:Str):TyOf K H (.str x) (.type "str")
 | flt (x:UInt64):TyOf K H (.flt x) (.type "float")
 | lst {a:j8} {xs:List V} (e:H a=some (.lst xs)):TyOf K H (.ref a) (.type "list")
 | frz {a:j8} {o:Obj} {xs:List V} (e:H a=some (.frz o (.lst xs))):TyOf K H (.ref a) (.type "list")
 | tup {a:j8} {xs:List V} (e:H a=some (.tup xs)):TyOf K H (.ref a) (.type "tuple")
 | dK {a:j8} {kvs:List (Key × V)} (e:H a=some (.dK kvs)):TyOf K H (.ref a) (.type "dict")
 | dT {a:j8} {kvs:List (List Key × V)} (e:H a=some (.dT kvs)):TyOf K H (.ref a) (.type "dict")
 | ins {a C dx : j8} {fs : List (Str × V)} (e : H a = some (.ins C dx fs)) (cl : Cls K C) (ha : ud1 K (.ref C) "__class__" = some (some (.builtin "object.__class__")))
     (hn:PySem.W.specialIn K (.builtin "object.__class__") "__get__"=some (some (.builtin "getset_descriptor.__get__"))) (htk:PySem.W.takesIn K (.builtin "object.__class__")=some true)
     (hm:PySem.W.mroIn K C (.type "object")=some true):TyOf K H (.ref a) (.ref C)
theorem vP {x:V}{u t:b9}(I:Inv X pins σ H s)(rx:RelV x u)(ty:TyOf X.K H x t)(e:PySem.W.kitOne X.K t c=some b)(h:∀ tk,Q (.bool b) { s with toks:=tk }) :
  k8 (v5 X.prog X.w) A (call (.builtin "isinstance") [u,c]) Q E s:=by
 cases ty with
 | non=>cases (show u=Value.none from rx);exact uay PySem.W.kitx_none I.kIn True.intro e (λ z=>nomatch z) h
 | bl y=>cases (show u=Value.bool y from rx);exact uay PySem.W.kitx_bool I.kIn True.intro e (λ z=>nomatch z) h
 | int i=>obtain⟨t,q⟩:=(show ∃ t,u=Value.int i t from rx);cases q;exact uay PySem.W.kitx_int I.kIn True.intro e (λ z=>nomatch z) h
 | str y=>obtain⟨t,q⟩:=(show ∃ t,u=Value.str y t from rx);cases q;exact uay PySem.W.kitx_str I.kIn True.intro e (λ z=>nomatch z) h
 | flt y=>obtain⟨t,q⟩:=(show ∃ t,u=Value.float y t from rx);cases q;exact uay PySem.W.kitx_float I.kIn True.intro e (λ z=>nomatch z) h
 | @lst a xs ea =>
  cases (show u=Value.ref a from rx)
  obtain⟨_,_,n,_,h1⟩:=(show ObjOk X.prog X.w H s.heap a (.lst xs) from I.hok a _ ea)
  exact uay PySem.W.kitx_list I.kIn ⟨_,h1,rfl⟩ e (λ z=>nomatch z) h
 | @frz a ob xs ea =>
  cases (show u=Value.ref a from rx)
  obtain⟨_,_,_,n,_,h1⟩:=(show ObjOk X.prog X.w H s.heap a (.frz ob (.lst xs)) from I.hok a _ ea)
  exact uay PySem.W.kitx_list I.kIn ⟨_,h1,rfl⟩ e (λ z=>nomatch z) h
 | @tup a xs ea =>
  cases (show u=Value.ref a from rx)
  obtain⟨_,_,_,p⟩:=(show ObjOk X.prog X.w H s.heap a (.tup xs) from I.hok a _ ea)
  obtain⟨o,h1,h2,_⟩:=p
  exact uay PySem.W.kitx_tuple I.kIn ⟨o,h1,h2⟩ e (λ z=>nomatch z) h
 | @dK a kvs ea =>
  cases (show u=Value.ref a from rx)
  obtain⟨_,_,vs,_,p⟩:=(show ObjOk X.prog X.w H s.heap a (.dK kvs) from I.hok a _ ea)
  obtain⟨o,es,ep,h1,h2,_⟩:=p
  exact uay PySem.W.kitx_dict I.kIn ⟨o,h1,h2.1⟩ e (λ z=>nomatch z) h
 | @dT a kvs ea =>
  cases (show u=Value.ref a from rx)
  obtain⟨_,_,xs,_,o,es,ep,h1,h2,_⟩:=(show ObjOk X.prog X.w H s.heap a (.dT kvs) from I.hok a _ ea)
  exact uay PySem.W.kitx_dict I.kIn ⟨o,h1,h2.1⟩ e (λ z=>nomatch z) h
 | @ins a C dx fs ea cl ha hn htk hm =>
  cases (show u=Value.ref a from rx)
  obtain⟨mA,O,_⟩:=yW I.hok ea
  obtain⟨od,J,_⟩:=O.look
  exact uay (PySem.W.kitx_own (cl.get _) cl.hd ha hn htk hm) I.kIn J e (λ z=>nomatch z) h
end
end L2
namespace L2
open PySem PySem.Spec PyProof.Rows
structure Room (k:Nat)(A:v7):Prop where
 hd:A.handled=none
 dp:A.depth+3*k+5<recursionLimit
 un:A.units+16*k+200<cLine
 gd:A.guards=some []
theorem Room.mono {j k:Nat}{A:v7}(r:Room k A)(h:j<=k):Room j A:=⟨r.hd,by have:=r.dp;left,by have:=r.un;left,r.gd⟩
theorem Room.deeper {k:Nat}{A:v7}(r:Room (k+1) A)(env:Env):Room k (A.deeper env) :=
 ⟨r.hd,by have:=r.dp;show A.depth+1+3*k+5<_;left,by have:=r.un;show A.units+3+16*k+200<_;left,r.gd⟩
theorem Room.depth {k:Nat}{A:v7}(r:Room k A):A.depth<recursionLimit:=by have:=r.dp;left
theorem Room.units {k:Nat}{A:v7}(r:Room k A):A.units+64<cLine:=by have:=r.un;left
theorem Room.units0 {k:Nat}{A:v7}(r:Room k A):A.units<cLine:=by have:=r.un;left
def tNil:TA:=λ _ H Q=>Q [] H
def tCons (ta:TE)(tr:TA):TA:=λ σ H Q=>ta σ H λ x H1=>tr σ H1 λ xs H2=>Q (x::xs) H2
section
variable {X:Cx}{e:ubv}{es:List ubv}{te:TE}{t:TA}{pos:Pos}
theorem aC:PA X [] tNil:=λ _ _ _ _ H Q I h=>Calls.spliced_nil ⟨[],H,I,.nil,h⟩
theorem aA (ha:PE X e te)(hr:PA X es t)(hs:uae (e::es) X.env=(false,eval e X.env)::uae es X.env:=by rfl):PA X (e::es) (tCons te t):=by
 intro pos pins s σ H Q I h
 rw[hs]
 show k8 _ _ (spliced ((false,eval e X.env)::backTo pos (uae es X.env))) _ _ s
 refine Calls.spliced_cons (thn (ha pins s σ H _ I h) λ u s1 ⟨x,H1,I1,r1,q1⟩=>?_)
 exact thn (hr pos pins s1 σ H1 _ I1 q1) λ us s2 ⟨xs,H2,I2,r2,q2⟩=>⟨x::xs,H2,I2,.cons r1 r2,q2⟩
def tTup (t:TA):TE:=λ σ H Q=>t σ H λ xs H1=>xs.length<=m3/\∀ p,H1 p=none->Q (.ref p) (upd H1 p (.tup xs))
def tLst (t:TA):TE:=λ σ H Q=>t σ H λ xs H1=>xs.length<=m3/\∀ p,H1 p=none->Q (.ref p) (upd H1 p (.lst xs))
theorem jP {x1} (h:PA X es t):PE X (.Tuple es x1 pos) (tTup t):=by
 intro pins s σ H Q I hq
 refine wpAny_Tuple_spliced (thn (h pos pins s σ H _ I hq) λ us s1 ⟨xs,H1,I1,r,z,q⟩=>⟨by rw[← r.length];exact z,?_⟩)
 have hf:H1 s1.heap.objs.size=none:=I1.hok.fresh (c8 _)
 refine⟨.ref s1.heap.objs.size,upd H1 s1.heap.objs.size (.tup xs),I1.laid (t':=s1.toks) (λ b u e=>b7 _ e) (c8 _) ?_,rfl,q _ hf⟩
 exact⟨z,us,r,⟨_,i8 _ rfl,rfl,⟨_,rfl⟩,rfl⟩⟩
theorem dU (h:PA X es t):PE X (.List es pos) (tLst t):=by
 intro pins s σ H Q I hq
 refine wpAny_List_spliced (thn (h pos pins s σ H _ I hq) λ us s1 ⟨xs,H1,I1,r,z,q⟩=>⟨by rw[← r.length];exact z,?_⟩)
 have hf:H1 s1.heap.objs.size=none:=I1.hok.fresh (c8 _)
 refine⟨.ref s1.heap.objs.size,upd H1 s1.heap.objs.size (.lst xs),I1.laid (t':=s1.toks) (λ b u e=>b7 _ e) (c8 _) ?_,rfl,q _ hf⟩
 exact⟨z,us,0,r,i8 _ rfl⟩
end
abbrev Sp:=List V->Hp->VK->XK->Prop
abbrev CXT:=List Env->Hp->c7->XK->b9->c7->Prop
structure Env0 (P:j9)(w:v9)(K:a9)(mg:Str->Option b9)(base:Heap)(A:v7)(outer:List Env)(s:c7)(H:Hp):Prop where
 frames:A.frames=some outer
 mod:Mod K mg base
 bs:∀ b o,base.get? b=some o->s.heap.get? b=some o/\H b=none
 bsz:base.objs.size<=s.heap.objs.size
 funs:s.heap.FunFrames base outer
 frf:∀ b∈frs outer,H b=none
 hok:HOk P w H s.heap
 bare:AllBare s.gens
def CE (outer:List Env)(P:j9)(w:v9)(H:Hp)(s:c7)(Q:VK)(u:b9)(s':c7):Prop :=
 ∃ v H',s'.os=s.os/\AllBare s'.gens/\Un (frs outer) [] H H' s.heap s'.heap/\HOk P w H' s'.heap/\RelV v u/\Q v H'
def CR (CX:CXT)(outer:List Env)(P:j9)(w:v9)(H:Hp)(s:c7)(Q:VK)(E:XK)(r:Result)(s':c7):Prop :=
 match r with
 | .ok (.ret u)=>CE outer P w H s Q u s'
 | .ok _=>False
 | .error e=>CX outer H s E e s'
structure FnOk (P:j9)(w:v9)(K:a9)(mg:Str->Option b9)(base:Heap)(CX:CXT)(k:Nat)(f:j8)(fd:FuncData)(ps:List Str)(sp:Sp):Prop where
 len:∀ vs H Q E,sp vs H Q E->vs.length=ps.length
 run:∀ (A:v7)(outer:List Env)(s:c7)(H:Hp)(args:Args)(us:List b9)(vs:List V)(Q:VK)(E:XK),Room k A->Env0 P w K mg base A outer s H->BindsTo s fd args (ps.zip us)->Vals vs us->sp vs H Q E ->
  codeAny (v5 P w) A (.call (.ref f) args) (CR CX outer P w H s Q E) s
theorem FnOk.mono {P:j9}{w:v9}{K:a9}{mg:Str->Option b9}{base:Heap}{CX:CXT}{j k:Nat}{f:j8}{fd:FuncData}{ps:List Str}{sp:Sp}(F:FnOk P w K mg base CX j f fd ps sp)(h:j<=k) :
  FnOk P w K mg base CX k f fd ps sp:=⟨F.len,λ A outer s H args us vs Q E hr=>F.run A outer s H args us vs Q E (hr.mono h)⟩
theorem FnOk.imp {P:j9}{w:v9}{K:a9}{mg:Str->Option b9}{base:Heap}{CX:CXT}{k:Nat}{f:j8}{fd:FuncData}{ps:List Str}{sp sp':Sp}(F:FnOk P w K mg base CX k f fd ps sp)
  (h:∀ vs H Q E,sp' vs H Q E->sp vs H Q E):FnOk P w K mg base CX k f fd ps sp' :=
 ⟨λ vs H Q E q=>F.len vs H Q E (h _ _ _ _ q),λ A outer s H args us vs Q E hr he hb hv hs=>F.run A outer s H args us vs Q E hr he hb hv (h _ _ _ _ hs)⟩
section
variable {X:Cx}{pins:List (j8 × Obj)}{σ:St}{H:Hp}{s s':c7}
theorem Inv.env0 (I:Inv X pins σ H s):Env0 X.prog X.w X.K X.mg X.base X.A X.stack s H :=
 ⟨I.ok.frames,I.ok.mod,I.bs,o8 I.ok.bsz I.sz,I.stack,I.stkFree,I.hok,I.bare⟩
theorem Inv.after {Q:VK}{u:b9}(I:Inv X pins σ H s)(h:CE X.stack X.prog X.w H s Q u s'):EP X pins σ Q u s':=by
 obtain⟨v,H',os,bare,un,hok,r,q⟩:=h
 obtain⟨hh,g,d,t,os'⟩:=s'
 obtain rfl:os'=s.os:=os
 exact⟨v,H',I.call (h':=hh) (g':=g) (d':=d) (t':=t) (ch:=[]) un hok bare (λ b z=>absurd z (by simp)),r,q⟩
end
def tCall (sp:Sp)(dvs:List V)(E:XK)(t:TA):TE:=λ σ H Q=>t σ H λ vs H1=>sp (vs++dvs) H1 Q E
def Binds (K:a9)(fd:FuncData)(ps:List Str)(ds:List b9):Prop :=
 ∀ (s:c7)(us:List b9),K.In s.heap->(us++ds).length=ps.length->BindsTo s fd ⟨us,[]⟩ (ps.zip (us++ds))
theorem Binds.all {K:a9}{fd:FuncData}{ps:List Str}(h:∀ us:List b9,us.length=ps.length->bindArgs fd ⟨us,[]⟩=pure (ps.zip us)):Binds K fd ps []:=λ s us _ hl=>by
 rw[ubz] at hl ⊢
 exact .of_eq (h us hl)
def Passes (CX:CXT)(X:Cx)(E:XK):Prop:=∀ (pins:List (j8 × Obj))(σ:St)(H:Hp)(s:c7)(e:b9)(s':c7),Inv X pins σ H s->CX X.stack H s E e s'->X.xe e s'
section
variable {X:Cx}{CX:CXT}{k:Nat}{f C:j8}{fd:FuncData}{ps:List Str}{sp:Sp}{dvs:List V}{ds:List b9}{E:XK}{x m:Str}{p pos apos:Pos}{e o:ubv}{es:List ubv}{ta:TE}{t:TA}
theorem zL {pins:List (j8 × Obj)}{σ:St}{H:Hp}{s:c7}{Q:VK}{us:List b9}{vs:List V}(F:FnOk X.prog X.w X.K X.mg X.base CX k f fd ps sp)(hr:Room k X.A)(hb:Binds X.K fd ps ds)(hd:Vals dvs ds)(hx:Passes CX X E)
  (I:Inv X pins σ H s) (r:Vals vs us) (h:sp (vs++dvs) H Q E):k8 (v5 X.prog X.w) X.A (call (.ref f) us) (EP X pins σ Q) X.xe s:=by
 have r2:Vals (vs++dvs) (us++ds):=r.append hd
 have hl:(us++ds).length=ps.length:=by rw[← r2.length];exact F.len _ _ _ _ h
 refine wpAny_call (uej (F.run X.A X.stack s H ⟨us,[]⟩ (us++ds) (vs++dvs) Q E hr I.env0 (hb s us I.kIn hl) r2 h) λ r s' hq=>?_)
 cases r with
 | error e=>exact hx pins σ H s e s' I hq
 | ok fl =>
  cases fl with
  | ret u=>exact I.after hq
  | next=>exact False.elim hq
  | brk=>exact False.elim hq
  | cont=>exact False.elim hq
theorem yL (F:FnOk X.prog X.w X.K X.mg X.base CX k f fd ps sp)(hr:Room k X.A)(hg:Gl X x)(hm:X.mg x=some (.ref f))(hk:ub5 X.K (.ref f)=true)(hb:Binds X.K fd ps ds)(hd:Vals dvs ds)(hx:Passes CX X E)
  (ha:PA X (e::es) t) (hdb:(x==("__debug__":Str))=false:=by decide) (he:uae (e::es) X.env=(false,eval e X.env)::uae es X.env:=by rfl) (hpl:(backTo pos (uae es X.env)).any (·.1)=false:=by rfl) :
  PE X (.Call (.Name x p) (e::es) [] pos) (tCall sp dvs E t):=by
 intro pins s σ H Q I h
 refine ucx (yT I hg hm ?_ hdb)
 refine PySem.W.callWith_K (h₀:=X.base) I.ok.mod.kin hk (thn (ha pos pins s σ H _ I h) λ us s1 ⟨vs,H1,I1,r,q⟩=>⟨I1.kIn,?_⟩) he hpl
 exact zL F hr hb hd hx I1 r q
structure Mk (K:a9)(C f:j8):Prop where
 makes:PySem.W.makesIn K C=true
 init:ud1 K (.ref C) "__init__"=some (some (.ref f))
 fn:PySem.W.isFn K (.ref f)=true
 kp:ub5 K (.ref C)=true
end
section
variable {X:Cx}{CX:CXT}{k:Nat}{f C:j8}{fd:FuncData}{ps ks:List Str}{sp:Sp}{E:XK}{x m:Str}{p pos apos kpos:Pos}{e o:ubv}{es:List ubv}{kws:List Keyword}{te ta:TE}{t tk:TA}{nm:Option Str}
variable {g:List b9->List b9->List b9}{gV:List V->List V->List V}
end
structure FnScope (N P:List Str)(sc:Scope):Prop where
 kind:sc.kind=.function
 co:sc.isCoroutine=false
 gen:sc.isGenerator=false
 nd:N.Nodup
 pre:N.take P.length=P
 par:∀ x∈P,sc.names.lookup x=some .local\/sc.names.lookup x=some .cell
 nofree:∀ y∈sc.names,y.2≠.free
theorem lU {kindOf:Str->Option NameKind}{x:Str}:∀ {binds:List (Str × b9)}{m:Str->Option b9},(∀ v,(x,v)∉binds)->bindL kindOf binds m x=m x
 | [],_,_=>rfl
 | (n,v)::r,m,h=>by
  unfold bindL
  rw[lU λ w hw=>h w (j4 _ hw)]
  split
  ·have:x≠n:=by rintro rfl;exact h v g9
   simp [this]
  ·rfl
theorem lW {kindOf:Str->Option NameKind}{x:Str}:∀ {binds:List (Str × b9)}{m:Str->Option b9},(∀ v,(x,v)∉binds)->bindC kindOf binds m x=m x
 | [],_,_=>rfl
 | (n,v)::r,m,h=>by
  unfold bindC
  rw[lW λ w hw=>h w (j4 _ hw)]
  split
  ·rfl
  ·have:x≠n:=by rintro rfl;exact h v g9
   simp [this]
theorem lV {kindOf:Str->Option NameKind}{x:Str}{v:b9}:∀ {P:List Str}{vs:List b9}{i:Nat}{m:Str->Option b9},P.Nodup->P[i]?=some x->vs[i]?=some v->kindOf x=some .local ->
  bindL kindOf (P.zip vs) m x=some v
 | [],_,_,_,_,h,_,_=>by simp at h
 | _::_,[],_,_,_,_,h,_=>by simp at h
 | p::P,w::vs,0,m,nd,h1,h2,hk=>by
  simp at h1 h2;subst h1;subst h2
  show bindL kindOf ((p,w)::P.zip vs) m p=_
  unfold bindL
  rw[lU λ v hv=>(j0.mp nd).1 (ufj hv).1,uf7 hk]
  simp
 | p::P,w::vs,i+1,m,nd,h1,h2,hk=>by
  show bindL kindOf ((p,w)::P.zip vs) m x=_
  unfold bindL
  exact lV (i:=i) (j0.mp nd).2 (by simpa using h1) (by simpa using h2) hk
theorem lY {kindOf:Str->Option NameKind}{x:Str}{v:b9}:∀ {P:List Str}{vs:List b9}{i:Nat}{m:Str->Option b9},P.Nodup->P[i]?=some x->vs[i]?=some v->kindOf x≠some .local ->
  bindC kindOf (P.zip vs) m x=some v
 | [],_,_,_,_,h,_,_=>by simp at h
 | _::_,[],_,_,_,_,h,_=>by simp at h
 | p::P,w::vs,0,m,nd,h1,h2,hk=>by
  simp at h1 h2;subst h1;subst h2
  show bindC kindOf ((p,w)::P.zip vs) m p=_
  unfold bindC
  rw[lW λ v hv=>(j0.mp nd).1 (ufj hv).1,uf8 hk]
  simp
 | p::P,w::vs,i+1,m,nd,h1,h2,hk=>by
  show bindC kindOf ((p,w)::P.zip vs) m x=_
  unfold bindC
  exact lY (i:=i) (j0.mp nd).2 (by simpa using h1) (by simpa using h2) hk
def start (N:List Str)(vs:List V):St:=vs.map some++j6 (N.length-vs.length) none
def cxOf (CX:CXT)(P:j9)(w:v9)(K:a9)(mg:Str->Option b9)(base:Heap)(N:List Str)(qual:Str)(scope:Scope)(f:j8)(cd:b9)(A:v7)(outer:List Env)(s:c7)(H:Hp)(E:XK):Cx where
 prog:=P
 w:=w
 K:=K
 mg:=mg
 base:=base
 A:=A.deeper (envOfC qual scope s.heap.objs.size f cd)
 N:=N
 s₀:=s
 H₀:=H
 env:=envOfC qual scope s.heap.objs.size f cd
 outer:=outer
 stack:=envOfC qual scope s.heap.objs.size f cd::outer
 ex:=[]
 calm:=true
 fn:=λ _=>true
 pn:=[]
 xe:=λ e s'=>k8 (v5 P w) (A.deeper (envOfC qual scope s.heap.objs.size f cd)) (leaving (envOfC qual scope s.heap.objs.size f cd) e) (λ _ s''=>CX outer H s E e s'') (λ e' s''=>CX outer H s E e' s'') s'
theorem nH {sc:Scope}{n:Nat}{x:Str}(h:sc.names.lookup x=some .cell):∃ c,(cellsFrom n sc.names []).lookup x=some c:=by
 have q:=ufr sc.names n [] (.inl h)
 exact Option.isSome_iff_exists.mp q
theorem vQ {CX:CXT}{P:j9}{w:v9}{K:a9}{mg:Str->Option b9}{base:Heap}{N ps:List Str}{qual:Str}{scope:Scope}{f:j8}{cd:b9}{A:v7}{outer:List Env}{s s1:c7}{H:Hp}{E:XK}{us:List b9}{vs:List V}
  (S:FnScope N ps scope) (hd:A.handled=none) (e0:Env0 P w K mg base A outer s H) (hl:vs.length=ps.length) (r:Vals vs us)
  (x:InCallC s s.heap.objs.size (bindL (envOfC qual scope s.heap.objs.size f cd).kindOf (ps.zip us) λ _=>none) (cellsFrom (s.heap.objs.size+1) scope.names []) (bindC (envOfC qual scope s.heap.objs.size f cd).kindOf (ps.zip us) λ _=>none) s1) :
  Inv (cxOf CX P w K mg base N qual scope f cd A outer s H E) [] (start N vs) H s1:=by
 have hpl:ps.length<=N.length:=by have:=congrArg List.length S.pre;rw[uag] at this;left
 obtain⟨h1,tk,rfl,hk⟩:=x.done
 have noA:∀ b:j8,b∉(cxOf CX P w K mg base N qual scope f cd A outer s H E).ex:=λ b z=>absurd (show b∈([]:List j8) from z) (by simp)
 refine⟨⟨e0.mod,S.kind,rfl,rfl,c8 _,λ y z c h1 h2=>?_,λ y hy=>?_,λ y c _ h=>?_,λ _=>hd,Around.frames_deeper e0.frames,.inr ⟨rfl,rfl⟩,λ b z=>absurd z (noA b),e0.bs,e0.bsz,λ b _ _=>noA b,λ b z=>absurd z (noA b),e0.funs,e0.frf⟩,
  rfl,e0.bare,Un.kept hk,⟨_,x.toInCall.ns,λ i y v h1 h2 h3=>?_⟩,λ y c h=>⟨_,x.cell y c h⟩,e0.hok.fresh (c8 _),λ y c h=>?_,λ p hp=>absurd (show p∈([]:List (j8 × Obj)) from hp) (by simp),e0.hok.kept hk,?_⟩
 ·exact name_of_addr x.apart (ubg h1) (ubg h2)
 ·have hy:scope.names.lookup y=some .cell\/scope.names.lookup y=some .free:=hy
  rcases hy with hy | hy
  ·exact nH hy
  ·exact absurd rfl (S.nofree _ (ubg hy))
 ·exact uc2 (x.above y c (ubg h))
 ·have hi:i<vs.length:=by
   unfold start at h2
   by_cases hi:i<vs.length
   ·exact hi
   ·rw[x9 (by simpa using hi)] at h2
    rw[ucp] at h2
    split at h2 <;> cases h2
  have ha:vs[i]?=some v:=by
   unfold start at h2
   rw[uab (by simpa using hi),j3] at h2
   cases e:vs[i]? with
   | none=>rw[e] at h2;cases h2
   | some a=>rw[e] at h2;cases h2;rfl
  obtain⟨u,hu,rv⟩:=r.get ha
  have hp:ps[i]?=some y:=by
   rw[← S.pre,List.getElem?_take_of_lt (by left)];exact h1
  have ndP:ps.Nodup:=by rw[← S.pre];exact S.nd.sublist (List.take_sublist _ _)
  refine⟨u,rv,?_⟩
  rcases S.par y (i9 hp) with k | k
  ·exact .inl ⟨k,lV ndP hp hu k⟩
  ·obtain⟨c,e⟩:=nH (n:=s.heap.objs.size+1) k
   refine .inr ⟨.inl k,c,e,?_⟩
   have q:=x.cell y c e
   rw[lY ndP hp hu (by show scope.names.lookup y≠_;rw[k];decide)] at q
   exact q
 ·exact e0.hok.fresh (uc2 (x.above y c (ubg h)))
 ·unfold start
  show _=N.length
  rw[d6,c6,m5]
  left
theorem zaf {CX:CXT}{P:j9}{w:v9}{K:a9}{mg:Str->Option b9}{base:Heap}{k:Nat}{f:j8}{name qual:Str}{params:Arguments}{body:List ucy}{scope:Scope}{dV kV doc pm cdv ct oc:b9}{an od:Option j8}
  {osl:Array (Option b9)} {N ps:List Str} {sp:Sp} (lk:K.lookup f=some ⟨oc,od,.func (ubi name qual params body scope dV kV doc pm an cdv ct),osl⟩) (hcd:uda K cdv qual=true) (S:FnScope N ps scope)
  (len:∀ vs H Q E,sp vs H Q E->vs.length=ps.length)
  (hbody:∀ (A:v7)(outer:List Env)(s:c7)(H:Hp)(vs:List V)(Q:VK)(E:XK),Room k (A.deeper (envOfC qual scope s.heap.objs.size f cdv))->sp vs H Q E ->
   ∃ t,PSs (cxOf CX P w K mg base N qual scope f cdv A outer s H E) body t/\t { nx:=λ _ H'=>Q .non H',rt:=Q } (start N vs) H) :
  FnOk P w K mg base CX (k+1) f (ubi name qual params body scope dV kV doc pm an cdv ct) ps sp:=by
 refine⟨len,λ A outer s H args us vs Q E hr e0 hb r hsp=>?_⟩
 have hl:=len _ _ _ _ hsp
 have KX:K.In s.heap:=e0.mod.kin.keeps λ b o e=>(e0.bs b o e).1
 have lim:s.heap.NoLimit:=e0.mod.nolimit.keeps λ b o e=>(e0.bs b o e).1
 have hkind:∀ y∈ps.zip us,scope.names.lookup y.1=some .local\/(scope.names.lookup y.1=some .cell/\((cellsFrom (s.heap.objs.size+1) scope.names []).lookup y.1).isSome=true):=λ ⟨n,v⟩ hy=>by
  rcases S.par n (ufj hy).1 with q | q
  ·exact .inl q
  ·exact .inr ⟨q,ufr _ _ _ (.inl q)⟩
 refine codeAny_call_function hr.depth (KX _ _ lk) rfl S.co S.gen rfl (PySem.W.codeRec_of KX hcd) (hb _ _ _ _ ?_)
 refine wpAny_newFunctionEnv_cells S.kind hkind λ env he s1 x=>?_
 subst he
 refine⟨lim.keeps x.toInCall.keep,codeAny_func ?_⟩
 obtain⟨t,ht,hq⟩:=hbody A outer s H vs Q E (hr.deeper _) hsp
 have I:Inv (cxOf CX P w K mg base N qual scope f cdv A outer s H E) [] (start N vs) H s1:=vQ S hr.hd e0 hl r x
 refine ubx (ht [] s1 (start N vs) H _ I hq) (λ fl s' hs=>?_) λ e s' hs=>hs
 have fin:∀ {σ':St}{H':Hp}{v:V}{u:b9},Inv (cxOf CX P w K mg base N qual scope f cdv A outer s H E) [] σ' H' s'->RelV v u->Q v H'->CE outer P w H s Q u s' :=
  λ {σ' H' v u} J rv q=>⟨v,H',J.os,J.bare,J.base,J.hok,rv,q⟩
 cases fl with
 | ret u =>
  obtain⟨v,σ',H',J,rv,q⟩:=hs
  exact fin J rv q
 | next =>
  obtain⟨σ',H',J,q⟩:=hs
  exact fin (v:=V.non) (u:=Value.none) J rfl q
 | brk =>
  obtain⟨_,_,_,q⟩:=hs
  exact False.elim q
 | cont =>
  obtain⟨_,_,_,q⟩:=hs
  exact False.elim q
end L2
namespace L2
open PySem PySem.Spec PyProof.Rows
section
variable {X:Cx}{x:Str}{p pos:Pos}{e:ubv}{es:List ubv}{t:TA}{id T:String}{r:List V->Hp->VK->Prop}
def tCB (r:List V->Hp->VK->Prop)(t:TA):TE:=λ σ H Q=>t σ H λ vs H1=>r vs H1 Q
theorem aU (hc:CallR X (.builtin id) r)(hg:Gl X x)(hm:X.mg x=none)(hv:bootBuiltins x=some (.builtin id))(ha:PA X (e::es) t)(hn:x≠"__name__":=by decide)(hdb:(x==("__debug__":Str))=false:=by decide)
  (he:uae (e::es) X.env=(false,eval e X.env)::uae es X.env:=by rfl) (hpl:(backTo pos (uae es X.env)).any (·.1)=false:=by rfl):PE X (.Call (.Name x p) (e::es) [] pos) (tCB r t):=by
 intro pins s σ H Q I h
 refine ucx (cU I hg hm hv ?_ hn hdb)
 exact PyProof.Rows.callWith_builtin1 (thn (ha pos pins s σ H _ I h) λ us s1 ⟨vs,H1,I1,r1,q1⟩=>hc pins s1 σ H1 vs us Q I1 r1 q1) he hpl
theorem bY (hc:CallR X (.type T) r)(hg:Gl X x)(hm:X.mg x=none)(hv:bootBuiltins x=some (.type T))(ha:PA X (e::es) t)(hn:x≠"__name__":=by decide)(hdb:(x==("__debug__":Str))=false:=by decide)
  (he:uae (e::es) X.env=(false,eval e X.env)::uae es X.env:=by rfl) (hpl:(backTo pos (uae es X.env)).any (·.1)=false:=by rfl):PE X (.Call (.Name x p) (e::es) [] pos) (tCB r t):=by
 intro pins s σ H Q I h
 refine ucx (cU I hg hm hv ?_ hn hdb)
 exact uaj (thn (ha pos pins s σ H _ I h) λ us s1 ⟨vs,H1,I1,r1,q1⟩=>hc pins s1 σ H1 vs us Q I1 r1 q1) he hpl
end
end L2
namespace HT
open PySem PyProof.Rows
def lexLt:List Int->List Int->Bool
 | [],[]=>false
 | [],_::_=>true
 | _::_,[]=>false
 | x::xs,y::ys=>if x=y then lexLt xs ys else decide (x<y)
theorem dX (x y:Int)(xs ys:List Int):lexLt (x::xs) (y::ys)=if x=y then lexLt xs ys else decide (x<y):=rfl
theorem kC:lexLt [] []=false:=rfl
theorem qT (y:Int)(ys:List Int):lexLt [] (y::ys)=true:=rfl
theorem qU (x:Int)(xs:List Int):lexLt (x::xs) []=false:=rfl
theorem mZ (A:v7)(s:c7)(a:Int)(t:Tok)(c:Int)(u:Tok):∃ e,SeqAt.EqAt A s (.int a t) (.int c u) e/\(e=true↔a=c) :=
 ⟨(a==c),SeqAt.EqAt.int_int a t c u,by simp⟩
theorem mN (A:v7)(s:c7)(a:Int)(t:Tok)(c:Int)(u:Tok)(prog:j9)(w:v9)(E:b9->c7->Prop)(Q:b9->c7->Prop)(h:Q (.bool (decide (a<c))) s) :
  k8 (v5 prog w) A (richCompare .Lt (.int a t) (.int c u)) Q E s :=
 (PyProof.Rows.lt_int h:k8 (v5 prog w) A (compareOp .Lt (.int a t) (.int c u)) Q E s)
section
open PySem.SeqAt
open PySem.AutoSeq1 (wpAny_loadPart')
open PySem.MeetsSeq PySem.MeetsSeq2 PySem.MeetsSeq3
theorem rF (l b:j8)(items items2:Array b9)(n n2:Nat)(dd dd2:Option j8)(sl sl2:Array (Option b9))(ns ms:List Int)(hi:IntsAre items.toList ns)(hj:IntsAre items2.toList ms) :
  Meets (Builtin.«tuple.__lt__» ⟨[.ref l,.ref b],[]⟩)
   (λ _ R s=>s.heap.get? l=some { cls:=.type "tuple",dict:=dd,data:=.seq items n,slots:=sl }/\s.heap.get? b=some { cls:=.type "tuple",dict:=dd2,data:=.seq items2 n2,slots:=sl2 } /\
    R (.ok (.ret (.bool (lexLt ns ms)))) s) :=
 .of_wp λ prog w A R s h=>by
  obtain⟨hp,g,d,tk,os⟩:=s;obtain⟨hl,hb,h⟩:=h
  have f2:=AutoSeq1.sub_tuple_tuple
  have z1:items.size=ns.length:=by rw[← hi.length];simp
  have z2:items2.size=ms.length:=by rw[← hj.length];simp
  wp_walk using ubf hl,ubf hb,ufv _ (λ rest b s'=>b.1=none/\s'=⟨hp,g,d,tk,os⟩/\∃ (vs ws:List b9)(ns' ms':List Int),rest=vs.zip ws /\
   IntsAre vs ns'/\IntsAre ws ms'/\ns'.length+items2.size=ms'.length+items.size/\R (.ok (.ret (.bool (lexLt ns' ms')))) ⟨hp,g,d,tk,os⟩) _
  case turn =>
   rintro ⟨y,x⟩ rest b s' ⟨hb',rfl,vs,ws,ns',ms',hz,hvi,hwi,hlen,hR⟩
   cases hvi with
   | nil=>rw[List.zip_nil_left] at hz;cases hz
   | cons a t hvi' =>
    cases hwi with
    | nil=>rw[List.zip_nil_right] at hz;cases hz
    | cons c u hwi' =>
     rw[udd] at hz
     injection hz with hyx hrest
     injection hyx with hy hx
     subst hy hx
     rw[dX] at hR
     simp only [k9] at hlen
     obtain⟨e,he,hiff⟩:=mZ A.in1 ⟨hp,g,d,tk,os⟩ a t c u
     refine a8 (he prog w _ _ ?_)
     cases e with
     | true =>
      rw[uf7 (hiff.mp rfl)] at hR
      wp_walk
      exact⟨rfl,rfl,_,_,_,_,hrest,hvi',hwi',by left,hR⟩
     | false =>
      rw[uf8 (λ q=>absurd (hiff.mpr q) i6)] at hR
      have hri:=mN A.in1 ⟨hp,g,d,tk,os⟩ a t c u prog w
      wp_walk using hri
      exact⟨_,rfl,by simpa using hR⟩
  case fin =>
   rintro ⟨b1,b2⟩ s' ⟨hb',rfl,vs,ws,ns',ms',hz,hvi,hwi,hlen,hR⟩
   simp only at hb'
   subst hb'
   have hv:lexLt ns' ms'=decide (items.size<items2.size):=by
    cases hvi with
    | nil =>
     cases hwi with
     | nil =>
      simp only [uby] at hlen
      rw[kC]
      exact (uf5 (by left)).symm
     | cons c u hw =>
      simp only [uby,k9] at hlen
      rw[qT]
      exact (uf3 (by left)).symm
    | cons a t hv =>
     cases hwi with
     | nil =>
      simp only [uby,k9] at hlen
      rw[qU]
      exact (uf5 (by left)).symm
     | cons c u hw =>
      rw[udd] at hz
      cases hz
   rw[hv] at hR
   wp_walk
   exact⟨_,rfl,by simpa [Builtin.Tuple.tupleCompareSizes] using hR⟩
  case h =>
   exact⟨rfl,rfl,items.toList,items2.toList,ns,ms,rfl,hi,hj,by left,h⟩
end
section
variable {prog:j9}{w:v9}{A:v7}{E:b9->c7->Prop}{s:c7}
theorem kR {l b:j8}{items items2:Array b9}{ns ms:List Int}{Q:b9->c7->Prop}(hl:IsTup s.heap l items)(hb:IsTup s.heap b items2)(hi:IntsAre items.toList ns)(hj:IntsAre items2.toList ms)
  (hu:A.units<cLine) (h:Q (.bool (lexLt ns ms)) s):k8 (v5 prog w) A (compareOp .Lt (.ref l) (.ref b)) Q E s:=by
 obtain⟨⟨cls,dd,data,sl⟩,ho,hc,n,hd⟩:=id hl
 obtain⟨⟨cls2,dd2,data2,sl2⟩,ho2,hc2,n2,hd2⟩:=id hb
 simp only at hc hd hc2 hd2
 subst hc hd hc2 hd2
 exact richCompare_meets_room (op:=.Lt) ⟨_,ho,rfl⟩ ⟨_,ho2,rfl⟩ ufx ufs (ufn _ _) (rF l b items items2 n n2 dd dd2 sl sl2 ns ms hi hj)
  ⟨ho,ho2,show Value.bool (lexLt ns ms)≠Value.notImplemented/\Q (.bool (lexLt ns ms)) s from ⟨(λ x=>nomatch x),h⟩⟩ hu
theorem zB {t b:j8}{vs ws:List b9}{Q:b9->c7->Prop}(ht:IsTup s.heap t vs.toArray)(hb:IsTup s.heap b ws.toArray)(hv:vs≠[])
  (h1:ws=[]->Q (.ref t) s) (h2:ws≠[]->Q (.ref s.heap.objs.size) { s with heap:=s.heap.push { cls:=.type "tuple",data:=.seq (vs++ws).toArray } })
  (hsz:vs.length+ws.length<=m3):k8 (v5 prog w) A (binaryOp .Add (.ref t) (.ref b)) Q E s:=by
 obtain⟨⟨cls,dd,data,sl⟩,ho,hc,n,hd⟩:=id ht
 obtain⟨⟨cls2,dd2,data2,sl2⟩,ho2,hc2,n2,hd2⟩:=id hb
 simp only at hc hd hc2 hd2
 subst hc hd hc2 hd2
 have e:vs.toArray++ws.toArray=(vs++ws).toArray:=by simp
 by_cases hw:ws=[]
 ·exact concat_meets ⟨_,ho,rfl⟩ ⟨_,ho2,rfl⟩ ufw seq_tuple_add udn udk (udc _ _)
   (tuple_addW1 t b vs.toArray ws.toArray n n2 dd dd2 sl sl2 (by simpa using hv) (by simp [hw])) ⟨ho,ho2,h1 hw⟩
 ·refine concat_meets ⟨_,ho,rfl⟩ ⟨_,ho2,rfl⟩ ufw seq_tuple_add udn udk (udc _ _)
   (tuple_addW2 t b vs.toArray ws.toArray n n2 dd dd2 sl sl2 (by simpa using hv) (by simpa using hw) (by rw[d7,d7];exact hsz)) ⟨ho,ho2,?_⟩
  rw[e]
  exact h2 hw
def sIx (n d:Nat):Option Int->Nat
 | none=>d
 | some v=>if v<0 then (v+(n:Int)).toNat else min v.toNat n
theorem cY (n d:Nat):sIx n d none=d:=rfl
theorem dA (n d k:Nat):sIx n d (some (k:Int))=min k n:=by
 show (if (k:Int)<0 then ((k:Int)+(n:Int)).toNat else min (k:Int).toNat n)=min k n
 rw[uf8 (by left),uaq]
theorem zK (n d:Nat)(hd:d<=n)(o:Option Int):sIx n d o<=n:=by
 cases o with
 | none=>exact hd
 | some v =>
  show (if v<0 then (v+(n:Int)).toNat else min v.toNat n)<=n
  by_cases hv:v<0
  ·rw[uf7 hv];left
  ·rw[uf8 hv];exact Nat.min_le_right _ _
theorem oN (v:Int)(n d:Nat):(if v<0 then max (v+(n:Int)) 0 else min v (n:Int))=((sIx n d (some v):Nat):Int):=by
 show (if v<0 then max (v+(n:Int)) 0 else min v (n:Int))=(((if v<0 then (v+(n:Int)).toNat else min v.toNat n):Nat):Int)
 by_cases hv:v<0
 ·simp only [uf7 hv];left
 ·simp only [uf8 hv];left
theorem uM (lo hi:Option Int)(n:Nat):Builtin.Slice.sliceAdjust lo hi 1 (n:Int)=(((sIx n 0 lo:Nat):Int),((sIx n n hi:Nat):Int)):=by
 have h1:¬ ((1:Int)<0):=by left
 unfold Builtin.Slice.sliceAdjust
 simp only [h1,if_false]
 refine Prod.ext ?_ ?_
 ·cases lo with
  | none=>rfl
  | some v=>exact oN v n 0
 ·cases hi with
  | none=>rfl
  | some v=>exact oN v n n
theorem tX (i j:Nat):Builtin.Slice.slicePlaces (i:Int) (j:Int) 1=j-i:=by
 unfold Builtin.Slice.slicePlaces
 have h1:(1:Int)>0:=by left
 simp only [h1,if_true,ue9]
 split <;> left
theorem eV {v:b9}{o:Option Int}{Q:Option Int->c7->Prop}(p:IsPart v o)(h:Q o s):k8 (v5 prog w) A (Builtin.Slice.slicePartIndex v) Q E s:=by
 cases p with
 | none=>exact slicePart_none h
 | int i t=>exact slicePart_int h
theorem kB {sl:j8}{vl vu:b9}{lo hi:Option Int}{n:Nat}{Q:Int × Int × Nat->c7->Prop}(hs:s.heap.IsSliceOf sl vl vu .none)(pl:IsPart vl lo)(pu:IsPart vu hi)
  (h:Q (((sIx n 0 lo:Nat):Int),1,sIx n n hi-sIx n 0 lo) s):k8 (v5 prog w) A (Builtin.Slice.sliceApplied (.ref sl) (pure (n:Int))) Q E s:=by
 obtain⟨os,hos,hcs,hds⟩:=id hs
 unfold Builtin.Slice.sliceApplied Builtin.Slice.sliceFields
 refine a8 (a8 (p7 hos hds (x:=vl) rfl (a8 (p7 hos hds (x:=vu) rfl (a8 (p7 hos hds (x:=.none) rfl (d3 ?_)))))))
 refine a8 (slicePart_none ?_)
 show k8 _ _ (if ((1:Int)==0)=true then _ else _) _ _ s
 rw[uf8 (by decide)]
 refine a8 (eV pl (a8 (eV pu (a8 (d3 ?_)))))
 show k8 _ _ (match Builtin.Slice.sliceAdjust lo hi 1 (n:Int) with | (lo,hi)=>pure (lo,(1:Int),Builtin.Slice.slicePlaces lo hi 1)) _ _ s
 rw[uM lo hi n]
 show k8 _ _ (pure (((sIx n 0 lo:Nat):Int),(1:Int),Builtin.Slice.slicePlaces ((sIx n 0 lo:Nat):Int) ((sIx n n hi:Nat):Int) 1)) _ _ s
 rw[tX]
 exact d3 h
theorem wU (xs:Array b9)(i k:Nat):((c9 k).filterMap λ (m:Nat)=>xs[((i:Int)+(m:Int)*1).toNat]?).toArray=((xs.toList.drop i).take k).toArray:=by
 have e:(λ (m:Nat)=>xs[((i:Int)+(m:Int)*1).toNat]?)=λ m=>xs[i+m]?:=by
  funext m
  have:((i:Int)+(m:Int)*1).toNat=i+m:=by left
  rw[this]
 rw[e]
 have:=pick_run xs i k
 rw[ucr] at this
 have e2:((λ x=>xs[x]?) ∘ λ x=>i+x)=λ m=>xs[i+m]?:=rfl
 rw[e2] at this
 rw[this]
theorem pV {t sl:j8}{items:Array b9}{vl vu:b9}{lo hi:Option Int}{Q:b9->c7->Prop}(ht:IsTup s.heap t items)(hs:s.heap.IsSliceOf sl vl vu .none)(pl:IsPart vl lo)(pu:IsPart vu hi)
  (hw:¬ (sIx items.size 0 lo=0/\sIx items.size items.size hi=items.size))
  (h:Q (.ref s.heap.objs.size) { s with heap:=s.heap.push { cls:=.type "tuple",data:=.seq ((items.toList.drop (sIx items.size 0 lo)).take (sIx items.size items.size hi-sIx items.size 0 lo)).toArray } })
  (hsz:items.size<=m3):k8 (v5 prog w) A (getItem (.ref t) (.ref sl)) Q E s:=by
 have htake:sizeOk (.seq ((items.toList.drop (sIx items.size 0 lo)).take (sIx items.size items.size hi-sIx items.size 0 lo)).toArray):=by
  show ((items.toList.drop (sIx items.size 0 lo)).take (sIx items.size items.size hi-sIx items.size 0 lo)).toArray.size<=m3
  rw[d7,uag,p9,ubh]
  left
 have hj:sIx items.size items.size hi<=items.size:=zK _ _ (c8 _) hi
 obtain⟨os,hos,hcs,hds⟩:=id hs
 have hTs:s.TypeIs (.ref sl) "slice":=⟨os,hos,hcs⟩
 unfold getItem
 try with_reducible refine uah ?_
 first | refine a8 (d3 ?_) | skip
 refine a8 (ud0 ht.typeIs (by decide) ?_)
 refine a8 (v6 (name:=u6 "__getitem__") ht.typeIs o0
  (uaa o0 ht.typeIs entry_tuple_getitem ?_ (args_tuple_getitem _ _)))
 show k8 _ _ (Builtin.Tuple.tupleItemsOf (.ref t) >>= _) _ _ s
 refine a8 (tupleItemsOf_ ht ?_)
 refine a8 (ucs hTs ?_)
 rw[uf7 (by decide)]
 refine a8 (kB hs pl pu ?_)
 have hno:¬ ((((sIx items.size 0 lo:Nat):Int)==0&&(1:Int)==1&&(sIx items.size items.size hi-sIx items.size 0 lo)==items.size)=true):=by
  intro q
  rw[r6,r6] at q
  have q1:((sIx items.size 0 lo:Nat):Int)=0:=eq_of_beq q.1.1
  have q2:sIx items.size items.size hi-sIx items.size 0 lo=items.size:=eq_of_beq q.2
  exact hw ⟨by left,by left⟩
 show k8 _ _ (if (((sIx items.size 0 lo:Nat):Int)==0&&(1:Int)==1&&(sIx items.size items.size hi-sIx items.size 0 lo)==items.size)=true then _ else _) _ _ s
 rw[uf8 hno,wU]
 first
  | exact a8 (m:=Builtin.Tuple.tupleExact _) (u5 (d3 ⟨_,rfl,d3 h⟩) htake)
  | exact a8 (m:=Builtin.Tuple.tupleExact _) (u5 (a8 (d3 (d3 ⟨_,rfl,d3 h⟩))) htake)
  | exact a8 (a8 (m:=Builtin.Tuple.tupleExact _) (u5 (d3 (d3 ⟨_,rfl,d3 h⟩)) htake))
  | exact a8 (a8 (m:=Builtin.Tuple.tupleExact _) (u5 (d3 ⟨_,rfl,d3 h⟩) htake))
end
end HT
namespace L2
open PySem PySem.Spec PyProof.Rows
abbrev TO:=St->Hp->(Option Int->Hp->Prop)->Prop
def PO (X:Cx)(e:Option ubv)(t:TO):Prop :=
 ∀ (pins:List (j8 × Obj))(s:c7)(σ:St)(H:Hp)(Q:Option Int->Hp->Prop),Inv X pins σ H s->t σ H Q ->
  k8 (v5 X.prog X.w) X.A (evalPart e X.env) (λ u s'=>∃ o H',Inv X pins σ H' s'/\IsPart u o/\Q o H') X.xe s
def tNoPart:TO:=λ _ H Q=>Q none H
def tPart (t:TE):TO:=λ σ H Q=>t σ H λ x H1=>EInt x λ i=>Q (some i) H1
theorem dI {ns:List Int}:∀ {us:List b9},Vals (ns.map V.int) us->IntsAre us ns:=by
 induction ns with
 | nil=>intro us r;rw[uey] at r;cases r;exact .nil
 | cons n ns ih =>
  intro us r
  rw[ua1] at r
  cases r with
  | cons r1 r2 =>
   obtain⟨t,e⟩:=r1
   subst e
   exact .cons n t (ih r2)
section
variable {X:Cx}{e:ubv}{te:TE}{lo hi:Option ubv}{tl th:TO}{pos p2:Pos}
theorem bU:PO X none tNoPart:=by
 intro pins s σ H Q I h
 rw[evalPart_none]
 exact d3 ⟨none,H,I,.none,h⟩
theorem bT (h:PE X e te):PO X (some e) (tPart te):=by
 intro pins s σ H Q I hw
 rw[evalPart_some]
 refine thn (h pins s σ H _ I hw) λ u s1 ⟨x,H1,I1,r1,q1⟩=>?_
 obtain⟨i,rfl,q⟩:=q1
 obtain⟨t,rfl⟩:=r1
 exact⟨some i,H1,I1,.int i t,q⟩
def SlR (X:Cx)(r:V->Option Int->Option Int->Hp->VK->Prop):Prop :=
 ∀ (pins:List (j8 × Obj))(s:c7)(σ:St)(H:Hp)(x:V)(v vl vu:b9)(lo hi:Option Int)(sl:j8)(Q:VK),Inv X pins σ H s->RelV x v->s.heap.IsSliceOf sl vl vu .none->IsPart vl lo->IsPart vu hi->r x lo hi H Q ->
  ∃ T id,typeLookup (.type T) "__getitem__"=pure (some (.builtin id))/\s.TypeIs v T/\k8 (v5 X.prog X.w) X.A (getItem v (.ref sl)) (EP X pins σ Q) X.xe s
def tSl (r:V->Option Int->Option Int->Hp->VK->Prop)(te:TE)(tl th:TO):TE:=λ σ H Q=>te σ H λ x H1=>tl σ H1 λ l H2=>th σ H2 λ u H3=>r x l u H3 Q
theorem bZ {r:V->Option Int->Option Int->Hp->VK->Prop}(hr:SlR X r)(he:PE X e te)(hl:PO X lo tl)(hu:PO X hi th):PE X (.Subscript e (.Slice lo hi none p2) pos) (tSl r te tl th):=by
 intro pins s σ H Q I h
 refine Subscript_ (thn (he pins s σ H _ I h) λ v s1 ⟨x,H1,I1,r1,q1⟩=>?_)
 refine wpAny_Slice (thn (hl pins s1 σ H1 _ I1 q1) λ vl s2 ⟨l,H2,I2,pl,q2⟩=>thn (hu pins s2 σ H2 _ I2 q2) λ vu s3 ⟨u,H3,I3,pu,q3⟩=>?_)
 rw[evalPart_none]
 refine d3 ?_
 have I4:Inv X pins σ H3 { s3 with heap:=s3.heap.push { cls:=.type "slice",data:=.fields #[vl,vu,.none] } }:=I3.kept (t':=s3.toks) λ b ob q=>b7 _ q
 obtain⟨T,id,hT,ht,hg⟩:=hr pins { s3 with heap:=s3.heap.push { cls:=.type "slice",data:=.fields #[vl,vu,.none] } } σ H3 x v vl vu l u s3.heap.objs.size Q I4 r1 (uff ..) pl pu q3
 show k8 (v5 X.prog X.w) X.A (subscriptTail e (.Slice lo hi none p2) v (.ref s3.heap.objs.size)) (EP X pins σ Q) X.xe { s3 with heap:=s3.heap.push { cls:=.type "slice",data:=.fields #[vl,vu,.none] } }
 exact tail_any (ops:=[.ref s3.heap.objs.size,v]) ht hT hg (by with_unfolding_all rfl)
def cutV (xs:List V)(lo hi:Option Int):List V:=(xs.drop (HT.sIx xs.length 0 lo)).take (HT.sIx xs.length xs.length hi-HT.sIx xs.length 0 lo)
theorem tD (xs:List V)(lo hi:Option Int):(cutV xs lo hi).length<=xs.length:=by
 unfold cutV
 rw[uag,p9]
 left
inductive rSlT_i (K:a9)(x:V)(lo:Option Int)(hi:Option Int)(H:Hp)(Q:VK):Prop
 | mk:∀ a xs,(x=.ref a)->(SqT K H a xs)->(¬ (HT.sIx xs.length 0 lo=0/\HT.sIx xs.length xs.length hi=xs.length))->(∀ p,H p=none->Q (.ref p) (upd H p (.tup (cutV xs lo hi))))->rSlT_i K x lo hi H Q
def rSlT (K:a9):V->Option Int->Option Int->Hp->VK->Prop:=λ x lo hi H Q=>rSlT_i K x lo hi H Q
theorem zI:SlR X (rSlT X.K):=by
 intro pins s σ H x v vl vu lo hi sl Q I rx hs pl pu h
 obtain⟨a,xs,rfl,hx,hw,q⟩:=h
 cases rx
 obtain⟨its,r,ht,hz⟩:=I.tuple hx
 have hlen:its.toArray.size=xs.length:=by rw[d7];exact r.length.symm
 refine⟨"tuple",_,o0.lookup,ht.typeIs,?_⟩
 refine HT.pV ht hs pl pu (by rw[hlen];exact hw) ?_ (by rw[hlen];exact hz)
 rw[hlen]
 refine⟨.ref s.heap.objs.size,_,I.laid (t':=s.toks) (o:=.tup (cutV xs lo hi)) (λ b ob q=>b7 _ q) (c8 _) ?_,rfl,q _ (I.hok.fresh (c8 _))⟩
 exact⟨o8 (tD xs lo hi) hz,_,(r.drop (HT.sIx xs.length 0 lo)).take (HT.sIx xs.length xs.length hi-HT.sIx xs.length 0 lo),TupN.new _ _⟩
inductive rLtT_i (K:a9)(x:V)(y:V)(H:Hp)(Q:VK):Prop
 | mk:∀ a b ns ms,(x=.ref a)->(y=.ref b)->(SqT K H a (ns.map V.int))->(SqT K H b (ms.map V.int))->(Q (.bl (HT.lexLt ns ms)) H)->rLtT_i K x y H Q
def rLtT (K:a9):R2:=λ x y H Q=>rLtT_i K x y H Q
theorem oW (hu:X.A.units<cLine):OpR X (compareOp .Lt) (rLtT X.K):=by
 intro pins s σ H x y v u Q I rx ry h
 obtain⟨a,b,ns,ms,rfl,rfl,ha,hb,q⟩:=h
 cases rx
 cases ry
 obtain⟨its,r1,p1,_⟩:=I.tuple ha
 obtain⟨its2,r2,p2,_⟩:=I.tuple hb
 have i1:IntsAre its.toArray.toList ns:=dI r1
 have i2:IntsAre its2.toArray.toList ms:=dI r2
 exact HT.kR p1 p2 i1 i2 hu ⟨.bl (HT.lexLt ns ms),H,I,rfl,q⟩
inductive rCatT_i (K:a9)(x:V)(y:V)(H:Hp)(Q:VK):Prop
 | mk:∀ a b xs ys,(x=.ref a)->(y=.ref b)->(SqT K H a xs)->(SqT K H b ys)->(xs≠[])->(xs.length+ys.length<=m3)->((ys=[]->Q (.ref a) H))->((ys≠[]->∀ p,H p=none->Q (.ref p) (upd H p (.tup (xs++ys)))))->rCatT_i K x y H Q
def rCatT (K:a9):R2:=λ x y H Q=>rCatT_i K x y H Q
theorem Vals.nil_iff {xs:List V}{us:List b9}(r:Vals xs us):us=[]↔xs=[]:=by
 cases r with
 | nil=>simp
 | cons _ _=>simp
theorem yN:OpR X (binaryOp .Add) (rCatT X.K):=by
 intro pins s σ H x y v u Q I rx ry h
 obtain⟨a,b,xs,ys,rfl,rfl,ha,hb,hx,hz,q1,q2⟩:=h
 cases rx
 cases ry
 obtain⟨its,r1,p1,_⟩:=I.tuple ha
 obtain⟨its2,r2,p2,_⟩:=I.tuple hb
 refine HT.zB p1 p2 (λ z=>hx (r1.nil_iff.mp z)) (λ z=>⟨.ref a,H,I,rfl,q1 (r2.nil_iff.mp z)⟩) (λ z=>?_) (by rw[← r1.length,← r2.length];exact hz)
 refine⟨.ref s.heap.objs.size,_,I.laid (t':=s.toks) (o:=.tup (xs++ys)) (λ b ob q=>b7 _ q) (c8 _) ?_,rfl,q2 (λ w=>z (r2.nil_iff.mpr w)) _ (I.hok.fresh (c8 _))⟩
 exact⟨by rw[d6];exact hz,_,r1.append r2,TupN.new _ _⟩
end
end L2
namespace L2
open PySem PySem.Spec PyProof.Rows
def ixN (n:Nat)(i:Int):Option Nat:=if 0<=i then (if i<n then some i.toNat else none) else if -(n:Int)<=i then some (i+n).toNat else none
def atI {α:Type}(xs:List α)(i:Int):Option α:=(ixN xs.length i).bind λ j=>xs[j]?
theorem jI {n:Nat}{i:Int}{j:Nat}(h:ixN n i=some j):seqIndex? i n=some j/\j<n/\-(n:Int)<=i/\i<n:=by
 unfold ixN at h
 by_cases h0:0<=i
 ·rw[uf7 h0] at h
  by_cases h1:i<n
  ·rw[uf7 h1] at h
   have e:i.toNat=j:=j5 h
   exact⟨by rw[seqIndex_of h0 h1,e],by left,by left,h1⟩
  ·rw[uf8 h1] at h;cases h
 ·rw[uf8 h0] at h
  by_cases h1:-(n:Int)<=i
  ·rw[uf7 h1] at h
   have e:(i+n).toNat=j:=j5 h
   exact⟨by rw[seqIndex_neg (by left) h1,e],by left,h1,by left⟩
  ·rw[uf8 h1] at h;cases h
theorem oQ {α:Type}{xs:List α}{i:Int}{v:α}(h:atI xs i=some v):∃ j,seqIndex? i xs.length=some j/\xs[j]?=some v/\j<xs.length/\-(xs.length:Int)<=i/\i<xs.length:=by
 unfold atI at h
 cases e:ixN xs.length i with
 | none=>rw[e] at h;cases h
 | some j =>
  rw[e] at h
  obtain⟨h1,h2,h3,h4⟩:=jI e
  exact⟨j,h1,h,h2,h3,h4⟩
theorem oP {α:Type}{xs:List α}{j:Nat}{v:α}(h:xs[j]?=some v):atI xs (j:Int)=some v:=by
 have hj:j<xs.length:=(i3.mp h).1
 have e:ixN xs.length (j:Int)=some j:=by
  unfold ixN
  rw[uf7 (by left),uf7 (by left)];simp
 unfold atI;rw[e];exact h
theorem nJ {α:Type}(xs:List α)(v:α):atI (xs++[v]) (-1)=some v:=by
 have hl:(xs++[v]).length=xs.length+1:=by simp
 have e:ixN (xs++[v]).length (-1)=some xs.length:=by
  unfold ixN
  rw[hl,uf8 (by decide),uf7 (by left)]
  congr 1
  left
 unfold atI
 rw[e]
 show (xs++[v])[xs.length]?=some v
 simp
def PlainIx (b:ubv):Prop:=∀ o i,subscripted b false o i=operate [o,i] (getItem o i)
def IxR (X:Cx)(r:R2):Prop :=
 ∀ (value slice:ubv)(pins:List (j8 × Obj))(s:c7)(σ:St)(H:Hp)(x y:V)(v u:b9)(Q:VK),Inv X pins σ H s->RelV x v->RelV y u->r x y H Q ->
  subscripted slice false v u=operate [v,u] (getItem v u)->k8 (v5 X.prog X.w) X.A (subscriptTail value slice v u) (EP X pins σ Q) X.xe s
def MtR (X:Cx)(id:String)(r:V->List V->Hp->VK->Prop):Prop :=
 ∀ (pins:List (j8 × Obj))(s:c7)(σ:St)(H:Hp)(x:V)(xs:List V)(v:b9)(us:List b9)(Q:VK),Inv X pins σ H s->RelV x v->Vals xs us->r x xs H Q ->
  k8 (v5 X.prog X.w) X.A (call (.builtin id) (v::us)) (EP X pins σ Q) X.xe s
section
variable {X:Cx}{a b:ubv}{ta tb:TE}{pos:Pos}
theorem aF {r:R2}(hr:IxR X r)(ha:PE X a ta)(hb:PE X b tb)(hs:PlainIx b):PE X (.Subscript a b pos) (tOp r ta tb):=by
 intro pins s σ H Q I h
 exact Subscript_ (binT ha hb I h λ v u s2 x y H2 I2 rx ry q=>hr a b pins s2 σ H2 x y v u Q I2 rx ry q (hs _ _))
inductive rIxL_i (K:a9)(x:V)(y:V)(H:Hp)(Q:VK):Prop
 | mk:∀ p xs i v,(x=.ref p)->(y=.int i)->(SqL K H p xs)->(atI xs i=some v)->(Q v H)->rIxL_i K x y H Q
def rIxL (K:a9):R2:=λ x y H Q=>rIxL_i K x y H Q
inductive rIxT_i (K:a9)(x:V)(y:V)(H:Hp)(Q:VK):Prop
 | mk:∀ p xs i v,(x=.ref p)->(y=.int i)->(SqT K H p xs)->(atI xs i=some v)->(Q v H)->rIxT_i K x y H Q
def rIxT (K:a9):R2:=λ x y H Q=>rIxT_i K x y H Q
theorem aQ:IxR X (rIxL X.K):=by
 intro value slice pins s σ H x y v u Q I rx ry h hs
 obtain⟨p,xs,i,z,rfl,rfl,hq,he,q⟩:=h
 cases rx
 obtain⟨t,rfl⟩:=ry
 obtain⟨its,r,pl,hz⟩:=I.list hq
 obtain⟨j,h1,h2,h3,h4,h5⟩:=oQ he
 obtain⟨w,ew,rw'⟩:=r.get h2
 have hl:=r.length
 have hn:=line63
 have fin:EP X pins σ Q w s:=⟨z,H,I,rw',q⟩
 by_cases h0:0<=i
 ·have hj:i.toNat=j:=by
   rw[seqIndex_of h0 h5] at h1
   exact j5 h1
  exact item_listR pl.isList h0 (by left) (by rw[hj];simpa using ew) fin hs
 ·have hj:(i+(its.toArray.size:Int)).toNat=j:=by
   rw[seqIndex_neg (by left) h4] at h1
   rw[d7,← hl]
   exact j5 h1
  exact subscriptTail_builtinR (x:=w) pl.isList.typeIs slot_list_getitem.lookup
   (wpAny_getItem_list_neg (Q:=λ r s'=>r=w/\EP X pins σ Q r s') pl.isList (by left) (by rw[d7] <;> left) (by left) (by rw[hj];simpa using ew) ⟨rfl,fin⟩) hs
theorem aP:IxR X (rIxT X.K):=by
 intro value slice pins s σ H x y v u Q I rx ry h hs
 obtain⟨p,xs,i,z,rfl,rfl,hq,he,q⟩:=h
 cases rx
 obtain⟨t,rfl⟩:=ry
 obtain⟨its,r,pl,hz⟩:=I.tuple hq
 obtain⟨j,h1,h2,h3,h4,h5⟩:=oQ he
 obtain⟨w,ew,rw'⟩:=r.get h2
 have hl:=r.length
 have hn:=line63
 have fin:EP X pins σ Q w s:=⟨z,H,I,rw',q⟩
 exact subscriptTail_builtinR (x:=w) pl.typeIs slot_tuple_getitem.lookup
  (getItem_tuple (j:=j) (Q:=λ r s'=>r=w/\EP X pins σ Q r s') pl (by left) (by left) (by rw[d7,← hl];exact h1) (by simpa using ew) ⟨rfl,fin⟩) hs
theorem uA (its:List b9)(n j:Nat)(u:b9):Obj.mapSeq (·.setIfInBounds j u) { cls:=.type "list",data:=.seq its.toArray n }={ cls:=.type "list",data:=.seq (its.set j u).toArray n }:=by
 simp [Obj.mapSeq]
theorem Inv.lst {pins:List (j8 × Obj)}{σ:St}{H:Hp}{s:c7}{p:j8}{xs:List V}(I:Inv X pins σ H s)(h:H p=some (.lst xs)) :
  ∃ (its:List b9)(n:Nat),Vals xs its/\s.heap.get? p=some { cls:=.type "list",data:=.seq its.toArray n }/\xs.length<=m3:=by
 obtain⟨z,its,n,r,e⟩:=I.hok p _ h
 exact⟨its,n,r,e,z⟩
theorem Inv.lstUpd {pins:List (j8 × Obj)}{σ:St}{H:Hp}{s:c7}{p:j8}{xs ys:List V}{its its':List b9}{n n':Nat}{f:Obj->Obj}(I:Inv X pins σ H s)(h:H p=some (.lst xs))
  (ho:s.heap.get? p=some { cls:=.type "list",data:=.seq its.toArray n }) (hf:f { cls:=.type "list",data:=.seq its.toArray n }={ cls:=.type "list",data:=.seq its'.toArray n' }) (r:Vals ys its') (hz:ys.length<=m3) (t:Nat) :
  Inv X pins σ (upd H p (.lst ys)) { s with heap:=s.heap.update p f,toks:=t }:=by
 have e:(s.heap.update p f).get? p=some { cls:=.type "list",data:=.seq its'.toArray n' }:=by
  rw[ubc f ho (by rw[hf] <;> rfl),hf]
 refine I.write (x:=p) (e:=p) (by rw[h];trivial) (.inl rfl) (λ b u hb q=>(m7 _ _ (Ne.symm hb)).trans q) ⟨_,e⟩ ?_
 exact⟨hz,its',n',r,e⟩
inductive rSetL_i  (o:V) (i:V) (v:V) (H:Hp) (Q:Hp->Prop):Prop
 | mk:∀ p xs k j,(o=.ref p)->(i=.int k)->(H p=some (.lst xs))->(ixN xs.length k=some j)->(Q (upd H p (.lst (xs.set j v))))->rSetL_i o i v H Q
def rSetL :V->V->V->Hp->(Hp->Prop)->Prop:=λ o i v H Q=>rSetL_i o i v H Q
theorem cX:PSet X rSetL:=by
 intro pins s σ H o i v ov iv u Q I ro ri rv h
 obtain⟨p,xs,k,j,rfl,rfl,hp,hj,q⟩:=h
 cases ro
 obtain⟨t,rfl⟩:=ri
 obtain⟨its,n,r,ho,hz⟩:=I.lst hp
 obtain⟨h1,h2,h3,h4⟩:=jI hj
 have hl:=r.length
 have hn:=line63
 have I':Inv X pins σ (upd H p (.lst (xs.set j v))) { s with heap:=s.heap.update p (Obj.mapSeq (·.setIfInBounds j u)) } :=
  I.lstUpd hp ho (uA its n j u) (r.set rv j) (by rw[ual];exact hz) s.toks
 by_cases h0:0<=k
 ·have hk:k.toNat=j:=by
   rw[seqIndex_of h0 h4] at h1
   exact j5 h1
  exact PySem.W.ki_setAt ho h0 (by left) (by rw[d7,← hl];exact h4) (by rw[hk];exact⟨_,I',q⟩)
 ·have hk:(k+(its.toArray.size:Int)).toNat=j:=by
   rw[seqIndex_neg (by left) h3] at h1
   rw[d7,← hl]
   exact j5 h1
  exact PySem.W.ki_setBack ho (by left) (by rw[d7,← hl];exact h3) (by left) (by rw[hk];exact⟨_,I',q⟩)
def flatV:V->Bool
 | .non=>true
 | .bl _=>true
 | .int _=>true
 | .str _=>true
 | _=>false
def eqV:V->V->Bool
 | .non,.non=>true
 | .bl a,.bl b=>a==b
 | .bl a,.int b=>(if a then 1 else 0)==b
 | .int a,.bl b=>a==(if b then 1 else 0)
 | .int a,.int b=>a==b
 | .str a,.str b=>a==b
 | _,_=>false
theorem zZ {A:v7}{s:c7}{y x:V}{u v:b9}(ry:RelV y u)(rx:RelV x v)(fy:flatV y=true)(fx:flatV x=true):SeqAt.EqAt A s u v (eqV y x):=by
 cases y with
 | non =>
  cases ry
  cases x with
  | non=>cases rx;exact SeqAt.EqAt.same _
  | bl b=>cases rx;exact SeqAt.EqAt.none_bool b
  | int b=>obtain⟨t,rfl⟩:=rx;exact SeqAt.EqAt.none_int b t
  | str b=>obtain⟨t,rfl⟩:=rx;exact SeqAt.EqAt.none_str b t
  | _=>exact absurd (show false=true from fx) i6
 | bl a =>
  cases ry
  cases x with
  | non=>cases rx;exact SeqAt.EqAt.bool_none a
  | bl b=>cases rx;exact SeqAt.EqAt.bool_bool a b
  | int b=>obtain⟨t,rfl⟩:=rx;exact SeqAt.EqAt.bool_int a b t
  | str b=>obtain⟨t,rfl⟩:=rx;exact SeqAt.EqAt.bool_str a b t
  | _=>exact absurd (show false=true from fx) i6
 | int a =>
  obtain⟨t',rfl⟩:=ry
  cases x with
  | non=>cases rx;exact SeqAt.EqAt.int_none a t'
  | bl b=>cases rx;exact SeqAt.EqAt.int_bool a t' b
  | int b=>obtain⟨t,rfl⟩:=rx;exact SeqAt.EqAt.int_int a t' b t
  | str b=>obtain⟨t,rfl⟩:=rx;exact SeqAt.EqAt.int_str a t' b t
  | _=>exact absurd (show false=true from fx) i6
 | str a =>
  obtain⟨t',rfl⟩:=ry
  cases x with
  | non=>cases rx;exact SeqAt.EqAt.str_none a t'
  | bl b=>cases rx;exact SeqAt.EqAt.str_bool a t' b
  | int b=>obtain⟨t,rfl⟩:=rx;exact SeqAt.EqAt.str_int a t' b t
  | str b=>obtain⟨t,rfl⟩:=rx;exact SeqAt.EqAt.str_str a t' b t
  | _=>exact absurd (show false=true from fx) i6
 | _=>exact absurd (show false=true from fy) i6
def eqU (x:V)(u:b9):Bool:=match u with
 | .none=>eqV .non x
 | .bool b=>eqV (.bl b) x
 | .int i _=>eqV (.int i) x
 | .str z _=>eqV (.str z) x
 | _=>false
theorem pD {x y:V}{u:b9}(r:RelV y u)(f:flatV y=true):eqU x u=eqV y x:=by
 cases y with
 | non=>cases r;rfl
 | bl b=>cases r;rfl
 | int i=>obtain⟨t,rfl⟩:=r;rfl
 | str z=>obtain⟨t,rfl⟩:=r;rfl
 | _=>exact absurd (show false=true from f) i6
theorem fL {x:V}:∀ {xs:List V}{us:List b9},Vals xs us->xs.all flatV=true->us.any (eqU x)=xs.any λ y=>eqV y x
 | _,_,.nil,_=>rfl
 | y::xs,u::us,.cons r t,f=>by
  rw[List.all_cons,r6] at f
  rw[List.any_cons,List.any_cons,pD r f.1,fL t f.2]
theorem fG {A:v7}{s:c7}{x:V}{v:b9}(rx:RelV x v)(fx:flatV x=true):∀ {xs:List V}{us:List b9},Vals xs us->xs.all flatV=true->∀ u∈us,SeqAt.EqAt A s u v (eqU x u)
 | _,_,.nil,_=>λ u hu=>by cases hu
 | y::xs,u::us,.cons r t,f=>λ u' hu=>by
  rw[List.all_cons,r6] at f
  rcases h9.mp hu with rfl | hu
  ·rw[pD r f.1];exact zZ r rx f.1 fx
  ·exact fG rx fx t f.2 u' hu
def inV (x:V)(xs:List V):Bool:=xs.any λ y=>eqV y x
inductive rIn_i (K:a9)(neg:Bool)(x:V)(y:V)(H:Hp)(Q:VK):Prop
 | mk:∀ p xs,(y=.ref p)->((SqL K H p xs\/SqT K H p xs))->(flatV x=true)->(xs.all flatV=true)->(Q (.bl (if neg then !inV x xs else inV x xs)) H)->rIn_i K neg x y H Q
def rIn (K:a9)(neg:Bool):R2:=λ x y H Q=>rIn_i K neg x y H Q
theorem vB:OpR X (compareOp .In) (rIn X.K false):=by
 intro pins s σ H x y v u Q I rx ry h
 obtain⟨p,xs,rfl,hq,fx,fs,q⟩:=h
 cases ry
 rcases hq with hq | hq
 ·obtain⟨its,r,pl,hz⟩:=I.list hq
  refine SeqAt.in_listAt (eqU x) pl.isList (λ w hw=>fG rx fx r fs w (by simpa using hw)) ⟨.bl _,H,I,rfl,?_⟩
  rw[show its.toArray.any (eqU x)=its.any (eqU x) by simp,fL r fs]
  exact q
 ·obtain⟨its,r,pl,hz⟩:=I.tuple hq
  refine SeqAt.in_tupleAt (eqU x) pl (λ w hw=>fG rx fx r fs w (by simpa using hw)) ⟨.bl _,H,I,rfl,?_⟩
  rw[show its.toArray.any (eqU x)=its.any (eqU x) by simp,fL r fs]
  exact q
theorem rW:OpR X (compareOp .NotIn) (rIn X.K true):=by
 intro pins s σ H x y v u Q I rx ry h
 obtain⟨p,xs,rfl,hq,fx,fs,q⟩:=h
 cases ry
 rcases hq with hq | hq
 ·obtain⟨its,r,pl,hz⟩:=I.list hq
  refine SeqAt.notIn_listAt (eqU x) pl.isList (λ w hw=>fG rx fx r fs w (by simpa using hw)) ⟨.bl _,H,I,rfl,?_⟩
  rw[show its.toArray.any (eqU x)=its.any (eqU x) by simp,fL r fs]
  exact q
 ·obtain⟨its,r,pl,hz⟩:=I.tuple hq
  refine SeqAt.notIn_tupleAt (eqU x) pl (λ w hw=>fG rx fx r fs w (by simpa using hw)) ⟨.bl _,H,I,rfl,?_⟩
  rw[show its.toArray.any (eqU x)=its.any (eqU x) by simp,fL r fs]
  exact q
inductive call_len_seq_i (K:a9)(xs:List V)(H:Hp)(Q:VK):Prop
 | mk:∀ p ys,(xs=[.ref p])->((SqL K H p ys\/SqT K H p ys))->(Q (.int ys.length) H)->call_len_seq_i K xs H Q
theorem bX:CallR X (.builtin "len") (call_len_seq_i X.K):=by
 intro pins s σ H xs us Q I r h
 obtain⟨p,ys,rfl,hq,q⟩:=h
 obtain⟨u,rfl,rx⟩:=vals1 r
 cases rx
 have hn:=line63
 rcases hq with hq | hq
 ·obtain⟨its,r',pl,hz⟩:=I.list hq
  have hlen:=r'.length
  exact Calls.call_len_list pl.isList (by simp only [d7] <;> left) ⟨.int ys.length,H,I.tok _,⟨s.toks+1,by rw[d7,hlen]⟩,q⟩
 ·obtain⟨its,r',pl,hz⟩:=I.tuple hq
  have hlen:=r'.length
  exact len_tuple pl (by simp only [d7] <;> left) ⟨.int ys.length,H,I.tok _,⟨s.toks+1,by rw[d7,hlen]⟩,q⟩
inductive call_list_of_i (K:a9)(xs:List V)(H:Hp)(Q:VK):Prop
 | mk:∀ p ys,(xs=[.ref p])->((SqL K H p ys\/SqT K H p ys))->(∀ l,H l=none->Q (.ref l) (upd H l (.lst ys)))->call_list_of_i K xs H Q
theorem sE:CallR X (.type "list") (call_list_of_i X.K):=by
 intro pins s σ H xs us Q I r h
 obtain⟨p,ys,rfl,hq,q⟩:=h
 obtain⟨u,rfl,rx⟩:=vals1 r
 cases rx
 have fin : ∀ (its : List b9), Vals ys its → ys.length <= m3 → ∀ (h' : Heap)(c' : Nat), (∀ b o', s.heap.get? b = some o' → h'.get? b = some o') →
     h'.get? s.heap.objs.size=some { cls:=.type "list",dict:=none,data:=.seq its.toArray c',slots:=#[] }->EP X pins σ Q (.ref s.heap.objs.size) { s with heap:=h' }:=λ its r' hz h' c' kp e =>
  ⟨.ref s.heap.objs.size,_,I.laid (t':=s.toks) kp (c8 _) (show ObjOk X.prog X.w _ h' _ (.lst ys) from ⟨hz,its,c',r',e⟩),rfl,q _ (I.hok.fresh (c8 _))⟩
 rcases hq with hq | hq
 ·obtain⟨its,r',pl,hz⟩:=I.list hq
  have hlen:=r'.length
  obtain⟨o,ho,hc,n,hd⟩:=pl.isList
  exact call_list_seq p (.inl rfl) ho hc hd (λ h' c' kp e=>fin its r' hz h' c' kp e) (by simp only [d7] <;> left)
 ·obtain⟨its,r',pl,hz⟩:=I.tuple hq
  have hlen:=r'.length
  obtain⟨o,ho,hc,n,hd⟩:=pl
  exact call_list_seq p (.inr rfl) ho hc hd (λ h' c' kp e=>fin its r' hz h' c' kp e) (by simp only [d7] <;> left)
inductive call_tuple_of_i (K:a9)(xs:List V)(H:Hp)(Q:VK):Prop
 | mk:∀ p ys,(xs=[.ref p])->(((SqL K H p ys/\∀ l,H l=none->Q (.ref l) (upd H l (.tup ys)))\/(SqT K H p ys/\Q (.ref p) H)))->call_tuple_of_i K xs H Q
theorem hJ:CallR X (.type "tuple") (call_tuple_of_i X.K):=by
 intro pins s σ H xs us Q I r h
 obtain⟨p,ys,rfl,h⟩:=h
 obtain⟨u,rfl,rx⟩:=vals1 r
 cases rx
 rcases h with ⟨hq,q⟩ | ⟨hq,q⟩
 ·obtain⟨its,r',pl,hz⟩:=I.list hq
  have hlen:=r'.length
  refine call_tuple_list pl.isList (λ h' kp=>?_) (by simp only [d7] <;> left)
  have I1:Inv X pins σ H { s with heap:=h' }:=I.kept (t':=s.toks) kp
  have I2:Inv X pins σ (upd H h'.objs.size (.tup ys)) { s with heap:=h'.push { cls:=.type "tuple",data:=.seq its.toArray } } :=
   I1.laid (t':=s.toks) (λ b o e=>b7 _ e) (c8 _) (show ObjOk X.prog X.w _ _ _ (.tup ys) from ⟨hz,its,r',TupN.new _ _⟩)
  exact⟨.ref h'.objs.size,_,I2,rfl,q _ (I1.hok.fresh (c8 _))⟩
 ·obtain⟨its,r',pl,hz⟩:=I.tuple hq
  exact call_tuple_same pl ⟨.ref p,H,I,rfl,q⟩
def tyV (K:a9)(T:String)(x:V)(H:Hp):Prop:=match x with
 | .str _=>T="str"
 | .int _=>T="int"
 | .ref p => (T = "list" /\ ∃ xs, SqL K H p xs) \/ (T = "tuple" /\ ∃ o, K.lookup p = some o /\ o.cls = .type "tuple" /\ o.dict = none) \/
     (T="dict"/\((∃ kvs,H p=some (.dK kvs))\/∃ kvs,H p=some (.dT kvs)))\/(T="set"/\∃ S n,H p=some (.set S n))
 | _=>False
theorem zH {pins:List (j8 × Obj)}{σ:St}{H:Hp}{s:c7}{T:String}{x:V}{v:b9}(I:Inv X pins σ H s)(r:RelV x v)(ty:tyV X.K T x H) :
  s.TypeIs v T/\∀ a,v=.ref a->∃ ob,s.heap.get? a=some ob/\ob.dict=none:=by
 cases x with
 | str z =>
  obtain⟨t,rfl⟩:=r
  cases (show T="str" from ty)
  exact⟨typeIs_str s z t,λ _ e=>nomatch e⟩
 | int i =>
  obtain⟨t,rfl⟩:=r
  cases (show T="int" from ty)
  exact⟨typeIs_int s i t,λ _ e=>nomatch e⟩
 | ref p =>
  cases r
  rcases ty with ⟨rfl,xs,hq⟩ | ⟨rfl,o,hk,hc,hd⟩ | ⟨rfl,hk⟩ | ⟨rfl,S,n,hk⟩
  ·obtain⟨its,_,pl,_⟩:=I.list hq
   refine⟨pl.isList.typeIs,λ a e=>?_⟩
   cases e
   obtain⟨o,n,e,c,hd,_⟩:=pl
   exact⟨o,e,hd⟩
  ·refine⟨⟨o,I.kIn p o hk,hc⟩,λ a e=>?_⟩
   cases e
   exact⟨o,I.kIn _ o hk,hd⟩
  ·have z:∃ o,s.heap.get? p=some o/\o.ExactDict:=by
    rcases hk with ⟨kvs,hk⟩ | ⟨kvs,hk⟩
    ·obtain⟨_,_,_,_,o,_,_,e,ex,_⟩:=I.hok p _ hk
     exact⟨o,e,ex⟩
    ·obtain⟨_,_,_,_,o,_,_,e,ex,_⟩:=I.hok p _ hk
     exact⟨o,e,ex⟩
   obtain⟨o,e,ex⟩:=z
   refine⟨⟨o,e,ex.1⟩,λ a e2=>?_⟩
   cases e2
   exact⟨o,e,ex.2.1⟩
  ·obtain⟨o,_,_,_,e,ex,_⟩:=I.hok p _ hk
   refine⟨⟨o,e,ex.1⟩,λ a e2=>?_⟩
   cases e2
   exact⟨o,e,ex.2.1⟩
 | _=>exact False.elim ty
def tBM (K:a9)(T:String)(r:V->List V->Hp->VK->Prop)(to:TE)(t:TA):TE:=λ σ H Q=>to σ H λ x H1=>tyV K T x H1/\t σ H1 λ xs H2=>r x xs H2 Q
variable {o e:ubv}{es:List ubv}{to:TE}{t:TA}{name:Str}{apos cpos:Pos}{T id:String}{r:V->List V->Hp->VK->Prop}
theorem cJ (pa:PlainAttrs T)(slot:Slot T name id)(hty:typeOf (.builtin id)=pure (.type "method_descriptor"))(hm:MtR X id r)(ho:PE X o to)(ha:PA X (e::es) t)
  (hbase:attributeBase o name X.env (eval o X.env)=eval o X.env:=by rfl)
  (hfew:((backTo cpos (uae (e::es) X.env)).all (λ x=>!x.1)&&(backToKw cpos (keywordEach [] X.env)).all (λ x=>x.1.isSome)
  &&decide ((e::es).length+([]:List Keyword).length+(if ([]:List Keyword).isEmpty then 0 else 1)<30))=true:=by rfl)
  (hline:(apos.endLine==cpos.line)=true:=by rfl) (hs:uae (e::es) X.env=(false,eval e X.env)::uae es X.env:=by rfl) (hplain:(backTo cpos (uae es X.env)).any (·.1)=false:=by rfl) :
  PE X (.Call (.Attribute o name apos) (e::es) [] cpos) (tBM X.K T r to t):=by
 intro pins s σ H Q I h
 refine wpAny_Call_method_late hbase hfew hline rfl (thn (ho pins s σ H _ I h) λ v s1 ⟨x,H1,I1,r1,ty,q1⟩=>?_)
 obtain⟨h1,h2⟩:=zH I1 r1 ty
 refine⟨T,id,pa,slot,hty,h1,h2,?_⟩
 have hA:=ha cpos pins s1 σ H1 _ I1 q1
 rw[hs] at hA ⊢
 refine Calls.callWith_builtin (by show (false||(backTo cpos (uae es X.env)).any (·.1))=false;rw[hplain] <;> rfl) (Calls.evalArgs_plain ?_)
 exact thn hA λ us s2 ⟨vs,H2,I2,r2,q2⟩=>hm pins s2 σ H2 x vs v us Q I2 r1 r2 q2
end
end L2
namespace L2
open PySem PySem.Spec PyProof.Rows
def MtM (X:Cx)(id:String)(r:V->List V->Hp->VK->Prop):Prop :=
 ∀ (pins:List (j8 × Obj))(s:c7)(σ:St)(H:Hp)(x:V)(xs:List V)(v:b9)(us:List b9)(Q:VK),Inv X pins σ H s->RelV x v->Vals xs us->r x xs H Q ->
  k8 (v5 X.prog X.w) X.A (call (.builtin id) (v::us)) (EP X pins σ Q) X.xe s
theorem Vals.one:∀ {x:V}{us:List b9},Vals [x] us->∃ u,us=[u]/\RelV x u
 | _,_,.cons r .nil=>⟨_,rfl,r⟩
theorem Vals.two:∀ {x y:V}{us:List b9},Vals [x,y] us->∃ u v,us=[u,v]/\RelV x u/\RelV y v
 | _,_,_,.cons r (.cons q .nil)=>⟨_,_,rfl,r,q⟩
theorem Vals.zero:∀ {us:List b9},Vals [] us->us=[]
 | _,.nil=>rfl
theorem Vals.eraseIdx:∀ {xs:List V}{us:List b9}(i:Nat),Vals xs us->Vals (xs.eraseIdx i) (us.eraseIdx i)
 | _,_,_,.nil=>.nil
 | _,_,0,.cons _ t=>t
 | _,_,i+1,.cons r t=>.cons r (Vals.eraseIdx i t)
theorem Vals.reverse {xs:List V}{us:List b9}(h:Vals xs us):Vals xs.reverse us.reverse:=by
 induction h with
 | nil=>exact .nil
 | cons r t ih=>rw[ua8,ua8];exact Vals.append ih (.cons r .nil)
theorem Vals.rep {xs:List V}{us:List b9}(h:Vals xs us):∀ k:Nat,Vals (j6 k xs).flatten (j6 k us).flatten
 | 0=>.nil
 | k+1=>by
  rw[ubr,ubr,ucu,ucu]
  exact Vals.append h (Vals.rep h k)
theorem lM {α:Type}:∀ (l:List α)(i:Nat),(l.eraseIdx i).length<=l.length
 | [],_=>c8 _
 | _::_,0=>uck _
 | _::r,i+1=>udv (lM r i)
theorem lP (its:List b9):∀ (k:Nat)(acc:List b9),
  List.foldl (λ x1 x2=>x1++x2) acc.toArray (j6 k its.toArray)=(acc++(j6 k its).flatten).toArray
 | 0,acc=>by simp
 | k+1,acc=>by
  have e:acc.toArray++its.toArray=(acc++its).toArray:=by simp
  have e2:(acc++its)++(j6 k its).flatten=acc++(j6 (k+1) its).flatten:=by
   rw[ubr,ucu,ucv]
  rw[← e2,← lP its k (acc++its),← e,ubr,List.foldl_cons]
section
variable {X:Cx}{pins:List (j8 × Obj)}{σ:St}{H:Hp}{s:c7}{l b:j8}{xs ys zs:List V}
theorem Inv.lset {its its':List b9}{n:Nat}{f:Array b9->Array b9}{t':Nat}(I:Inv X pins σ H s)(hH:H l=some (.lst xs))
  (e:s.heap.get? l=some { cls:=.type "list",data:=.seq its.toArray n }) (hf:f its.toArray=its'.toArray) (hv:Vals ys its') (hz:ys.length<=m3) :
  Inv X pins σ (upd H l (.lst ys)) { s with heap:=s.heap.update l (Obj.mapSeq f),toks:=t' }:=by
 have q:=PySem.IsL.update e f
 rw[hf] at q
 refine I.write (x:=l) (e:=l) (by rw[hH];exact trivial) (.inl rfl) (λ b' u hb hu=>(m7 s.heap (Obj.mapSeq f) (Ne.symm hb)).trans hu) ⟨_,q⟩ ?_
 exact⟨hz,its',_,hv,q⟩
theorem Inv.lnew {its:List b9}{t':Nat}(I:Inv X pins σ H s)(hv:Vals ys its)(hz:ys.length<=m3) :
  Inv X pins σ (upd H s.heap.objs.size (.lst ys)) { s with heap:=s.heap.push { cls:=.type "list",data:=.seq its.toArray },toks:=t' } :=
 I.laid (λ _ _ q=>b7 _ q) (c8 _) ⟨hz,its,0,hv,i8 _ rfl⟩
theorem Inv.fresh (I:Inv X pins σ H s):H s.heap.objs.size=none:=I.hok.fresh (c8 _)
theorem Inv.lstM (I:Inv X pins σ H s)(hH:H l=some (.lst xs)):xs.length<=m3/\∃ (its:List b9)(n:Nat),Vals xs its/\xs.length=its.length/\s.heap.get? l=some { cls:=.type "list",data:=.seq its.toArray n }:=by
 obtain⟨z,its,n,r,e⟩:=I.hok l _ hH
 exact⟨z,its,n,r,r.length,e⟩
theorem notLongL {n:Nat}(h:n<=m3):Builtin.List.listTooLong n=false:=by
 unfold Builtin.List.listTooLong
 exact uf5 (by left)
end
section
variable {X:Cx}
inductive rAppend_i  (x:V) (vs:List V) (H:Hp) (Q:VK):Prop
 | mk:∀ l xs y,(x=.ref l)->(vs=[y])->(H l=some (.lst xs))->(xs.length<m3)->(Q .non (upd H l (.lst (xs++[y]))))->rAppend_i x vs H Q
def rAppend :V->List V->Hp->VK->Prop:=λ x vs H Q=>rAppend_i x vs H Q
theorem fW:MtM X "list.append" rAppend:=by
 intro pins s σ H x vs v us Q I rx rv h
 obtain⟨l,xs,y,rfl,rfl,hH,hz,q⟩:=h
 cases rx
 obtain⟨u,rfl,ru⟩:=rv.one
 obtain⟨z,its,n,r,hl,e⟩:=I.lstM hH
 refine uel F.slot_list_append ⟨_,e,rfl⟩ F.entry_list_append (F.args_list_append_2 _ _) (PySem.list_append l its.toArray n u (by rw[d7];left)) ⟨e,?_⟩
 refine⟨.non,_,I.lset (its':=its++[u]) hH e (by simp) (r.append (.cons ru .nil)) ?_,rfl,q⟩
 rw[d6,o6]
 left
inductive rExtend_i  (x:V) (vs:List V) (H:Hp) (Q:VK):Prop
 | mk:∀ l b xs zs,(x=.ref l)->(vs=[.ref b])->(H l=some (.lst xs))->(H b=some (.lst zs))->(xs.length+zs.length<=m3)->(Q .non (upd H l (.lst (xs++zs))))->rExtend_i x vs H Q
def rExtend :V->List V->Hp->VK->Prop:=λ x vs H Q=>rExtend_i x vs H Q
theorem vJ:MtM X "list.extend" rExtend:=by
 intro pins s σ H x vs v us Q I rx rv h
 obtain⟨l,b,xs,zs,rfl,rfl,hH,hB,hz,q⟩:=h
 cases rx
 obtain⟨u,rfl,ru⟩:=rv.one
 cases ru
 obtain⟨z,its,n,r,hl,e⟩:=I.lstM hH
 obtain⟨z2,its2,n2,r2,hl2,e2⟩:=I.lstM hB
 have hsz:its.toArray.size+its2.toArray.size<=m3:=by rw[d7,d7];left
 have hlong:¬ (!its.toArray.isEmpty&&Builtin.List.listTooLong (its.toArray.size+its2.toArray.size))=true:=by
  rw[notLongL hsz,uee]
  exact i6
 refine uel F.slot_list_extend ⟨_,e,rfl⟩ F.entry_list_extend (F.args_list_extend_2 _ _)
  (AutoSeq1.list_extend_list_list_0 l its.toArray n b its2.toArray n2 hlong (by rw[d7];left) (by left)) ⟨e,e2,?_⟩
 refine⟨.non,_,I.lset (its':=its++its2) hH e (by simp) (r.append r2) ?_,rfl,q⟩
 rw[d6]
 left
inductive rPopAt_i  (x:V) (vs:List V) (H:Hp) (Q:VK):Prop
 | mk:∀ l xs i k y,(x=.ref l)->(vs=[.int i])->(H l=some (.lst xs))->(-(2^63)<=i)->(i<2^63)->(seqIndex? i xs.length=some k)->(xs[k]?=some y)->(Q y (upd H l (.lst (xs.eraseIdx k))))->rPopAt_i x vs H Q
def rPopAt :V->List V->Hp->VK->Prop:=λ x vs H Q=>rPopAt_i x vs H Q
theorem wX:MtM X "list.pop" rPopAt:=by
 intro pins s σ H x vs v us Q I rx rv h
 obtain⟨l,xs,i,k,y,rfl,rfl,hH,h1,h2,hk,hy,q⟩:=h
 cases rx
 obtain⟨u,rfl,ru⟩:=rv.one
 obtain⟨t,rfl⟩:=ru
 obtain⟨z,its,n,r,hl,e⟩:=I.lstM hH
 obtain⟨w,hw,rw'⟩:=r.get hy
 refine uel F.slot_list_pop ⟨_,e,rfl⟩ F.entry_list_pop (F.args_list_pop_2 _ _)
  (MeetsSeq.list_pop_at l its.toArray n i t k w (fitsIndex_both h1 h2) (by rw[d7,← hl];exact hk) (by rw[← Array.getElem?_toList];exact hw) (by rw[d7];left)) ⟨e,?_⟩
 refine⟨y,_,I.lset (its':=its.eraseIdx k) hH e ?_ (r.eraseIdx k) ?_,rw',q⟩
 ·show its.toArray.eraseIdxIfInBounds k=(its.eraseIdx k).toArray
  rw[List.eraseIdxIfInBounds_toArray]
 ·have:=lM xs k
  left
inductive rRep_i  (x:V) (y:V) (H:Hp) (Q:VK):Prop
 | mk:∀ l k xs,(x=.ref l)->(y=.int k)->(H l=some (.lst xs))->(-(2^63)<=k)->(k<2^63)->(xs.length*k.toNat<=m3)->(∀ p,H p=none->Q (.ref p) (upd H p (.lst (j6 k.toNat xs).flatten)))->rRep_i x y H Q
def rRep :R2:=λ x y H Q=>rRep_i x y H Q
theorem yR {α:Type}(xs:List α)(k:Nat):(j6 k xs).flatten.length=k*xs.length:=by
 induction k with
 | zero=>simp
 | succ k ih=>rw[ubr,ucu,d6,ih,Nat.succ_mul,Nat.add_comm]
theorem zP:OpR X (binaryOp .Mult) rRep:=by
 intro pins s σ H x y v u Q I rx ry h
 obtain⟨l,k,xs,rfl,rfl,hH,h1,h2,hz,q⟩:=h
 cases rx
 obtain⟨t,rfl⟩:=ry
 obtain⟨z,its,n,r,hl,e⟩:=I.lstM hH
 have hlen:its.toArray.size*k.toNat<=m3:=by rw[d7,← hl];exact hz
 have hcap:¬ its.toArray.size*k.toNat>(2^63-1) / 8:=by
  have:(m3:Nat)<=(2^63-1) / 8:=by decide
  left
 have hfit:¬ (!Builtin.List.listFitsIndex k)=true:=by
  rw[fitsIndex_both h1 h2]
  exact i6
 have hlong:¬ Builtin.List.listTooLong (its.toArray.size*k.toNat)=true:=by
  rw[notLongL hlen]
  exact i6
 have hnew:List.foldl (λ x1 x2=>x1++x2) #[] (j6 (if its.toArray.isEmpty=true then 0 else k.toNat) its.toArray)=(j6 k.toNat its).flatten.toArray:=by
  have f0:∀ m:Nat,List.foldl (λ x1 x2=>x1++x2) #[] (j6 m its.toArray)=(j6 m its).flatten.toArray:=λ m=>by
   have:=lP its m []
   rw[List.nil_append] at this
   exact this
  rw[f0]
  cases its with
  | nil=>simp
  | cons a r'=>rw[uf8 (by simp)]
 refine wpAny_binaryOp_repeat_ref (T:="list") (U:="int") (by decide) ⟨_,e,rfl⟩ (λ s'=>typeIs_int s' k t) noFill_list_mul F.fills_int_mul F.slot_int_rmul repeat_list F.slot_int_index.lookup
  (uel F.slot_int_rmul (typeIs_int s k t) F.entry_int_rmul (F.args_int_rmul_2 _ _) (int___rmul___int_list k t l its.toArray n)
   ⟨e,rfl,⟨_,e,rfl⟩,uel F.slot_list_mul ⟨_,e,rfl⟩ F.entry_list_mul (F.args_list_mul_2 _ _) (AutoListH.list___mul___list_int_3 l its.toArray n k t hfit hcap hlong) ⟨e,?_⟩⟩)
 rw[hnew]
 exact⟨.ref _,_,I.lnew (t':=s.toks) (r.rep k.toNat) (by rw[yR,Nat.mul_comm];exact hz),rfl,q _ I.fresh⟩
end
section
variable {prog:j9}{w:v9}{A:v7}{E:b9->c7->Prop}{s:c7}
end
section
variable {X:Cx}
end
end L2
namespace Att
open PySem PySem.W PySem.Calls PyProof.Rows
theorem qH {P:Params}{h:Heap}:∀ (ns:List Int)(vs:List b9),WellAll P h vs (ns.map WData.int)->IntsAre vs ns:=by
 intro ns
 induction ns with
 | nil =>
  intro vs w
  rw[uey] at w
  cases w
  exact .nil
 | cons n ns ih =>
  intro vs w
  rw[ua1] at w
  cases w with
  | cons a b =>
   cases a
   exact .cons _ _ (ih _ b)
theorem uR {l:OpenLaw}{n:Nat}(hn:l.most=some n){P:Params}{h:Heap}{args:List WData}{vals:List b9}
  (hpre:l.row.toRowW.claim.pre args=true) (hwl:WellAll P h vals args) :
  ∃ a vs ns,vals=[Value.ref a]/\args=[WData.list (ns.map WData.int)]/\h.get? a=some { cls:=.type "list",data:=.seq vs.toArray }/\IntsAre vs ns/\ns.length<=n:=by
 have hsh:WShape.hasAll [] args [.list .int]=true:=(pre_splitW hpre).1
 have hc:l.pre.holds [] { args:=args }=true:=(pre_splitW hpre).2
 obtain⟨d,r,rfl,h1,h2⟩:=hasAllW_cons hsh
 obtain rfl:=hasAllW_nil h2
 obtain⟨xs,rfl,h3⟩:=hasW_list h1
 obtain⟨ns,rfl⟩:=items_int h3
 have hlen:ns.length<=n:=by
  unfold OpenLaw.pre at hc
  have h4:(WTm.not (.lt (.lit (.int (n:Int))) (.len (.arg 0)))).holds [] { args:=[.list (ns.map .int)] }=true:=by
   have h4:=(holds_andW hc).1
   rw[hn] at h4
   exact h4
  have h5:=condW_of h4 (w_not (w_lt w_lit (w_len_list (w_arg rfl))))
  rw[c6] at h5
  refine udw λ q=>?_
  have q':(n:Int)<((ns.length:Nat):Int):=by left
  first
   | (rw[uf3 q'] at h5;exact absurd h5 (by decide))
   | (simp at h5;left)
 cases hwl with
 | cons w1 w2 =>
  cases w2
  cases w1 with
  | list ho hall=>exact⟨_,_,ns,rfl,rfl,ho,qH ns _ hall,hlen⟩
theorem uX (l:OpenLaw)(args:List WData):l.row.toRowW.claim.post args (.bool true) args=true :=
 postW_of (r:=l.row.toRowW) (X:=(true==true))
  (show WShape.has [] (.bool true) .bool=true by first | rfl | decide | simp [WShape.has,WShape.arms,WShape.armsAll])
  (show (WTm.eq .res (.lit (.bool true))).value [] { args:=args,res:=some (.bool true),after:=args }=some (.bool (true==true)) from w_eq_bool (w_res rfl) w_lit) rfl
theorem attach_call {l:OpenLaw}{n:Nat}{q:j9}{loose:List Str}{XP:(Str->Option b9)->Heap->Prop}{YP:v9->Heap->Prop}{d:DefRec}
  (hn:l.most=some n) (hdf:d.params.defaults=[])
  (call:∀ (w:v9)(s₀ s₁:c7)(mg mb:Str->Option b9)(fa:j8)(o:Obj)(pm cd doc:b9)(a:j8)(vs:List b9)(ns:List Int),
   Ground q loose [] XP w s₀ mg mb s₁.heap->YP w s₁.heap ->
   s₁.heap.get? fa=some o->o.data=.func (docDef d.name d.params d.body d.scope pm cd doc)->s₁.heap.CodeRec cd d.name->mg d.name=some (.ref fa) ->
   s₁.heap.get? a=some { cls:=.type "list",data:=.seq vs.toArray }->IntsAre vs ns->ns.length<=n->s₁.gens=#[] ->
   codeAny (v5 l.prog w) callerA (.call (.ref fa) ⟨[.ref a],[]⟩) (λ r s'=>r=.ok (.ret (.bool true))/\OldK s₁.heap s'.heap/\s'.os=s₁.os/\AllBare s'.gens) s₁) :
  WalkO q loose XP YP l.row.toRowW d [] (λ f vs=>PySem.call f vs):=by
 intro w s₀ s₁ mg mb G Y fa o pm cd doc dV kV ho hd hcd hD hmg hg args vals as hpre hlay hrd hwl hlo
 obtain rfl:dV=.none:=Dflts.none hD hdf
 obtain rfl:kV=.none:=Dflts.noKw hD
 obtain⟨a,vs,ns,rfl,rfl,hobj,hints,hlen⟩:=uR hn hpre hwl
 refine enter_call (uej (call w s₀ s₁ mg mb fa o pm cd doc a vs ns G Y ho (fd_plain hd) hcd hmg hobj hints hlen hg) λ r s' hq=>?_)
 obtain⟨rfl,h2,h3,h4⟩:=hq
 exact⟨.inl ⟨.bool true,.bool true,[],rfl,λ _=>rfl,.bool true,uX l _,λ _=>⟨ufp,λ _ hm=>(nomatch hm)⟩⟩,h2,h3,h4⟩
section
variable {prog:j9}{w:v9}{A:v7}{E:b9->c7->Prop}{s:c7}{K:Frag}
end
end Att
namespace L2
open PySem PySem.Spec PyProof.Rows
theorem kY:∀ {vs:List b9}{ns:List Int},IntsAre vs ns->Vals (ns.map V.int) vs
 | _,_,.nil=>.nil
 | _,_,.cons n t h=>.cons ⟨t,rfl⟩ (kY h)
def Only (H:Hp):Prop:=∀ b,H b=none\/∃ o xs,H b=some (.frz o (.lst xs))
theorem xB {P:j9}{w:v9}{K:a9}{mg mb:Str->Option b9}{CX:CXT}{k:Nat}{fa a:j8}{fd:FuncData}{x:Str}{sp:Sp}{s₁:c7}{vs:List b9}{ns:List Int}
  (KX:K.In s₁.heap) (hns:s₁.heap.Ns mainGlobals mg) (hb:s₁.heap.Ns builtinsNs mb) (hbb:∀ x:Str,x≠"__name__"->mb x=bootBuiltins x) (hlim:s₁.heap.NoLimit) (hg:s₁.gens=#[])
  (ha:s₁.heap.get? a=some { cls:=.type "list",data:=.seq vs.toArray }) (hi:IntsAre vs ns) (hl:ns.length<=m3) (hr:Room k callerA)
  (F:∀ base:Heap,K.In base->base.Ns mainGlobals mg->FnOk P w K mg base CX k fa fd [x] sp) (hbind:∀ (s:c7)(u:b9),BindsTo s fd ⟨[u],[]⟩ [(x,u)])
  (hsp:∀ H:Hp,Only H->SqL K H a (ns.map V.int)->sp [.ref a] H (λ v _=>v=.bl true) λ _ _ _=>False)
  (hCX:∀ H e s',CX [] H s₁ (λ _ _ _=>False) e s'->False) :
  codeAny (v5 P w) callerA (.call (.ref fa) ⟨[.ref a],[]⟩) (λ r s'=>r=.ok (.ret (.bool true))/\OldK s₁.heap s'.heap/\s'.os=s₁.os/\AllBare s'.gens) s₁:=by
 have rv:=kY hi
 have lenV:=hi.length
  -- from an abstract heap in which nothing but the script may be tracked
 have core : ∀ H : Hp, Only H → SqL K H a (ns.map V.int) → HOk P w H s₁.heap → (∀ b, H b ≠ none → b = a) → (H a ≠ none → K.lookup a = none) →
     codeAny (v5 P w) callerA (.call (.ref fa) ⟨[.ref a],[]⟩) (λ r s'=>r=.ok (.ret (.bool true))/\OldK s₁.heap s'.heap/\s'.os=s₁.os/\AllBare s'.gens) s₁:=by
  intro H hO hS hok hA hK
  have base_of:∀ {b:j8}{o:Obj},s₁.heap.get? b=some o->H b=none->(hidT s₁.heap H).get? b=some o:=λ e n=>xG e n
  have noA:∀ {b:j8}{o:Obj}{es:Array DictEntry}{ep:Nat},s₁.heap.get? b=some o->o.data=.dict es ep->H b=none:=λ {b o es ep} e d=>by
   cases q:H b with
   | none=>rfl
   | some u =>
    have e':b=a:=hA b (by rw[q];simp)
    subst e'
    rw[ha] at e;cases e
    have d':Data.seq vs.toArray _=Data.dict es ep:=d
    cases d'
  have nsK:∀ {b:j8}{m:Str->Option b9},s₁.heap.Ns b m->(hidT s₁.heap H).Ns b m:=λ {b m} ⟨o,es,ep,e,d,r⟩=>⟨o,es,ep,base_of e (noA e d),d,r⟩
  have hKb:K.In (hidT s₁.heap H):=λ b o e=>base_of (KX b o e) (by
   cases q:H b with
   | none=>rfl
   | some u =>
    have e':b=a:=hA b (by rw[q];simp)
    subst e'
    rw[hK (by rw[q];simp)] at e;cases e)
  have hM:Mod K mg (hidT s₁.heap H):=⟨hKb,nsK hns,⟨mb,nsK hb,hbb⟩,let ⟨mc,h1,h2⟩:=hlim;⟨mc,nsK h1,h2⟩⟩
  have e0:Env0 P w K mg (hidT s₁.heap H) callerA [] s₁ H:=⟨rfl,hM,λ b o e=>yO e,ue1 (vR _ _),trivial,λ b hb=>absurd (show b∈([]:List j8) from hb) (by simp),hok,.of_eq hg⟩
  refine uej ((F _ hKb (nsK hns)).run callerA [] s₁ H ⟨[.ref a],[]⟩ [.ref a] [.ref a] _ _ hr e0 (hbind s₁ (.ref a)) (.cons rfl .nil) (hsp H hO hS)) λ r s' h=>?_
  cases r with
  | error e=>exact (hCX H e s' h).elim
  | ok fl =>
   cases fl with
   | next=>exact False.elim h
   | brk=>exact False.elim h
   | cont=>exact False.elim h
   | ret u =>
    obtain⟨v,H',os,bare,un,hok',r',q⟩:=h
    have q':v=.bl true:=q
    subst q'
    obtain rfl:u=Value.bool true:=r'
    refine⟨rfl,OldK.of_keep λ b o e=>?_,os,bare⟩
    cases q:H b with
    | none=>exact un.keep b o e q (by intro z;exact absurd (show b∈([]:List j8) from z) (by simp)) (by simp)
    | some u =>
     rcases hO b with z | ⟨ob,xs,z⟩
     ·rw[q] at z;cases z
     ·have z2:=un.frzs b ob _ z
      obtain⟨e1,_⟩:=hok b _ z
      obtain⟨e2,_⟩:=hok' b _ z2
      rw[e] at e1;cases e1
      exact e2
 cases hk:K.lookup a with
 | some o =>
    -- the script is one of the module's own objects
  have e:=KX a o hk
  rw[ha] at e
  cases e
  refine core (λ _=>none) (λ _=>.inl rfl) (.inr ⟨_,vs.toArray,_,hk,rfl,rfl,rfl,by rw[d7,lenV];exact hl,by simpa using rv⟩) (λ b u z=>by have z':(none:Option HO)=some u:=z;cases z') (λ b z=>absurd rfl z) λ z=>absurd rfl z
 | none =>
  refine core (λ b=>if b=a then some (.frz { cls:=.type "list",data:=.seq vs.toArray } (.lst (ns.map V.int))) else none) (λ b=>?_) (.inl (.inr ⟨{ cls:=.type "list",data:=.seq vs.toArray },uf7 rfl⟩)) (λ b u z=>?_) (λ b z=>?_) λ _=>hk
  ·by_cases hb:b=a
   ·exact .inr ⟨_,_,uf7 hb⟩
   ·exact .inl (uf8 hb)
  ·by_cases hb:b=a
   ·have z':=(uf7 hb).symm.trans z
    cases z'
    subst hb
    exact⟨ha,by rw[c6];exact hl,vs,_,rv,ha⟩
   ·have z':=(uf8 hb).symm.trans z
    cases z'
  ·by_cases hb:b=a
   ·exact hb
   ·exact absurd (uf8 hb) z
end L2
namespace L2
open PySem PySem.Spec PyProof.Rows
theorem xV {l:PySem.W.OpenLaw}{n k:Nat}{q:j9}{loose:List Str}{XP:(Str->Option b9)->Heap->Prop}{YP:v9->Heap->Prop}{d:DefRec}{K:Params->a9}{CX:v9->CXT}{sp:v9->Sp}{x:Str}
  (hn:l.most=some n) (hn2:n<=m3) (hdf:d.params.defaults=[]) (hr:Room k callerA)
  (hY:∀ (w:v9)(h:Heap),YP w h->(K w.params).In h)
  (F:∀ (w:v9)(mg:Str->Option b9)(fa:j8)(h:Heap),(K w.params).In h->h.Ns mainGlobals mg->mg d.name=some (.ref fa) ->
   ∃ fd:FuncData,(∀ (s:c7)(u:b9),BindsTo s fd ⟨[u],[]⟩ [(x,u)]) /\
    ∀ base:Heap,(K w.params).In base->base.Ns mainGlobals mg->FnOk l.prog w (K w.params) mg base (CX w) k fa fd [x] (sp w))
  (hsp:∀ (w:v9)(H:Hp)(a:j8)(ns:List Int),ns.length<=n->Only H->SqL (K w.params) H a (ns.map V.int)->sp w [.ref a] H (λ v _=>v=.bl true) λ _ _ _=>False)
  (hCX:∀ (w:v9)(H:Hp)(s:c7)(e:b9)(s':c7),CX w [] H s (λ _ _ _=>False) e s'->False) :
  PySem.W.WalkO q loose XP YP l.row.toRowW d [] (λ f vs=>PySem.call f vs):=by
 refine Att.attach_call hn hdf λ w s₀ s₁ mg mb fa o pm cd doc a vs ns G Y ho hd hcd hmg hobj hints hlen hg=>?_
 have KX:=hY w _ Y
 obtain⟨fd,hb,hF⟩:=F w mg fa _ KX G.T.g hmg
 exact xB KX G.T.g G.T.b G.T.builtins G.T.nolimit hg hobj hints (o8 hlen hn2) hr hF hb (λ H hO hS=>hsp w H a ns hlen hO hS) λ H e s'=>hCX w H s₁ e s'
end L2
namespace L2
open PySem PySem.Spec PyProof.Rows
def defArgs (s:ucy):Arguments:=match s with
 | .FunctionDef _ a _ _ _ _ _ _ _ _=>a
 | _=>{ posonlyargs:=[],args:=[],vararg:=none,kwonlyargs:=[],kw_defaults:=[],kwarg:=none,defaults:=[] }
def defBody (s:ucy):List ucy:=match s with
 | .FunctionDef _ _ b _ _ _ _ _ _ _=>b
 | _=>[]
def defScope (s:ucy):Scope:=match s with
 | .FunctionDef _ _ _ _ _ _ sc _ _ _=>sc
 | _=>{ kind:=.function,names:=[],isGenerator:=false,isCoroutine:=false }
abbrev CX0:CXT:=λ _ _ _ _ _ _=>False
abbrev E0:XK:=λ _ _ _=>False
theorem pass0 {X:Cx}:Passes CX0 X E0:=λ _ _ _ _ _ _ _ h=>h.elim
structure Fun (K:a9)(x qual:Str)(st:ucy)(f:j8)(fd:FuncData):Prop where
 ex:∃ (oc:b9)(od:Option j8)(kV doc pm:b9)(an:Option j8)(cdv ct:b9)(osl:Array (Option b9)),
  fd=ubi x qual (defArgs st) (defBody st) (defScope st) .none kV doc pm an cdv ct/\K.lookup f=some ⟨oc,od,.func fd,osl⟩/\uda K cdv qual=true
 kp:ub5 K (.ref f)=true
section
variable {P:j9}{w:v9}{K:a9}{mg:Str->Option b9}{base:Heap}
theorem Fun.ok {x qual:Str}{st:ucy}{f:j8}{fd:FuncData}{N ps:List Str}{k:Nat}{sp:Sp}(F:Fun K x qual st f fd)(S:FnScope N ps (defScope st))(len:∀ vs H Q E,sp vs H Q E->vs.length=ps.length)
  (hbody:∀ (cdv:b9)(A:v7)(outer:List Env)(s:c7)(H:Hp)(vs:List V)(Q:VK)(E:XK),Room k (A.deeper (envOfC qual (defScope st) s.heap.objs.size f cdv))->sp vs H Q E ->
   ∃ t,PSs (cxOf CX0 P w K mg base N qual (defScope st) f cdv A outer s H E).nox (defBody st) t/\t { nx:=λ _ H'=>Q .non H',rt:=Q } (start N vs) H):FnOk P w K mg base CX0 (k+1) f fd ps sp:=by
 obtain⟨oc,od,kV,doc,pm,an,cdv,ct,osl,rfl,lk,hcd⟩:=F.ex
 refine zaf lk hcd S len λ A outer s H vs Q E hr hsp=>?_
 obtain⟨t,h,q⟩:=hbody cdv A outer s H vs Q E hr hsp
 exact⟨t,h.nox,q⟩
theorem Fun.binds {x qual:Str}{st:ucy}{f:j8}{fd:FuncData}{ps:List Str}(F:Fun K x qual st f fd)
  (h:∀ (kV doc pm:b9)(an:Option j8)(cdv ct:b9)(us:List b9),us.length=ps.length->bindArgs (ubi x qual (defArgs st) (defBody st) (defScope st) .none kV doc pm an cdv ct) ⟨us,[]⟩=pure (ps.zip us)):Binds K fd ps []:=by
 obtain⟨oc,od,kV,doc,pm,an,cdv,ct,osl,rfl,lk,hcd⟩:=F.ex
 exact .all (h kV doc pm an cdv ct)
theorem pC {x qual:Str}{st:ucy}{f:j8}{oc:b9}{od an:Option j8}{osl:Array (Option b9)}{kV doc pm cdv ct:b9}(l:K.lookup f=some ⟨oc,od,.func (ubi x qual (defArgs st) (defBody st) (defScope st) .none kV doc pm an cdv ct),osl⟩)
  (c:uda K cdv qual=true) (k:ub5 K (.ref f)=true):Fun K x qual st f (ubi x qual (defArgs st) (defBody st) (defScope st) .none kV doc pm an cdv ct):=⟨⟨oc,od,kV,doc,pm,an,cdv,ct,osl,rfl,l,c⟩,k⟩
end
section
variable {X:Cx}
theorem pv (i:Nat){x:Str}{pos:Pos}(hN:X.N[i]?=some x:=by rfl)(hv:Vis X.env.scope x:=by first | exact j7 rfl | exact ueu (j7 rfl) | exact ueu (ueu rfl))(hd:(x==("__debug__":Str))=false:=by decide)
  (hcd:(x==("__classdict__":Str))=false:=by decide):PE X (.Name x pos) (tVar i):=zN hN hv hd hcd
end
theorem iteF {A B:Prop}(h:B):if false=true then A else B:=by
 rw[uf8 i6]
 exact h
theorem iteT {A B:Prop}(h:A):if true=true then A else B:=by
 rw[uf7 rfl]
 exact h
theorem ite2 {c A B:Prop}[Decidable c](h1:c->A)(h2:¬ c->B):if c then A else B:=by
 by_cases h:c
 ·rw[uf7 h]
  exact h1 h
 ·rw[uf8 h]
  exact h2 h
theorem iteNS {c A B:Prop}[Decidable c](hc:c)(h:B):if (!decide c)=true then A else B:=by
 rw[uf3 hc]
 exact iteF h
def Same (H H':Hp):Prop:=∀ b o,H b=some o->H' b=some o
theorem Same.refl (H:Hp):Same H H:=λ _ _ h=>h
theorem Same.trans {H H1 H2:Hp}(a:Same H H1)(b:Same H1 H2):Same H H2:=λ c o h=>b c o (a c o h)
theorem Same.free {H H':Hp}(e:Same H H'){l:j8}(h:H' l=Option.none):H l=Option.none:=by
 cases q:H l with
 | none=>rfl
 | some o =>
  rw[e l o q] at h
  cases h
theorem Same.seq {K:a9}{H H':Hp}{a:j8}{xs:List V}(e:Same H H')(h:SqL K H a xs):SqL K H' a xs:=by
 rcases h with (h | ⟨o,h⟩) | h
 ·exact .inl (.inl (e _ _ h))
 ·exact .inl (.inr ⟨o,e _ _ h⟩)
 ·exact .inr h
end L2
namespace L2
open PySem PySem.Spec PyProof.Rows
section
variable {κ:Type}[DecidableEq κ]
def valV (kvs:List (κ × V))(k:κ):Option V:=(kvs.find? λ kv=>decide (kv.1=k)).map (·.2)
def putK (kvs:List (κ × V))(k:κ)(v:V):List (κ × V) :=
 if (kvs.any λ kv=>decide (kv.1=k))=true then kvs.map (λ kv=>if kv.1=k then (kv.1,v) else kv) else kvs++[(k,v)]
def dropK (kvs:List (κ × V))(k:κ):List (κ × V):=kvs.filter λ kv=>decide (kv.1≠k)
theorem RelO.getD {o:Option V}{u:Option b9}{d:V}{d':b9}(r:RelO o u)(rd:RelV d d'):RelV (o.getD d) (u.getD d'):=by
 cases o with
 | none=>cases u with
  | none=>exact rd
  | some _=>exact (show False from r).elim
 | some _=>cases u with
  | none=>exact (show False from r).elim
  | some _=>exact r
theorem KV.length {kvs:List (κ × V)}{vs:List (κ × b9)}(r:KV kvs vs):kvs.length=vs.length:=Paired.length r
end
abbrev KT (H:Hp):List (List Key × V)->List (List Key × j8 × b9)->Prop:=Paired λ p q=>p.1=q.1/\H q.2.1=some (.tup (p.1.map kV))/\RelV p.2 q.2.2
section
variable {P:j9}{w:v9}{H:Hp}{h:Heap}{a:j8}
end
def DGet (H:Hp)(a:j8)(y:V)(r:Option V):Prop :=
 (∃ kvs k,Rd H a (.dK kvs)/\y=kV k/\r=valV kvs k)\/∃ kvs k b,Rd H a (.dT kvs)/\y=.ref b/\H b=some (.tup (k.map kV))/\r=valV kvs k
def DPut (H:Hp)(a:j8)(y v:V)(H':Hp):Prop :=
 (∃ kvs k,H a=some (.dK kvs)/\y=kV k/\kvs.length<m3/\H'=upd H a (.dK (putK kvs k v))) \/
 ∃ kvs k b,H a=some (.dT kvs)/\y=.ref b/\H b=some (.tup (k.map kV))/\kvs.length<m3/\H'=upd H a (.dT (putK kvs k v))
section
variable {X:Cx}{pins:List (j8 × Obj)}{σ:St}{H:Hp}{s:c7}{a:j8}{y v:V}{u r:b9}{o:Option V}{A:v7}{E:b9->c7->Prop}
end
section
variable {X:Cx}{pins:List (j8 × Obj)}{σ:St}{H:Hp}{s:c7}{a:j8}{kvs:List (Key × V)}{k:Key}{u:b9}{A:v7}{E:b9->c7->Prop}
end
section
variable {X:Cx}{o i e value:ubv}{pos pos' tpos:Pos}{td ty tv:TE}
end
section
variable {X:Cx}{pos:Pos}
end
end L2
set_option maxHeartbeats 4000000
namespace Srt
open PySem PySem.W PyProof.Rows
section
variable {N:Nat}{r:Nat->Int}{cmp:Nat->Nat->(Bool->c7->Prop)->c7->Prop}{s:c7}
def ky (r:Nat->Int)(p:Array Nat)(m:Nat):Int:=r (p.getD m 0)
def Up (r:Nat->Int)(p:Array Nat)(n:Nat):Prop:=∀ i j,i<=j->j<n->ky r p i<=ky r p j
def Dn (r:Nat->Int)(p:Array Nat)(n:Nat):Prop:=∀ i j,i<=j->j<n->ky r p j<=ky r p i
def Ask (N:Nat)(r:Nat->Int)(cmp:Nat->Nat->(Bool->c7->Prop)->c7->Prop)(s:c7):Prop :=
 ∀ i j C,i<N->j<N->C (decide (r i<r j)) s->cmp i j C s
def Gd (N:Nat)(p:Array Nat):Prop:=p.Perm (uew (c9 N))
theorem Gd.sz {p:Array Nat}(g:Gd N p):p.size=N:=by
 have:=g.size_eq
 simpa using this
theorem Gd.lt {p:Array Nat}(g:Gd N p)(h:0<N)(m:Nat):p.getD m 0<N:=by
 by_cases hm:m<p.size
 ·have e:p.getD m 0=p[m]:=by simp [ufu,hm]
  rw[e]
  have h1:p[m]∈p:=Array.getElem_mem hm
  have h2:p[m]∈uew (c9 N):=g.mem_iff.mp h1
  simpa using h2
 ·have e:p.getD m 0=0:=by simp [ufu,hm]
  left
theorem fR {p q:Array Nat}{i j:Nat}(h:p[i]?=q[j]?):ky r p i=ky r q j:=by
 have e:∀ (a:Array Nat)(k:Nat),a.getD k 0=(a[k]?).getD 0:=λ a k=>by
  by_cases hk:k<a.size <;> simp [ufu,hk]
 unfold ky
 rw[e,e,h]
theorem jQ {p:Array Nat}{i j:Nat}(hj:j<=p.size)(k:Nat):ky r (kas_rev p i j) k=if i<=k/\k<j then ky r p (i+j-1-k) else ky r p k:=by
 have e:=getElem?_mirror_all (i:=i) hj k
 by_cases h:i<=k/\k<j
 ·rw[uf7 h] at e ⊢
  exact fR e
 ·rw[uf8 h] at e ⊢
  exact fR e
theorem zT {p:Array Nat}{k d:Nat}(hs:k<p.size)(hd:d<=k)(m:Nat) :
  ky r (bubble p k d) m=if m=k-d then ky r p k else if k-d<m/\m<=k then ky r p (m-1) else ky r p m:=by
 have e:=getElem?_bubble hs d hd m
 by_cases h1:m=k-d
 ·rw[uf7 h1] at e ⊢
  exact fR e
 ·rw[uf8 h1] at e ⊢
  by_cases h2:k-d<m/\m<=k
  ·rw[uf7 h2] at e ⊢
   exact fR e
  ·rw[uf8 h2] at e ⊢
   exact fR e
theorem Gd.rev {p:Array Nat}(g:Gd N p)(i j:Nat):Gd N (kas_rev p i j):=(mirror_perm p i j _).trans g
theorem Gd.bub {p:Array Nat}(g:Gd N p)(i j:Nat):Gd N (bubble p i j):=(bubble_perm p i j).trans g
theorem jT (h:Ask N r cmp s)(hN:0<N){p:Array Nat}(g:Gd N p){Q:Nat->c7->Prop}:∀ f n,1<=n->Up r p n ->
  (∀ m,n<=m->m<=n+f->Up r p m->(m<n+f->ky r p m<ky r p (m-1))->Q m s)->(kas_asc p f n).kasWp cmp Q s
 | 0,n,_,hu,q=>q n (c8 _) (c8 _) hu (λ z=>absurd z (uap _))
 | f+1,n,h1,hu,q=>by
  refine h _ _ _ (g.lt hN _) (g.lt hN _) ?_
  by_cases c:r (p.getD n 0)<r (p.getD (n-1) 0)
  ·rw[uf3 c]
   exact q n (c8 _) (by left) hu (λ _=>c)
  ·rw[uf5 c]
   refine jT h hN g f (n+1) (by left) (λ i j hij hj=>?_) (λ m a b u d=>q m (by left) (by left) u (λ z=>d (by left)))
   have c':ky r p (n-1)<=ky r p n:=by unfold ky;left
   by_cases e:j=n
   ·subst e
    by_cases e2:i=j
    ·subst e2;exact w6 _
    ·exact ue7 (hu i (j-1) (by left) (by left)) c'
   ·exact hu i j hij (by left)
theorem iI {p:Array Nat}{i j:Nat}(hj:j<=p.size)(v:Int)(he:∀ k,i<=k->k<j->ky r p k=v)(k:Nat):ky r (kas_rev p i j) k=ky r p k:=by
 rw[jQ hj]
 split
 ·rename_i c
  rw[he _ (by left) (by left),he k c.1 c.2]
 ·rfl
theorem gQ (h:Ask N r cmp s)(hN:0<N){Q:Array Nat × Nat × Nat->c7->Prop}:∀ f p n q,Gd N p->1<=n->n+f<=N->Dn r p n->q+1<=n->(∀ i,n-(q+1)<=i->i<n->ky r p i=ky r p (n-1)) ->
  (∀ p' n' q',Gd N p'->n<=n'->n'<=n+f->Dn r p' n'->q'+1<=n'->(∀ i,n'-(q'+1)<=i->i<n'->ky r p' i=ky r p' (n'-1))->Q (p',n',q') s)->(kas_desc f p n q).kasWp cmp Q s
 | 0,p,n,q,g,_,_,hd,hq,he,z=>z p n q g (c8 _) (c8 _) hd hq he
 | f+1,p,n,q,g,h1,hf,hd,hq,he,z=>by
  refine h _ _ _ (g.lt hN _) (g.lt hN _) ?_
  by_cases c:r (p.getD n 0)<r (p.getD (n-1) 0)
  ·rw[uf3 c]
   have c':ky r p n<ky r p (n-1):=c
   have dn:∀ {p':Array Nat},(∀ k,ky r p' k=ky r p k)->Dn r p' (n+1):=λ e i j hij hj=>by
    rw[e,e]
    by_cases ej:j=n
    ·subst ej
     by_cases ei:i=j
     ·subst ei;exact w6 _
     ·exact ue7 (ue8 c') (hd i (j-1) (by left) (by left))
    ·exact hd i j hij (by left)
   show KasT.kasWp cmp (if q>0 then kas_desc f (kas_rev p (n-(q+1)) n) (n+1) 0 else kas_desc f p (n+1) 0) Q s
   by_cases hq0:q>0
   ·rw[uf7 hq0]
    have e:=iI (r:=r) (p:=p) (i:=n-(q+1)) (j:=n) (by rw[g.sz];left) (ky r p (n-1)) he
    exact gQ h hN f _ (n+1) 0 (g.rev _ _) (by left) (by left) (dn e) (by left) (λ i a b=>by congr 1;left)
     (λ p' n' q' g' a b d e1 e2=>z p' n' q' g' (by left) (by left) d e1 e2)
   ·rw[uf8 hq0]
    exact gQ h hN f _ (n+1) 0 g (by left) (by left) (dn λ _=>rfl) (by left) (λ i a b=>by congr 1;left)
     (λ p' n' q' g' a b d e1 e2=>z p' n' q' g' (by left) (by left) d e1 e2)
  ·rw[uf5 c]
   refine h _ _ _ (g.lt hN _) (g.lt hN _) ?_
   by_cases d:r (p.getD (n-1) 0)<r (p.getD n 0)
   ·rw[uf3 d]
    exact z p n q g (c8 _) (by left) hd hq he
   ·rw[uf5 d]
    have e:ky r p n=ky r p (n-1):=by unfold ky;left
    refine gQ h hN f p (n+1) (q+1) g (by left) (by left) (λ i j hij hj=>?_) (by left) (λ i a b=>?_)
     (λ p' n' q' g' a b d e1 e2=>z p' n' q' g' (by left) (by left) d e1 e2)
    ·by_cases ej:j=n
     ·subst ej
      by_cases ei:i=j
      ·subst ei;exact w6 _
      ·rw[e];exact hd i (j-1) (by left) (by left)
     ·exact hd i j hij (by left)
    ·rw[show n+1-1=n by left]
     by_cases ei:i=n
     ·rw[ei]
     ·rw[e];exact he i (by left) (by left)
theorem mG (h:Ask N r cmp s)(hN:0<N){Q:Nat × Array Nat->c7->Prop}{p:Array Nat}{n:Nat}(g:Gd N p)(h1:1<=n)(hn:n<=N)(hd:Dn r p n)
  (z:∀ m p',Gd N p'->1<=m->m<=N->Up r p' m->Q (m,p') s):(kas_tail3 n N p).kasWp cmp Q s:=by
 unfold kas_tail3
 rw[KasT.kasWp_bind]
 refine jT h hN (g.rev 0 n) _ n h1 (λ i j hij hj=>?_) (λ m a b u _=>z m _ (g.rev 0 n) (by left) (by left) u)
 rw[jQ (by rw[g.sz];left),jQ (by rw[g.sz];left),uf7 (by left),uf7 (by left)]
 exact hd _ _ (by left) (by left)
theorem kI (h:Ask N r cmp s)(hN:0<N){Q:Nat × Array Nat->c7->Prop}{p:Array Nat}{n:Nat}(g:Gd N p)(h1:1<=n)(hn:n+1<=N)(hd:Dn r p (n+1))
  (z:∀ m p',Gd N p'->1<=m->m<=N->Up r p' m->Q (m,p') s):(kas_descPart n N p).kasWp cmp Q s:=by
 unfold kas_descPart
 rw[KasT.kasWp_bind]
 refine gQ h hN _ p (n+1) 0 g (by left) (by left) hd (by left) (λ i a b=>by congr 1;left) (λ p' n' q' g' a b d e1 e2=>?_)
 show KasT.kasWp cmp (if q'>0 then kas_tail3 n' N (kas_rev p' (n'-(q'+1)) n') else kas_tail3 n' N p') Q s
 by_cases hq:q'>0
 ·rw[uf7 hq]
  have e:=iI (r:=r) (p:=p') (i:=n'-(q'+1)) (j:=n') (by rw[g'.sz];left) (ky r p' (n'-1)) e2
  exact mG h hN (g'.rev _ _) (by left) (by left) (λ i j hij hj=>by rw[e,e];exact d i j hij hj) z
 ·rw[uf8 hq]
  exact mG h hN g' (by left) (by left) d z
theorem xL (h:Ask N r cmp s)(hN:0<N){Q:Nat × Array Nat->c7->Prop}{p:Array Nat}(g:Gd N p)
  (z:∀ m p',Gd N p'->1<=m->m<=N->Up r p' m->Q (m,p') s):(kas_count N p).kasWp cmp Q s:=by
 unfold kas_count
 rw[KasT.kasWp_bind]
 refine jT h hN g _ 1 (c8 _) (λ i j hij hj=>?_) (λ m a b u d=>?_)
 ·have:i=j:=by left
  subst this;exact w6 _
 show KasT.kasWp cmp (if (m==N)=true then .ret (m,p) else if m>1 then .ask (p.getD 0 0) (p.getD (m-1) 0) λ c=>if c=true then .ret (m,p) else kas_descPart m N (kas_rev p 0 m) else kas_descPart m N p) Q s
 by_cases hm:m=N
 ·rw[uf7 (by simpa using hm)]
  exact z m p g a (by left) u
 ·rw[uf8 (by simpa using hm)]
  have d':=d (by left)
  by_cases h1:m>1
  ·rw[uf7 h1]
   refine h _ _ _ (g.lt hN _) (g.lt hN _) ?_
   by_cases c:r (p.getD 0 0)<r (p.getD (m-1) 0)
   ·rw[uf3 c]
    exact z m p g a (by left) u
   ·rw[uf5 c]
    have c':ky r p (m-1)<=ky r p 0:=by unfold ky;left
    have eq:∀ k,0<=k->k<m->ky r p k=ky r p 0:=λ k _ hk=>by
     have a1:=u 0 k (by left) hk
     have a2:=u k (m-1) (by left) (by left)
     left
    have e:=iI (r:=r) (p:=p) (i:=0) (j:=m) (by rw[g.sz];left) (ky r p 0) eq
    refine kI h hN (g.rev 0 m) (by left) (by left) (λ i j hij hj=>?_) z
    rw[e,e]
    by_cases ej:j=m
    ·subst ej
     by_cases ei:i=j
     ·subst ei;exact w6 _
     ·rw[eq i (by left) (by left)]
      have:=eq (j-1) (by left) (by left)
      left
    ·rw[eq i (by left) (by left),eq j (by left) (by left)]
     exact w6 _
  ·rw[uf8 h1]
   have e1:m=1:=by left
   subst e1
   refine kI h hN g (by left) (by left) (λ i j hij hj=>?_) z
   by_cases ej:j=1
   ·subst ej
    by_cases ei:i=1
    ·subst ei;exact w6 _
    ·have:i=0:=by left
     subst this
     exact ue8 d'
   ·have:i=j:=by left
    subst this;exact w6 _
theorem iQ (h:Ask N r cmp s)(hN:0<N){Q:Nat->c7->Prop}{p:Array Nat}{k:Nat}(g:Gd N p)(hu:Up r p k):∀ f l rr,l<=rr->rr<=k->rr-l<=f->(∀ i,i<l->ky r p i<=ky r p k)->(∀ i,rr<=i->i<k->ky r p k<ky r p i) ->
  (∀ l',l'<=k->(∀ i,i<l'->ky r p i<=ky r p k)->(∀ i,l'<=i->i<k->ky r p k<ky r p i)->Q l' s)->(kas_place p k f l rr).kasWp cmp Q s
 | 0,l,rr,h1,h2,h3,a,b,z=>z l (by left) a (λ i x y=>b i (by left) y)
 | f+1,l,rr,h1,h2,h3,a,b,z=>by
  unfold kas_place
  by_cases hl:l ≥ rr
  ·rw[uf7 hl]
   exact z l (by left) a (λ i x y=>b i (by left) y)
  ·rw[uf8 hl]
   refine h _ _ _ (g.lt hN _) (g.lt hN _) ?_
   by_cases c:r (p.getD k 0)<r (p.getD ((l+rr) / 2) 0)
   ·rw[uf3 c]
    have c':ky r p k<ky r p ((l+rr) / 2):=c
    exact iQ h hN g hu f l ((l+rr) / 2) (by left) (by left) (by left) a (λ i x y=>Int.lt_of_lt_of_le c' (hu _ _ x y)) z
   ·rw[uf5 c]
    have c':ky r p ((l+rr) / 2)<=ky r p k:=by unfold ky;left
    exact iQ h hN g hu f ((l+rr) / 2+1) rr (by left) (by left) (by left) (λ i x=>ue7 (hu i ((l+rr) / 2) (by left) (by left)) c') b z
theorem pJ (h:Ask N r cmp s)(hN:0<N){Q:Array Nat->c7->Prop}:∀ f p k,Gd N p->k+f<=N->Up r p k->(∀ p',Gd N p'->Up r p' (k+f)->Q p' s)->(kas_bin f p k).kasWp cmp Q s
 | 0,p,k,g,_,hu,z=>z p g hu
 | f+1,p,k,g,hk,hu,z=>by
  unfold kas_bin
  rw[KasT.kasWp_bind]
  refine iQ h hN g hu k 0 k (by left) (c8 _) (by left) (λ i x=>absurd x (ub0 _)) (λ i x y=>absurd (uak x y) (uap _)) (λ l hl a b=>?_)
  have e:=λ m=>zT (r:=r) (p:=p) (k:=k) (d:=k-l) (by rw[g.sz];left) (by left) m
  refine pJ h hN f _ (k+1) (g.bub _ _) (by left) (λ i j hij hj=>?_) (λ p' g' u'=>z p' g' (by rw[show k+(f+1)=k+1+f by left];exact u'))
  rw[e,e]
  have ekl:k-(k-l)=l:=by left
  rw[ekl]
  by_cases i1:i=l
  ·rw[uf7 i1]
   by_cases j1:j=l
   ·rw[uf7 j1];exact w6 _
   ·rw[uf8 j1,uf7 (by left)]
    exact ue8 (b _ (by left) (by left))
  ·rw[uf8 i1]
   by_cases i2:l<i/\i<=k
   ·rw[uf7 i2,uf8 (by left),uf7 (by left)]
    exact hu _ _ (by left) (by left)
   ·rw[uf8 i2]
    by_cases j1:j=l
    ·rw[uf7 j1];exact a _ (by left)
    ·rw[uf8 j1]
     by_cases j2:l<j/\j<=k
     ·rw[uf7 j2];exact hu _ _ (by left) (by left)
     ·rw[uf8 j2];exact hu _ _ hij (by left)
theorem yF (h:Ask N r cmp s)(hN:0<N){Q:Array Nat->c7->Prop}(z:∀ p,Gd N p->Up r p N->Q p s):(kas_sort N).kasWp cmp Q s:=by
 unfold kas_sort
 rw[KasT.kasWp_bind]
 refine xL h hN (Array.Perm.refl _) (λ m p g h1 hm u=>?_)
 show KasT.kasWp cmp (if m<N then kas_bin (N-max m 1) p (max m 1) else .ret p) Q s
 by_cases c:m<N
 ·rw[uf7 c,Nat.max_eq_left h1]
  exact pJ h hN _ p m g (by left) u (λ p' g' u'=>z p' g' (by rw[show m+(N-m)=N by left] at u';exact u'))
 ·rw[uf8 c]
  have:m=N:=by left
  subst this
  exact z p g u
end
end Srt
namespace Srt
open PySem PySem.W PyProof.Rows
section
variable {n:Nat}{lt:Nat->Nat->Bool}
def rank (n:Nat)(lt:Nat->Nat->Bool)(i:Nat):Int:=(((c9 n).countP λ k=>lt k i:Nat):Int)
theorem dM {α:Type}{p q:α->Bool}:∀ {l:List α}{x:α},(∀ y∈l,p y=true->q y=true)->x∈l->p x=false->q x=true->l.countP p<l.countP q
 | [],_,_,hx,_,_=>by cases hx
 | a::r,x,h,hx,hp,hq=>by
  have hr:∀ y∈r,p y=true->q y=true:=λ y hy=>h y (j4 _ hy)
  have mono:r.countP p<=r.countP q:=ud4 hr
  rw[udt,udt]
  rcases h9.mp hx with e | hx
  ·subst e
   simp only [hp,hq,ua2,if_false,if_true]
   left
  ·have ih:=dM hr hx hp hq
   cases hpa:p a with
   | false=>simp only [ua2,if_false];split <;> left
   | true =>
    have:=h a g9 hpa
    simp only [this,if_true]
    left
theorem nV (hi:∀ i,lt i i=false)(ht:∀ i j k,i<n->j<n->k<n->lt i j=true->lt j k=true->lt i k=true)(hn:∀ i j k,i<n->j<n->k<n->lt i k=true->lt i j=true\/lt j k=true)
  {i j:Nat} (h1:i<n) (h2:j<n):decide (rank n lt i<rank n lt j)=lt i j:=by
 unfold rank
 cases e:lt i j with
 | true =>
  refine uf3 ?_
  have:=dM (p:=λ k=>lt k i) (q:=λ k=>lt k j) (l:=c9 n) (x:=i) (λ k hk q=>ht k i j (o9.mp hk) h1 h2 q e) (o9.mpr h1) (hi i) e
  left
 | false =>
  refine uf5 ?_
  have:(c9 n).countP (λ k=>lt k j)<=(c9 n).countP (λ k=>lt k i):=ud4 λ k hk q=>by
   rcases hn k i j (o9.mp hk) h1 h2 q with z | z
   ·exact z
   ·rw[e] at z;cases z
  left
end
section
variable {prog:j9}{w:v9}{A:v7}{E:b9->c7->Prop}{s:c7}
abbrev Stay (a:j8)(h h':Heap):Prop:=∀ b o,b≠a->h.get? b=some o->h'.get? b=some o
def outOf (vs:List b9)(p:Array Nat):List b9:=p.toList.map λ i=>vs.getD i Value.none
theorem vA (vs:List b9):outOf vs (uew (c9 vs.length))=vs:=by
 unfold outOf
 refine ue4 (by simp) λ i h1 h2=>?_
 simp
 rw[b6 h2]
 rfl
theorem zY {vs:List b9}{p:Array Nat}(g:Gd vs.length p):(outOf vs p).length=vs.length:=by
 unfold outOf
 rw[c6,ubh,g.sz]
theorem lsort {a:j8}{vs:List b9}{n:Nat}{P:PySem.Fin->c7->Prop}{r:Nat->Int}{κ:SortKind}(ho:s.heap.get? a=some (seqObj "list" vs.toArray n))(h64:vs.length<64)
  (hk:2<=vs.length->∀ (s':c7)(Q:SortKind->c7->Prop),Stay a s.heap s'.heap->Q κ s'->k8 (v5 prog w) A (keyKind' vs.toArray) Q (λ _ _=>False) s')
  (hc:∀ (s':c7)(i j:Nat)(C:Bool->c7->Prop),Stay a s.heap s'.heap->i<vs.length->j<vs.length->C (decide (r i<r j)) s'->kas_ask prog w A κ vs i j C s')
  (h:∀ (p:Array Nat)(h':Heap)(c:Nat),Gd vs.length p->Up r p vs.length->Stay a s.heap h'->h'.get? a=some (seqObj "list" (outOf vs p).toArray c)->P (.done (.ret .none)) { s with heap:=h' }) :
  k8 (v5 prog w) A (Builtin.«list.sort» ⟨[.ref a],[]⟩) P E s:=by
 rw[list_sort_plain]
 have ha:a<s.heap.objs.size:=i7 ho
 have line:(64:Nat)<=m3:=by rw[ubj];decide
 refine a8 (listItems_at ho rfl (a8 (listUpdate_at ho rfl ?_ (by rw[d7];left) (v4 _))))
 have e1:=get?_update_seq ho λ _=>(#[]:Array b9)
 generalize (if ((λ _=>(#[]:Array b9)) vs.toArray).size==vs.toArray.size then n else n+1)=n1 at e1
 have k1:Stay a s.heap (s.heap.update a (Obj.mapSeq λ _=>(#[]:Array b9))):=λ b o hb q=>(m7 s.heap _ (Ne.symm hb)).trans q
 refine a8 (seqEpoch_at e1 rfl (a8 (wpAny_newTuple ?_ (by show vs.length<=_;left))))
 refine a8 (ufd ?_ (v4 _))
 refine uah ?_
 show k8 (v5 prog w) A _ P E { s with heap:=(((s.heap.update a (Obj.mapSeq λ _=>(#[]:Array b9))).push (seqObj "tuple" vs.toArray 0)).push (seqObj "list" #[] 0):Heap) }
 generalize hg:((s.heap.update a (Obj.mapSeq λ _=>(#[]:Array b9))).push (seqObj "tuple" vs.toArray 0)).push (seqObj "list" #[] 0)=g
 have e2:g.get? a=some (seqObj "list" #[] n1):=by rw[← hg];exact b7 _ (b7 _ e1)
 have k2:Stay a s.heap g:=λ b o hb q=>by rw[← hg];exact b7 _ (b7 _ (k1 b o hb q))
 have fin:∀ (p:Array Nat),Gd vs.length p->Up r p vs.length->P (.done (.ret .none)) { s with heap:=g.update a (Obj.mapSeq λ _=>(outOf vs p).toArray) }:=λ p g1 u1 =>
  h p _ _ g1 u1 (λ b o hb q=>(m7 g _ (Ne.symm hb)).trans (k2 b o hb q)) (get?_update_seq e2 λ _=>(outOf vs p).toArray)
 by_cases h2:vs.length<2
 ·have h2':vs.toArray.size<2:=by rw[d7];exact h2
  simp only [uf7 h2']
  refine a8 (d3 ?_)
  rw[StateT.run_pure]
  refine a8 (d3 ?_)
  have eo:((arrOf (SortSt.mk' general' (vs.toArray.zip vs.toArray) #[] 7 none)).map (·.2))=vs.toArray:=by
   apply Array.toList_inj.mp
   show ((vs.toArray.zip vs.toArray).map (·.2)).toList=_
   rw[Array.toList_map]
   simp only [Array.toList_zip,List.toList_toArray]
   exact List.map_snd_zip (c8 _)
  dsimp only
  refine a8 (seqEpoch_at e2 rfl ?_)
  rw[eo]
  refine a8 (listUpdate_at e2 rfl ?_ (v4 _) (by rw[d7];left))
  simp only [bne_self_eq_false,ua2,if_false]
  have f:=fin (uew (c9 vs.length)) (Array.Perm.refl _) (λ i j hij hj=>by
   have:i=j:=by left
   subst this;exact w6 _)
  rw[vA] at f
  exact d3 f
 ·have h2':¬ vs.toArray.size<2:=by rw[d7];exact h2
  simp only [uf8 h2']
  refine a8 (ubx (hk (by left) { s with heap:=g } (λ κ' s'=>κ'=κ/\s'={ s with heap:=g }) k2 ⟨rfl,rfl⟩) (λ κ' s' hq=>?_) λ _ _ x=>x.elim)
  obtain⟨rfl,rfl⟩:=hq
  refine a8 (ubx (kat_run (ks:=vs) (Q:=λ st' s'=>∃ p:Array Nat,arrOf st'=p.map (kas_item (vs.toArray.zip vs.toArray))/\failedOf st'=none/\s'={ s with heap:=g }/\Gd vs.length p/\Up r p vs.length)
   (G:=λ p s'=>s'={ s with heap:=g }/\Gd vs.length p/\Up r p vs.length) rfl (by left) h64 (λ p st' s' _ b2 b3 b4=>⟨p,b2,b3,b4.1,b4.2.1,b4.2.2⟩)
   (yF (r:=r) (λ i j C hi hj q=>hc _ i j C k2 hi hj q) (by left) λ p g1 u1=>⟨rfl,g1,u1⟩)) ?_ λ _ _ e=>e)
  rintro ⟨⟨⟩,st'⟩ s' ⟨p,har,hf,rfl,g1,u1⟩
  have hout:=kat_snds (ks:=vs) (vs:=vs) rfl har
  have ol:(outOf vs p).length=vs.length:=zY g1
  dsimp only
  rw[hout]
  refine a8 (seqEpoch_at e2 rfl ?_)
  refine a8 (listUpdate_at e2 rfl ?_ (v4 _) (by show (outOf vs p).toArray.size<=_;rw[d7];left))
  rw[hf]
  simp only [bne_self_eq_false,ua2,if_false]
  exact d3 (fin p g1 u1)
theorem lG {l:j8}{vs:List b9}{Q:b9->c7->Prop}{r:Nat->Int}{κ:SortKind}(hl:s.heap.IsList l vs.toArray)(h64:vs.length<64)
  (hk:2<=vs.length->∀ (A':v7)(s':c7)(Q:SortKind->c7->Prop),(∀ b o,s.heap.get? b=some o->s'.heap.get? b=some o)->Q κ s'->k8 (v5 prog w) A' (keyKind' vs.toArray) Q (λ _ _=>False) s')
  (hc:∀ (A':v7)(s':c7)(i j:Nat)(C:Bool->c7->Prop),(∀ b o,s.heap.get? b=some o->s'.heap.get? b=some o)->i<vs.length->j<vs.length->C (decide (r i<r j)) s'->kas_ask prog w A' κ vs i j C s')
  (h:∀ (p:Array Nat)(h':Heap)(c:Nat),Gd vs.length p->Up r p vs.length->(∀ b o,s.heap.get? b=some o->h'.get? b=some o)->h'.get? (s.heap.objs.size+1)=some (seqObj "list" (outOf vs p).toArray c)->Q (.ref (s.heap.objs.size+1)) { s with heap:=h' }) :
  k8 (v5 prog w) A (call (.builtin "sorted") [.ref l]) Q E s:=by
 have line:(64:Nat)<=m3:=by rw[ubj];decide
 refine Calls.call_function_entry kind_sorted plain_sorted entry_sorted (args_sorted1 _) ?_
 unfold Builtin.«sorted»
 refine a8 (m:=checkCount "sorted" 1 1 _) (d3 (a8 (collect_list hl (a8 (ufd ?_ (by left))) (by left))))
 generalize hg:(s.heap.push (seqObj "list" #[] 0)).update s.heap.objs.size (Obj.mapSeq (·++vs.toArray))=g
 have sz:g.objs.size=s.heap.objs.size+1:=by rw[← hg,Heap.size_update,size_push']
 have k1:∀ b o,s.heap.get? b=some o->g.get? b=some o:=λ b o q=>by
  rw[← hg]
  exact (m7 _ _ (Ne.symm (l9 (i7 q)))).trans (b7 _ q)
 have hoL:(g.push { cls:=.type "list",data:=.seq vs.toArray }).get? (s.heap.objs.size+1)=some (seqObj "list" vs.toArray 0):=by rw[← sz];exact i8 _ rfl
 have k2:∀ b o,s.heap.get? b=some o->(g.push { cls:=.type "list",data:=.seq vs.toArray }).get? b=some o:=λ b o q=>b7 _ (k1 b o q)
 have ne:∀ b o,s.heap.get? b=some o->b≠s.heap.objs.size+1:=λ b o q=>l9 (ub6 (i7 q))
 show k8 _ _ _ _ _ { s with heap:=g.push { cls:=.type "list",data:=.seq vs.toArray } }
 rw[sz]
 refine a8 (uah (uaa slot_list_sort ⟨_,hoL,rfl⟩ entry_list_sort ?_ (args_list_sort _)))
 refine lsort (s:={ s with heap:=g.push { cls:=.type "list",data:=.seq vs.toArray } }) (r:=r) (κ:=κ) hoL h64 (λ h2 s' Q' st q=>hk h2 _ s' Q' (λ b o e=>st b o (ne b o e) (k2 b o e)) q)
  (λ s' i j C st hi hj q=>hc _ s' i j C (λ b o e=>st b o (ne b o e) (k2 b o e)) hi hj q) λ p h' c g1 u1 st e=>⟨_,rfl,?_⟩
 exact d3 ⟨_,rfl,h p h' c g1 u1 (λ b o e=>st b o (ne b o e) (k2 b o e)) e⟩
def lexI:List Int->List Int->Bool
 | [],[]=>false
 | [],_::_=>true
 | _::_,[]=>false
 | x::xs,y::ys=>if x=y then lexI xs ys else decide (x<y)
theorem iT:∀ xs,lexI xs xs=false
 | []=>rfl
 | x::xs=>by show (if x=x then lexI xs xs else _)=false;rw[uf7 rfl];exact iT xs
theorem fT:∀ xs ys zs,lexI xs ys=true->lexI ys zs=true->lexI xs zs=true
 | [],[],_,h,_=>by cases h
 | [],_::_,[],_,h=>by cases h
 | [],_::_,_::_,_,_=>rfl
 | _::_,[],_,h,_=>by cases h
 | _::_,_::_,[],_,h=>by cases h
 | x::xs,y::ys,z::zs,h1,h2=>by
  simp only [lexI] at h1 h2 ⊢
  by_cases e1:x=y
  ·subst e1
   rw[uf7 rfl] at h1
   by_cases e2:x=z
   ·rw[uf7 e2] at h2 ⊢;exact fT xs ys zs h1 h2
   ·rw[uf8 e2] at h2 ⊢;exact h2
  ·rw[uf8 e1] at h1
   have l1:x<y:=uf4 h1
   by_cases e2:y=z
   ·subst e2
    rw[uf8 e1];exact h1
   ·rw[uf8 e2] at h2
    have l2:y<z:=uf4 h2
    rw[uf8 (by left)]
    exact uf3 (by left)
theorem iS:∀ xs ys zs,lexI xs zs=true->lexI xs ys=true\/lexI ys zs=true
 | [],[],_,h=>.inr h
 | [],_::_,_,_=>.inl rfl
 | _::_,_,[],h=>by cases h
 | _::_,[],_::_,_=>.inr rfl
 | x::xs,y::ys,z::zs,h=>by
  simp only [lexI] at h ⊢
  by_cases e:x=z
  ·subst e
   rw[uf7 rfl] at h
   by_cases e1:x=y
   ·subst e1
    rw[uf7 rfl,uf7 rfl];exact iS xs ys zs h
   ·rw[uf8 e1,uf8 (Ne.symm e1)]
    by_cases l:x<y
    ·exact .inl (uf3 l)
    ·exact .inr (uf3 (by left))
  ·rw[uf8 e] at h
   have l:x<z:=uf4 h
   by_cases e1:x=y
   ·subst e1
    rw[uf8 e];exact .inr h
   ·by_cases e2:y=z
    ·subst e2
     rw[uf8 e1];exact .inl h
    ·rw[uf8 e1,uf8 e2]
     by_cases l1:x<y
     ·exact .inl (uf3 l1)
     ·exact .inr (uf3 (by left))
theorem mV:∀ xs ys,lexI xs ys=false->lexI ys xs=false->xs=ys
 | [],[],_,_=>rfl
 | [],_::_,h,_=>by cases h
 | _::_,[],_,h=>by cases h
 | x::xs,y::ys,h1,h2=>by
  simp only [lexI] at h1 h2
  by_cases e:x=y
  ·subst e
   rw[uf7 rfl] at h1 h2
   rw[mV xs ys h1 h2]
  ·rw[uf8 e] at h1
   rw[uf8 (Ne.symm e)] at h2
   have:=uf6 h1
   have:=uf6 h2
   exact absurd (by left) e
def TupI (h:Heap)(v:b9)(k:List Int):Prop:=∃ a o its n,v=.ref a/\h.get? a=some o/\o.cls=.type "tuple"/\o.data=.seq its n/\IntsAre its.toList k
theorem TupI.to {h h':Heap}{v:b9}{k:List Int}(t:TupI h v k)(e:∀ b o,h.get? b=some o->h'.get? b=some o):TupI h' v k :=
 let ⟨a,o,its,n,q1,q2,q3⟩:=t
 ⟨a,o,its,n,q1,e _ _ q2,q3⟩
theorem katI {C:Bool->c7->Prop}:∀ {xs ys:List b9}{k k':List Int}(i:Nat),IntsAre xs k->IntsAre ys k'->C (lexI k k') s->KatLex prog w A true (decide (k.length<k'.length)) C (xs.zip ys) i s
 | _,_,_,_,i,.nil,.nil,h=>h
 | _,_,_,_,i,.nil,.cons c u h',h=>by
  rw[List.zip_nil_left]
  refine kat_nil ?_
  rw[uf3 (by simp)]
  exact h
 | _,_,_,_,i,.cons a t h',.nil,h=>by
  rw[List.zip_nil_right]
  refine kat_nil ?_
  rw[uf5 (by simp)]
  exact h
 | _,_,_,_,i,.cons a t (vs:=xs) (ns:=k) h1,.cons c u (vs:=ys) (ns:=k') h2,h=>by
  rw[udd]
  refine kat_cons (wpAny_eqBool_int ?_)
  have ef:decide ((a::k).length<(c::k').length)=decide (k.length<k'.length):=by simp
  have hh:C (if a=c then lexI k k' else decide (a<c)) s:=h
  rw[ef]
  by_cases e:a=c
  ·rw[uf7 e] at hh
   rw[show (a==c)=true by simpa using e]
   exact kat_yes (katI (i+1) h1 h2 hh)
  ·rw[uf8 e] at hh
   rw[show (a==c)=false by simpa using e]
   refine kat_no ?_
   cases hi:(true&&i==0) with
   | true=>exact oneLt_int hh
   | false=>exact kat_one _ _ (lt_int hh)
theorem xY {vs:List b9}{ks:List (List Int)}(hk:Paired (TupI s.heap) vs ks){i j:Nat}{C:Bool->c7->Prop}(hi:i<vs.length)(hj:j<vs.length)(h:C (lexI (ks.getD i []) (ks.getD j [])) s):kas_ask prog w A (tuples' true) vs i j C s:=by
 have at_:∀ {vs:List b9}{ks:List (List Int)}(i:Nat),Paired (TupI s.heap) vs ks->i<vs.length->TupI s.heap (vs.getD i Value.none) (ks.getD i []):=by
  intro vs ks i p
  induction p generalizing i with
  | nil=>intro h;exact absurd h (by simp)
  | cons r t ih =>
   intro h
   cases i with
   | zero=>exact r
   | succ i=>exact ih i (by simpa using h)
 obtain⟨a,o,its,n,e1,q1,q2,q3,q4⟩:=at_ i hk hi
 obtain⟨a',o',its',n',e1',q1',q2',q3',q4'⟩:=at_ j hk hj
 unfold kas_ask
 rw[e1,e1']
 refine kat_lt q1 q3 q1' q3' ?_
 have l1:its.size=(ks.getD i []).length:=by have:=q4.length;simpa using this
 have l2:its'.size=(ks.getD j []).length:=by have:=q4'.length;simpa using this
 rw[l1,l2]
 exact katI 0 q4 q4' h
theorem wK {vs:List b9}{ks:List (List Int)}(hk:Paired (TupI s.heap) vs ks)(hne:∀ k∈ks,k≠[])(h2:2<=vs.length){Q:SortKind->c7->Prop}(h:Q (tuples' true) s):k8 (v5 prog w) A (keyKind' vs.toArray) Q E s:=by
 have mk:∀ {vs:List b9}{ks:List (List Int)},Paired (TupI s.heap) vs ks->(∀ k∈ks,k≠[])->∃ fs:List b9,KatTups s.heap vs fs/\fs.length=vs.length/\∀ f∈fs,∃ n t,f=.int n t:=by
  intro vs ks p
  induction p with
  | nil=>exact λ _=>⟨[],.nil,rfl,λ f hf=>nomatch hf⟩
  | cons r t ih =>
   intro hn
   obtain⟨fs,g1,g2,g3⟩:=ih λ k hk=>hn k (j4 _ hk)
   obtain⟨a,o,its,n,e1,q1,q2,q3,q4⟩:=r
   have hne:=hn _ g9
   subst e1
   cases hz:its.toList with
   | nil=>rw[hz] at q4;cases q4;exact absurd rfl hne
   | cons v r =>
    rw[hz] at q4
    obtain⟨m,tk,ev⟩:=q4.all v g9
    refine⟨v::fs,.cons q1 q2 q3 ?_ g1,by simp [g2],λ f hf=>?_⟩
    ·rw[← Array.getElem?_toList,hz];rfl
    ·rcases h9.mp hf with e | hf
     ·exact⟨m,tk,e.trans ev⟩
     ·exact g3 f hf
 obtain⟨fs,g1,g2,g3⟩:=mk hk hne
 refine kat_kind (T:=.type "int") g1 (by left) (λ v hv=>?_) (by symm) h
 obtain⟨m,tk,rfl⟩:=g3 v hv
 exact Looks.of_pure rfl
theorem yV {vs:List b9}{ns:List Int}(hk:IntsAre vs ns){i j:Nat}{C:Bool->c7->Prop}(hi:i<vs.length)(hj:j<vs.length)(h:C (decide (ns.getD i 0<ns.getD j 0)) s):kas_ask prog w A oneType' vs i j C s:=by
 have at_:∀ {vs:List b9}{ns:List Int}(i:Nat),IntsAre vs ns->i<vs.length->∃ t,vs.getD i Value.none=.int (ns.getD i 0) t:=by
  intro vs ns i p
  induction p generalizing i with
  | nil=>intro h;exact absurd h (by simp)
  | cons n t r ih =>
   intro h
   cases i with
   | zero=>exact⟨t,rfl⟩
   | succ i=>exact ih i (by simpa using h)
 obtain⟨t,e1⟩:=at_ i hk hi
 obtain⟨u,e2⟩:=at_ j hk hj
 unfold kas_ask
 rw[e1,e2]
 exact kat_lt_int h
theorem xE {vs:List b9}{ns:List Int}(hk:IntsAre vs ns)(h2:2<=vs.length){Q:SortKind->c7->Prop}(h:Q oneType' s):k8 (v5 prog w) A (keyKind' vs.toArray) Q E s:=by
 refine kas_kind (T:=.type "int") h2 (λ v hv=>?_) (by symm) (by symm) h
 obtain⟨m,tk,rfl⟩:=hk.all v hv
 exact Looks.of_pure rfl
end
end Srt
namespace Z3
open PySem
section
variable {prog:j9}{w:v9}{A:v7}{E:b9->c7->Prop}{s:c7}
def SqAt (t:Bool)(h:Heap)(l:j8)(xs:Array b9):Prop:=if t=true then h.IsTuple l xs else h.IsList l xs
def ItAt (t:Bool)(h:Heap)(it l:j8)(i:Nat):Prop:=if t=true then h.IsTupleIter it l i else h.IsListIter it l i
def itObj (t:Bool)(l:j8):Obj:=if t=true then { cls:=.type "tuple_iterator",data:=.fields #[.ref l,.int 0 0] } else { cls:=.type "list_iterator",data:=.fields #[.ref l,.int 0 0] }
theorem SqAt.to {t:Bool}{h h':Heap}{l:j8}{xs:Array b9}(x:SqAt t h l xs)(e:∀ o,h.get? l=some o->h'.get? l=some o):SqAt t h' l xs:=by
 cases t with
 | true=>exact Heap.IsTuple.at (show h.IsTuple l xs from x) e
 | false=>exact Heap.IsList.at (show h.IsList l xs from x) e
theorem ItAt.to {t:Bool}{h h':Heap}{it l:j8}{i:Nat}(x:ItAt t h it l i)(e:∀ o,h.get? it=some o->h'.get? it=some o):ItAt t h' it l i:=by
 cases t with
 | true=>exact Heap.IsTupleIter.at (show h.IsTupleIter it l i from x) e
 | false=>exact Heap.IsListIter.at (show h.IsListIter it l i from x) e
theorem ItAt.obj {t:Bool}{h:Heap}{it l:j8}{i:Nat}(x:ItAt t h it l i):∃ o n,h.get? it=some o/\o.cls=.type n/\o.data=.fields #[.ref l,.int i 0]:=by
 cases t with
 | true=>obtain⟨o,a,b,c⟩:=(show h.IsTupleIter it l i from x);exact⟨o,_,a,b,c⟩
 | false=>obtain⟨o,a,b,c⟩:=(show h.IsListIter it l i from x);exact⟨o,_,a,b,c⟩
theorem ItAt.new {t:Bool}{h:Heap}{l:j8}:ItAt t (h.push (itObj t l)) h.objs.size l 0:=by
 cases t with
 | true=>exact⟨_,i8 _ rfl,rfl,rfl⟩
 | false=>exact⟨_,i8 _ rfl,rfl,rfl⟩
theorem fK {t:Bool}{l:j8}{xs:Array b9}{Q:b9->c7->Prop}(hl:SqAt t s.heap l xs)(h:Q (.ref s.heap.objs.size) { s with heap:=s.heap.push (itObj t l) }):k8 (v5 prog w) A (pyIter (.ref l)) Q E s:=by
 cases t with
 | true=>exact ufb hl h
 | false=>exact ucd hl h
theorem xJ {it l:j8}{i:Nat}{xs:Array b9}{x:b9}{Q:b9->c7->Prop}(hi:s.heap.IsTupleIter it l i)(hl:s.heap.IsTuple l xs)(hx:xs[i]?=some x)
  (h:∀ h',h'.IsTupleIter it l (i+1)->Heap.SameBut it s.heap h'->Q x { s with heap:=h' }):k8 (v5 prog w) A (Builtin.SmallTypes.nextOf (.ref it)) Q E s:=by
 obtain⟨o1,q1,q2,q3⟩:=id hi
 obtain⟨o2,q4,_,n2,q5⟩:=hl
 unfold Builtin.SmallTypes.nextOf
 refine a8 (v6 (name:=u6 "__next__") hi.typeIs uca (uaa uca hi.typeIs ufy ?_ (uft _)))
 show k8 _ _ (field (.ref it) 0 >>= _) _ _ s
 refine a8 (p7 q1 q3 (x:=.ref l) rfl ?_)
 show k8 _ _ (if (Value.ref l==Value.none)=true then _ else _) _ _ s
 rw[uf8 (show ¬ ((Value.ref l==Value.none)=true) from i6)]
 show k8 _ _ (field (.ref it) 1 >>= _) _ _ s
 refine a8 (p7 q1 q3 (x:=.int i 0) rfl ?_)
 show k8 _ _ (seqItems? (.ref l) >>= _) _ _ s
 refine a8 (ube q4 q5 ?_)
 simp only [uaq,hx]
 refine a8 (wpAny_setField q1 q3 (by simp) (d3 ⟨x,rfl,d3 (h _ ?_ (ufg ..))⟩))
 exact⟨_,ubc _ q1 (Obj.isFreed_of_fields (Obj.data_mapFields q3 _)),(Obj.cls_mapFields ..).trans q2,by rw[Obj.data_mapFields q3];simp [rawInt]⟩
theorem wM {it l:j8}{i:Nat}{xs:Array b9}{Q:b9->c7->Prop}(hh:A.handled=none)(hi:s.heap.IsTupleIter it l i)(hl:s.heap.IsTuple l xs)(hx:xs[i]?=none)
  (h:∀ h' e,uef it s.heap h'->(∃ o,h'.get? e=some o/\o.cls=.type "StopIteration")->E (.ref e) { s with heap:=h' }):k8 (v5 prog w) A (Builtin.SmallTypes.nextOf (.ref it)) Q E s:=by
 obtain⟨o1,q1,q2,q3⟩:=id hi
 obtain⟨o2,q4,_,n2,q5⟩:=hl
 unfold Builtin.SmallTypes.nextOf
 refine a8 (v6 (name:=u6 "__next__") hi.typeIs uca (uaa uca hi.typeIs ufy ?_ (uft _)))
 show k8 _ _ (field (.ref it) 0 >>= _) _ _ s
 refine a8 (p7 q1 q3 (x:=.ref l) rfl ?_)
 show k8 _ _ (if (Value.ref l==Value.none)=true then _ else _) _ _ s
 rw[uf8 (show ¬ ((Value.ref l==Value.none)=true) from i6)]
 show k8 _ _ (field (.ref it) 1 >>= _) _ _ s
 refine a8 (p7 q1 q3 (x:=.int i 0) rfl ?_)
 show k8 _ _ (seqItems? (.ref l) >>= _) _ _ s
 refine a8 (ube q4 q5 ?_)
 simp only [uaq,hx]
 refine a8 (udh (a8 (wpAny_setField q1 q3 (by simp) ?_)))
 show k8 _ _ (newExc (.type "StopIteration") [] >>= _) _ _ { s with heap:=_ }
 refine a8 (by
  simp only [newExc,newTuple]
  refine a8 (u5 ?_ (by size_fits))
  refine a8 (m:=firstArgMember _ _) (ud6 (a:=Value.none) (by first | rfl | (simp only [firstArgMember];rfl)) ?_)
  refine u5 ?_ (by size_fits)
  simp only [raiseNew]
  refine a8 (wpAny_handled ?_)
  first | rw[show A.in1.handled=none from hh] | rw[hh]
  exact a8 (d3 (wpAny_throw (h _ _ (((ufg ..).extBut.push _).push _) ⟨_,i8 _ rfl,rfl⟩))))
theorem gP {t:Bool}{it l:j8}{i:Nat}{xs:Array b9}{x:b9}{Q:b9->c7->Prop}(hi:ItAt t s.heap it l i)(hl:SqAt t s.heap l xs)(hx:xs[i]?=some x)
  (h:∀ h',ItAt t h' it l (i+1)->Heap.SameBut it s.heap h'->Q x { s with heap:=h' }):k8 (v5 prog w) A (Builtin.SmallTypes.nextOf (.ref it)) Q E s:=by
 cases t with
 | true=>exact xJ hi hl hx h
 | false=>exact wpAny_nextOf_list_item hi hl hx h
theorem jE {t:Bool}{it l:j8}{i:Nat}{xs:Array b9}{Q:b9->c7->Prop}(hh:A.handled=none)(hi:ItAt t s.heap it l i)(hl:SqAt t s.heap l xs)(hx:xs[i]?=none)
  (h:∀ h' e,uef it s.heap h'->(∃ o,h'.get? e=some o/\o.cls=.type "StopIteration")->E (.ref e) { s with heap:=h' }):k8 (v5 prog w) A (Builtin.SmallTypes.nextOf (.ref it)) Q E s:=by
 cases t with
 | true=>exact wM hh hi hl hx h
 | false=>exact wpAny_nextOf_list_end hh hi hl hx h
structure Zd (t1 t2:Bool)(h:Heap)(z TI TO i1 i2 l1 l2:j8)(f0:b9)(k:Nat):Prop where
 z:IsZip h z TI TO f0
 ti:IsPair h TI (.ref i1) (.ref i2)
 to:∃ a b,IsPair h TO a b
 a1:ItAt t1 h i1 l1 k
 a2:ItAt t2 h i2 l2 k
structure Ap (z TI TO i1 i2:j8):Prop where
 n1:TI≠z
 n2:TO≠z
 n3:i1≠z
 n4:i2≠z
 n5:TI≠TO
 n6:TI≠i1
 n7:TI≠i2
 n8:TO≠i1
 n9:TO≠i2
 n10:i1≠i2
def Out (z TI TO i1 i2 l:j8):Prop:=l≠z/\l≠TI/\l≠TO/\l≠i1/\l≠i2
theorem wH {t1 t2:Bool}{z TI TO i1 i2 l1 l2:j8}{k:Nat}{xs ys:Array b9}{x y:b9}{Q:b9->c7->Prop}(D:Ap z TI TO i1 i2)(o1:Out z TI TO i1 i2 l1)(o2:Out z TI TO i1 i2 l2)
  (Z:Zd t1 t2 s.heap z TI TO i1 i2 l1 l2 .none k) (hl1:SqAt t1 s.heap l1 xs) (hl2:SqAt t2 s.heap l2 ys) (hx:xs[k]?=some x) (hy:ys[k]?=some y)
  (hQ:∀ h',Zd t1 t2 h' z TI TO i1 i2 l1 l2 (rawInt s.heap.objs.size) (k+1)->IsPair h' s.heap.objs.size x y->h'.objs.size=s.heap.objs.size+1 ->
   (∀ c o,c≠z->c≠TO->c≠i1->c≠i2->s.heap.get? c=some o->h'.get? c=some o)->Q (.ref s.heap.objs.size) { s with heap:=h' }) :
  k8 (v5 prog w) A (Builtin.«zip.__next__» ⟨[.ref z],[]⟩) (λ fin s'=>∃ v,fin=.done (.ret v)/\Q v s') E s:=by
 obtain⟨hz,hti,⟨a,b,hto⟩,h1,h2⟩:=Z
 show k8 _ _ (field (.ref z) 2 >>= _) _ _ s
 refine a8 (p7 hz rfl (x:=.bool false) rfl ?_)
 show k8 _ _ (field (.ref z) 3 >>= _) _ _ s
 refine a8 (p7 hz rfl (x:=.ref TI) rfl ?_)
 refine a8 (ube hti rfl ?_)
 show k8 _ _ (Builtin.SmallTypes.ownedTupleIsFree (.ref z) >>= _) _ _ s
 refine a8 ?_
 unfold Builtin.SmallTypes.ownedTupleIsFree
 refine a8 (p7 hz rfl (x:=.none) rfl (d3 ?_))
 simp only [if_true]
 refine a8 (udh ?_)
 refine a8 (p7 hz rfl (x:=.ref TO) rfl ?_)
 refine a8 (x8 hz (by simp) λ g1 z1 e1=>?_)
 replace z1:IsZip g1 z TI TO .ellipsis:=z1
 refine a8 ?_
 simp only [List.zipIdx_cons,List.zipIdx_nil,ufk,List.forIn_nil]
 refine a8 (a8 (ufc ?_))
 show k8 _ _ (Builtin.SmallTypes.nextOf (.ref i1) >>= _) _ _ { s with heap:=g1 }
 refine a8 (gP (h1.to λ o e=>e1.extBut _ _ D.n3 e) (hl1.to λ o e=>e1.extBut _ _ o1.1 e) hx λ g2 a2 e2=>d3 ?_)
 have b2:IsPair g2 TO a b:=e2.extBut _ _ D.n8 (e1.extBut _ _ D.n2 hto)
 refine a8 (ube b2 rfl ?_)
 refine a8 (uer b2 λ g3 b3 e3=>?_)
 replace b3:IsPair g3 TO x b:=b3
 refine a8 (uc5 (d3 ?_))
 refine a8 (a8 (ufc ?_))
 show k8 _ _ (Builtin.SmallTypes.nextOf (.ref i2) >>= _) _ _ { s with heap:=g3 }
 refine a8 (gP (h2.to λ o e=>e3.extBut _ _ D.n9.symm (e2.extBut _ _ D.n10.symm (e1.extBut _ _ D.n4 e))) (hl2.to λ o e=>e3.extBut _ _ o2.2.2.1 (e2.extBut _ _ o2.2.2.2.1 (e1.extBut _ _ o2.1 e))) hy λ g4 a4 e4=>d3 ?_)
 have b4:IsPair g4 TO x b:=e4.extBut _ _ D.n9 b3
 refine a8 (ube b4 rfl ?_)
 refine a8 (uer b4 λ g5 b5 e5=>?_)
 replace b5:IsPair g5 TO x y:=b5
 refine a8 (uc5 (d3 (d3 ?_)))
 refine a8 (ube b5 rfl ?_)
 refine a8 (wpAny_newTuple ?_)
 have sz:g5.objs.size=s.heap.objs.size:=by rw[e5.1,e4.1,e3.1,e2.1,e1.1]
 have z5:IsZip g5 z TI TO .ellipsis:=e5.extBut _ _ D.n2.symm (e4.extBut _ _ D.n4.symm (e3.extBut _ _ D.n2.symm (e2.extBut _ _ D.n3.symm z1)))
 have k5:∀ c o,c≠z->c≠TO->c≠i1->c≠i2->s.heap.get? c=some o->g5.get? c=some o:=λ c o c1 c2 c3 c4 e =>
  e5.extBut _ _ c2 (e4.extBut _ _ c4 (e3.extBut _ _ c2 (e2.extBut _ _ c3 (e1.extBut _ _ c1 e))))
 have a15:ItAt t1 g5 i1 l1 (k+1):=a2.to λ o e=>e5.extBut _ _ D.n8.symm (e4.extBut _ _ D.n10 (e3.extBut _ _ D.n8.symm e))
 have a25:ItAt t2 g5 i2 l2 (k+1):=a4.to λ o e=>e5.extBut _ _ D.n9.symm e
 have zlt:z<g5.objs.size:=i7 z5
 show k8 _ _ (Builtin.SmallTypes.ownedTupleHandOut (.ref z) (.ref g5.objs.size) >>= _) _ _ { s with heap:=_ }
 refine a8 ?_
 unfold Builtin.SmallTypes.ownedTupleHandOut
 have z6:IsZip (g5.push { cls:=.type "tuple",data:=.seq #[x,y] }) z TI TO .ellipsis:=b7 _ z5
 refine a8 (x8 z6 (by simp) λ g7 z7 e7=>?_)
 replace z7:IsZip g7 z TI TO (rawInt g5.objs.size):=z7
 refine x8 z7 (by simp) λ g8 z8 e8=>?_
 replace z8:IsZip g8 z TI TO (rawInt g5.objs.size):=z8
 have up:∀ c o,c≠z->g5.get? c=some o->g8.get? c=some o:=λ c o c1 e=>e8.extBut _ _ c1 (e7.extBut _ _ c1 (b7 _ e))
 have t8:IsPair g8 g5.objs.size x y:=e8.extBut _ _ (uc1 zlt) (e7.extBut _ _ (uc1 zlt) (i8 _ rfl))
 have sz8:g8.objs.size=g5.objs.size+1:=by rw[e8.1,e7.1,uao]
 rw[sz] at z8 t8 sz8
 refine d3 ⟨_,rfl,?_⟩
 show Q (.ref g5.objs.size) { s with heap:=g8 }
 rw[sz]
 exact hQ g8 ⟨z8,up _ _ D.n1 (k5 _ _ D.n1 D.n5 D.n6 D.n7 hti),⟨x,y,up _ _ D.n2 b5⟩,a15.to λ o e=>up _ o D.n3 e,a25.to λ o e=>up _ o D.n4 e⟩ t8 sz8 λ c o c1 c2 c3 c4 e=>up c o c1 (k5 c o c1 c2 c3 c4 e)
theorem wG {t1 t2:Bool}{z TI TO i1 i2 l1 l2:j8}{k:Nat}{xs ys:Array b9}{Q:Fin->c7->Prop}(hh:A.handled=none)(D:Ap z TI TO i1 i2)(o1:Out z TI TO i1 i2 l1)(o2:Out z TI TO i1 i2 l2)
  (Z:Zd t1 t2 s.heap z TI TO i1 i2 l1 l2 .none k) (hl1:SqAt t1 s.heap l1 xs) (hl2:SqAt t2 s.heap l2 ys) (hend:xs[k]?=none\/ys[k]?=none)
  (hE:∀ h' e,(∀ c o,c≠z->c≠TO->c≠i1->c≠i2->s.heap.get? c=some o->h'.get? c=some o)->(∃ o,h'.get? e=some o/\o.cls=.type "StopIteration")->E (.ref e) { s with heap:=h' }) :
  k8 (v5 prog w) A (Builtin.«zip.__next__» ⟨[.ref z],[]⟩) Q E s:=by
 obtain⟨hz,hti,⟨a,b,hto⟩,h1,h2⟩:=Z
 show k8 _ _ (field (.ref z) 2 >>= _) _ _ s
 refine a8 (p7 hz rfl (x:=.bool false) rfl ?_)
 show k8 _ _ (field (.ref z) 3 >>= _) _ _ s
 refine a8 (p7 hz rfl (x:=.ref TI) rfl ?_)
 refine a8 (ube hti rfl ?_)
 show k8 _ _ (Builtin.SmallTypes.ownedTupleIsFree (.ref z) >>= _) _ _ s
 refine a8 ?_
 unfold Builtin.SmallTypes.ownedTupleIsFree
 refine a8 (p7 hz rfl (x:=.none) rfl (d3 ?_))
 simp only [if_true]
 refine a8 (udh ?_)
 refine a8 (p7 hz rfl (x:=.ref TO) rfl ?_)
 refine a8 (x8 hz (by simp) λ g1 z1 e1=>?_)
 replace z1:IsZip g1 z TI TO .ellipsis:=z1
 refine a8 ?_
 simp only [List.zipIdx_cons,List.zipIdx_nil,ufk,List.forIn_nil]
 refine a8 (a8 (ufc ?_))
 show k8 _ _ (Builtin.SmallTypes.nextOf (.ref i1) >>= _) _ _ { s with heap:=g1 }
 cases hx:xs[k]? with
 | none =>
  refine a8 (jE hh (h1.to λ o e=>e1.extBut _ _ D.n3 e) (hl1.to λ o e=>e1.extBut _ _ o1.1 e) hx λ g2 e e2 he=>?_)
  obtain⟨oe,p1,p2⟩:=he
  have z2:IsZip g2 z TI TO .ellipsis:=e2 _ _ D.n3.symm z1
  have ez:e≠z:=λ q=>by subst q;rw[z2] at p1;cases p1;simp at p2
  exact x8 z2 (by simp) λ g3 _ e3=>hE g3 e (λ c o c1 _ c3 _ q=>e3.extBut _ _ c1 (e2 _ _ c3 (e1.extBut _ _ c1 q))) ⟨oe,e3.extBut _ _ ez p1,p2⟩
 | some x =>
  have hy:ys[k]?=none:=by
   rcases hend with q | q
   ·rw[hx] at q;cases q
   ·exact q
  refine a8 (gP (h1.to λ o e=>e1.extBut _ _ D.n3 e) (hl1.to λ o e=>e1.extBut _ _ o1.1 e) hx λ g2 a2 e2=>d3 ?_)
  have b2:IsPair g2 TO a b:=e2.extBut _ _ D.n8 (e1.extBut _ _ D.n2 hto)
  refine a8 (ube b2 rfl ?_)
  refine a8 (uer b2 λ g3 b3 e3=>?_)
  refine a8 (uc5 (d3 ?_))
  refine a8 (a8 (ufc ?_))
  show k8 _ _ (Builtin.SmallTypes.nextOf (.ref i2) >>= _) _ _ { s with heap:=g3 }
  refine a8 (jE hh (h2.to λ o e=>e3.extBut _ _ D.n9.symm (e2.extBut _ _ D.n10.symm (e1.extBut _ _ D.n4 e))) (hl2.to λ o e=>e3.extBut _ _ o2.2.2.1 (e2.extBut _ _ o2.2.2.2.1 (e1.extBut _ _ o2.1 e))) hy λ g4 e e4 he=>?_)
  obtain⟨oe,p1,p2⟩:=he
  have z4:IsZip g4 z TI TO .ellipsis:=e4 _ _ D.n4.symm (e3.extBut _ _ D.n2.symm (e2.extBut _ _ D.n3.symm z1))
  have ez:e≠z:=λ q=>by subst q;rw[z4] at p1;cases p1;simp at p2
  exact x8 z4 (by simp) λ g5 _ e5=>hE g5 e (λ c o c1 c2 c3 c4 q=>e5.extBut _ _ c1 (e4 _ _ c4 (e3.extBut _ _ c2 (e2.extBut _ _ c3 (e1.extBut _ _ c1 q))))) ⟨oe,e5.extBut _ _ ez p1,p2⟩
theorem vG {t1 t2:Bool}{z TI TO i1 i2 l1 l2:j8}{k:Nat}{xs ys:Array b9}{x y:b9}{Q:Option b9->c7->Prop}(D:Ap z TI TO i1 i2)(o1:Out z TI TO i1 i2 l1)(o2:Out z TI TO i1 i2 l2)
  (Z:Zd t1 t2 s.heap z TI TO i1 i2 l1 l2 .none k) (hl1:SqAt t1 s.heap l1 xs) (hl2:SqAt t2 s.heap l2 ys) (hx:xs[k]?=some x) (hy:ys[k]?=some y)
  (hQ:∀ h',Zd t1 t2 h' z TI TO i1 i2 l1 l2 (rawInt s.heap.objs.size) (k+1)->IsPair h' s.heap.objs.size x y->h'.objs.size=s.heap.objs.size+1 ->
   (∀ c o,c≠z->c≠TO->c≠i1->c≠i2->s.heap.get? c=some o->h'.get? c=some o)->Q (some (.ref s.heap.objs.size)) { s with heap:=h' }) :
  k8 (v5 prog w) A (pyNext (.ref z)) Q E s:=by
 have hT:s.TypeIs (.ref z) "zip":=⟨_,Z.z,rfl⟩
 unfold pyNext
 exact a8 (uce (v6 (name := u6 "__next__") hT ued (uaa ued hT F.entry_zip_next
     (wH D o1 o2 Z hl1 hl2 hx hy λ h' b1 b2 b3 b4=>d3 (hQ h' b1 b2 b3 b4)) (F.args_zip_next_1 _))))
theorem vF {t1 t2:Bool}{z TI TO i1 i2 l1 l2:j8}{k:Nat}{xs ys:Array b9}{Q:Option b9->c7->Prop}(hh:A.handled=none)(D:Ap z TI TO i1 i2)(o1:Out z TI TO i1 i2 l1)(o2:Out z TI TO i1 i2 l2)
  (Z:Zd t1 t2 s.heap z TI TO i1 i2 l1 l2 .none k) (hl1:SqAt t1 s.heap l1 xs) (hl2:SqAt t2 s.heap l2 ys) (hend:xs[k]?=none\/ys[k]?=none)
  (hQ:∀ h',(∀ c o,c≠z->c≠TO->c≠i1->c≠i2->s.heap.get? c=some o->h'.get? c=some o)->Q none { s with heap:=h' }):k8 (v5 prog w) A (pyNext (.ref z)) Q E s:=by
 have hT:s.TypeIs (.ref z) "zip":=⟨_,Z.z,rfl⟩
 unfold pyNext
 refine a8 (uce (v6 (name := u6 "__next__") hT ued (uaa ued hT F.entry_zip_next
     (wG hh D o1 o2 Z hl1 hl2 hend λ h' e hk he=>?_) (F.args_zip_next_1 _))))
 obtain⟨o,p1,p2⟩:=he
 exact a8 (uea (T:="StopIteration") (b:=true) ⟨o,p1,p2⟩ isSubtype_stop (d3 (hQ _ hk)))
abbrev zh1 (h:Heap)(t1:Bool)(l1:j8):Heap:=h.push (itObj t1 l1)
abbrev zh2 (h:Heap)(t1 t2:Bool)(l1 l2:j8):Heap:=(zh1 h t1 l1).push (itObj t2 l2)
abbrev zh3 (h:Heap)(t1 t2:Bool)(l1 l2:j8):Heap:=(zh2 h t1 t2 l1 l2).push { cls:=.type "tuple",data:=.seq #[.ref h.objs.size,.ref (zh1 h t1 l1).objs.size] }
abbrev zh4 (h:Heap)(t1 t2:Bool)(l1 l2:j8):Heap:=(zh3 h t1 t2 l1 l2).push { cls:=.type "tuple",data:=.seq #[.none,.none] }
abbrev zh5 (h:Heap)(t1 t2:Bool)(l1 l2:j8):Heap:=(zh4 h t1 t2 l1 l2).push { cls:=.type "zip",data:=.fields #[.none,.bool false,.bool false,.ref (zh2 h t1 t2 l1 l2).objs.size,.ref (zh3 h t1 t2 l1 l2).objs.size] }
theorem xU (t1 t2:Bool)(l1 l2:j8)(xs ys:Array b9) :
  Meets (Builtin.«zip.__new__» ⟨[.type "zip",.ref l1,.ref l2],[]⟩) (λ _ R s=>SqAt t1 s.heap l1 xs/\SqAt t2 s.heap l2 ys/\R (.ok (.ret (.ref (zh4 s.heap t1 t2 l1 l2).objs.size))) { s with heap:=zh5 s.heap t1 t2 l1 l2 }) :=
 .of_wp λ prog w A R s h=>by
  obtain⟨hp,g,d,tk,os⟩:=s;obtain⟨hl1,hl2,h⟩:=h
  have hsub:=sub_zip
  have b1:SqAt t1 (Shared.heap ⟨hp,g,d,tk,os⟩) l1 xs:=hl1
  have b2:SqAt t2 (Shared.heap ⟨hp.push (itObj t1 l1),g,d,tk,os⟩) l2 ys:=SqAt.to hl2 λ o e=>b7 _ e
  wp_walk using fK b1,fK b2
  exact⟨_,rfl,h⟩
theorem xO {t1 t2:Bool}{l1 l2:j8}{xs ys:Array b9}{Q:b9->c7->Prop}(hl1:SqAt t1 s.heap l1 xs)(hl2:SqAt t2 s.heap l2 ys)
  (h:∀ h',Zd t1 t2 h' (s.heap.objs.size+4) (s.heap.objs.size+2) (s.heap.objs.size+3) s.heap.objs.size (s.heap.objs.size+1) l1 l2 .none 0->h'.objs.size=s.heap.objs.size+5 ->
   (∀ c o,s.heap.get? c=some o->h'.get? c=some o)->Q (.ref (s.heap.objs.size+4)) { s with heap:=h' }) :
  k8 (v5 prog w) A (call (.type "zip") [.ref l1,.ref l2]) Q E s:=by
 refine ufq F.called_zip (by decide) (F.typeCall_zip_2 _ _) (F.newCall_zip_2 _ _) (λ obj=>F.args_object_init_3 obj _ _) F.entry_zip_new (xU t1 t2 l1 l2 xs ys) ⟨hl1,hl2,?_⟩
 have z1:(zh1 s.heap t1 l1).objs.size=s.heap.objs.size+1:=uao ..
 have z2:(zh2 s.heap t1 t2 l1 l2).objs.size=s.heap.objs.size+2:=by rw[uao,z1]
 have z3:(zh3 s.heap t1 t2 l1 l2).objs.size=s.heap.objs.size+3:=by rw[uao,z2]
 have z4:(zh4 s.heap t1 t2 l1 l2).objs.size=s.heap.objs.size+4:=by rw[uao,z3]
 have z5:(zh5 s.heap t1 t2 l1 l2).objs.size=s.heap.objs.size+5:=by rw[uao,z4]
 have g5:(zh5 s.heap t1 t2 l1 l2).get? (zh4 s.heap t1 t2 l1 l2).objs.size=some _:=i8 _ rfl
 have g4:(zh5 s.heap t1 t2 l1 l2).get? (zh3 s.heap t1 t2 l1 l2).objs.size=some _:=b7 _ (i8 _ rfl)
 have g3:(zh5 s.heap t1 t2 l1 l2).get? (zh2 s.heap t1 t2 l1 l2).objs.size=some _:=b7 _ (b7 _ (i8 _ rfl))
 have g2:ItAt t2 (zh5 s.heap t1 t2 l1 l2) (zh1 s.heap t1 l1).objs.size l2 0:=(ItAt.new (t:=t2) (h:=zh1 s.heap t1 l1) (l:=l2)).to λ o e=>b7 _ (b7 _ (b7 _ e))
 have g1:ItAt t1 (zh5 s.heap t1 t2 l1 l2) s.heap.objs.size l1 0:=(ItAt.new (t:=t1) (h:=s.heap) (l:=l1)).to λ o e=>b7 _ (b7 _ (b7 _ (b7 _ e)))
 show _/\_
 rw[z2,z3,z4] at g5
 rw[z1,z2] at g3
 rw[z3] at g4
 rw[z1] at g2
 rw[z4]
 exact⟨⟨_,g5,rfl⟩,h _ ⟨g5,g3,⟨_,_,g4⟩,g1,g2⟩ z5 λ c o q=>b7 _ (b7 _ (b7 _ (b7 _ (b7 _ q))))⟩
theorem zac (n:Nat):Ap (n+4) (n+2) (n+3) n (n+1):=by
 constructor <;> (show (_:Nat)≠(_:Nat)) <;> left
theorem nZ {n l:Nat}(h:l<n):Out (n+4) (n+2) (n+3) n (n+1) l:=by
 refine⟨?_,?_,?_,?_,?_⟩ <;> (show (_:Nat)≠(_:Nat)) <;> left
end
end Z3
namespace U3
open PySem PyProof.Rows
section
variable {prog:j9}{w:v9}{A:v7}{E:b9->c7->Prop}{s:c7}
theorem nB {it l:j8}{xs:Array b9}(hne:l≠it):∀ (n i:Nat)(s:c7)(Q:List b9->c7->Prop),s.heap.IsListIter it l i->s.heap.IsList l xs->i+n<=xs.size ->
  (∀ h',h'.IsListIter it l (i+n)->Heap.SameBut it s.heap h'->Q ((xs.toList.drop i).take n) { s with heap:=h' })->k8 (v5 prog w) A (draw (.ref it) n) Q E s
 | 0,i,s,Q,hi,_,_,h=>by
  show k8 _ _ (pure []) Q E s
  exact d3 (by simpa using h s.heap hi (Heap.SameBut.refl ..))
 | n+1,i,s,Q,hi,hl,hle,h=>by
  have lt:i<xs.size:=by left
  show k8 _ _ (pyNext (.ref it) >>= _) Q E s
  refine a8 (wpAny_pyNext_list_item hi hl (x:=xs[i]) (by simp [lt]) λ g1 i1 e1=>?_)
  refine a8 (uah (nB hne n (i+1) _ _ i1 (hl.extBut e1.extBut hne) (by left) λ g2 i2 e2=>d3 ?_))
  have hd:xs.toList.drop i=xs[i]::xs.toList.drop (i+1):=by simp [ucc,lt]
  have q:=h g2 (by rw[show i+(n+1)=i+1+n by left];exact i2) (e1.trans e2)
  rw[hd,List.take_succ_cons] at q
  exact q
theorem tN {l:j8}{xs:Array b9}{targets:List (Bool × (b9->Sem Unit))}{Q:Unit->c7->Prop}(hh:A.handled=none)(hl:s.heap.IsList l xs)
  (hn:targets.length=xs.size) (hs:targets.findIdx? (·.1)=none)
  (h:∀ h',uef s.heap.objs.size s.heap h'->k8 (v5 prog w) A (assignInOrder (targets.map (·.2)) xs.toList) Q E { s with heap:=h' }) :
  k8 (v5 prog w) A (unpack (.ref l) targets) Q E s:=by
 have ne:l≠s.heap.objs.size:=by obtain⟨o,ho,_⟩:=hl;exact l9 (i7 ho)
 unfold unpack
 rw[hn,hs]
 refine a8 (uah ?_)
 unfold unpackItems
 refine a8 ?_
 unfold notIterableAtAll
 refine a8 (ueh hl.typeIs slot_list_iter.lookup ?_)
 refine d3 ?_
 simp only [ua2,if_false]
 refine a8 (uah (ucd hl ?_))
 refine a8 (uah (nB ne xs.size 0 _ _ ⟨_,i8 _ rfl,rfl,rfl⟩ (hl.push _) (by left) λ g1 i1 e1=>?_))
 have all:List.take xs.size (List.drop 0 xs.toList)=xs.toList:=by
  rw[ubu];exact ua7 (by simp)
 rw[all,uf8 (by simp)]
 have l1:g1.IsList l xs:=(hl.push _).extBut e1.extBut ne
 refine a8 (uah (wpAny_pyNext_list_end hh i1 l1 (by simp) λ g2 e2=>?_))
 simp only [Option.isSome_none,ua2,if_false]
 exact d3 (h g2 λ b o hb e=>e2 b o hb (e1.extBut b o hb (b7 _ e)))
theorem assign_tuple_lst {env:Env}{elts:List ubv} {x1} {pos:Pos} {l:j8} {xs:Array b9} {Q:Unit->c7->Prop} (hh:A.handled=none) (hl:s.heap.IsList l xs)
  (hn:(assignEach elts env).length=xs.size) (hs:(assignEach elts env).findIdx? (·.1)=none)
  (h:∀ h',uef s.heap.objs.size s.heap h'->k8 (v5 prog w) A (assignInOrder ((assignEach elts env).map (·.2)) xs.toList) Q E { s with heap:=h' }) :
  k8 (v5 prog w) A (assign (.Tuple elts x1 pos) env (.ref l)) Q E s:=by
 rw[assign_Tuple]
 exact a8 (ufa (tN hh hl hn hs h))
end
end U3
namespace L3
open PySem PySem.Spec PyProof.Rows L2
abbrev Fls:b9->c7->Prop:=λ _ _=>False
abbrev testsOf (ifs:List ubv)(env:Env):Sem Bool :=
 forIn ifs true λ c r=>if r=true then do let ok ← isTrue c env (eval c env);pure (ForInStep.yield ok) else pure (ForInStep.yield r)
section
variable {prog:j9}{w:v9}{A:v7}{R:Result->c7->Prop}{s:c7}
theorem uB {elt tg iter:ubv}{ifs:List ubv}{scope:Scope}{pos:Pos}{it acc:b9}{env:Env}(W:Nat->c7->Prop)
  (step:∀ n s,W n s->k8 (v5 prog w) A (pyNext it) (λ r s1=>(r=none/\R (.ok .next) s1)\/∃ v,r=some v /\
   k8 (v5 prog w) A (letOwnedTupleGo tg it v) (λ _ s2=>k8 (v5 prog w) A (assign tg env v) (λ _ s3 =>
    k8 (v5 prog w) A (testsOf ifs env) (λ ok s4=>if ok=true then k8 (v5 prog w) A (eval elt env) (λ x s5 =>
     k8 (v5 prog w) A (call (.builtin "list.append") [acc,x]) (λ _ s6=>∃ m,m<n/\W m s6) Fls s5) Fls s4 else ∃ m,m<n/\W m s4) Fls s3) Fls s2) Fls s1) Fls s)
  (n:Nat) (h:W n s):codeAny (v5 prog w) A (.compLoop (.ListComp elt [⟨tg,iter,ifs,0⟩] scope pos) 0 it acc env) R s:=by
 refine codeAny_loop rfl W (λ k s1 hk=>?_) n h
 show k8 _ A ((compTurn (.ListComp elt [⟨tg,iter,ifs,0⟩] scope pos) 0 it acc env).onRaise (λ x=>do noteFrame x env;theTreesLotGoes x)) _ _ s1
 refine wpAny_noted ?_
 rw[compTurn_list]
 refine a8 (ufa (a8 (ubx (step k s1 hk) (λ r s2 h2=>?_) λ _ _ z=>z.elim)))
 rcases h2 with ⟨rfl,h2⟩ | ⟨v,rfl,h2⟩
 ·exact d3 h2
 ·refine a8 (ubx h2 (λ _ s3 h3=>?_) λ _ _ z=>z.elim)
  refine a8 (ubx h3 (λ _ s4 h4=>?_) λ _ _ z=>z.elim)
  refine a8 (ubx h4 (λ ok s5 h5=>?_) λ _ _ z=>z.elim)
  cases ok with
  | false=>exact d3 ⟨rfl,h5⟩
  | true =>
   refine a8 (a8 (ubx h5 (λ x s6 h6=>?_) λ _ _ z=>z.elim))
   refine a8 (ubx h6 (λ _ s7 h7=>?_) λ _ _ z=>z.elim)
   exact d3 (d3 ⟨rfl,h7⟩)
end
def clOf (cells:List (Str × j8)):List (Str × NameKind)->List (Str × j8)->List (Str × j8)
 | [],cs=>cs
 | (n,k)::r,cs=>clOf cells r (if k=.free then (n,(cells.lookup n).getD 0)::cs else cs)
theorem nF {cells:List (Str × j8)}:∀ {names:List (Str × NameKind)}{cs:List (Str × j8)}{p:Str × j8},p∈clOf cells names cs->p∈cs\/((p.1,NameKind.free)∈names/\p.2=(cells.lookup p.1).getD 0)
 | [],_,_,h=>.inl h
 | (n,k)::r,cs,p,h=>by
  rcases nF (names:=r) h with q | ⟨q1,q2⟩
  ·by_cases hk:k=.free
   ·rw[uf7 hk] at q
    rcases h9.mp q with e | q
    ·subst e;subst hk;exact .inr ⟨g9,rfl⟩
    ·exact .inl q
   ·rw[uf8 hk] at q;exact .inl q
  ·exact .inr ⟨j4 _ q1,q2⟩
theorem nG {cells:List (Str × j8)}:∀ {names:List (Str × NameKind)}{cs:List (Str × j8)}{x:Str},((x,NameKind.free)∈names\/∃ c,(x,c)∈cs)->∃ c,(x,c)∈clOf cells names cs
 | [],_,_,h=>h.elim (λ z=>nomatch z) id
 | (n,k)::r,cs,x,h=>by
  refine nG (names:=r) ?_
  rcases h with h | ⟨c,h⟩
  ·rcases h9.mp h with e | h
   ·cases e
    exact .inr ⟨_,by rw[uf7 rfl];exact g9⟩
   ·exact .inl h
  ·refine .inr ⟨c,?_⟩
   split
   ·exact j4 _ h
   ·exact h
theorem iE {env:Env}:∀ (names:List (Str × NameKind))(cs:List (Str × j8)),(∀ y∈names,y.2=.free->∃ c,env.cells.lookup y.1=some c) ->
  (forIn names cs λ x r=>(match x with | (n,k)=>if (k==NameKind.free)=true then do let c ← cellOf env n;pure (ForInStep.yield ((n,c)::r)) else pure (ForInStep.yield r):Sem (ForInStep (List (Str × j8)))))=pure (clOf env.cells names cs)
 | [],cs,_=>rfl
 | (n,k)::r,cs,h=>by
  rw[ufk]
  by_cases hk:k=.free
  ·subst hk
   obtain⟨c,hc⟩:=h (n,.free) g9 rfl
   have e1:cellOf env n=pure c:=by unfold cellOf;rw[hc]
   have e2:clOf env.cells ((n,NameKind.free)::r) cs=clOf env.cells r ((n,c)::cs):=by
    show clOf env.cells r (if NameKind.free=NameKind.free then (n,(env.cells.lookup n).getD 0)::cs else cs)=_
    rw[uf7 rfl,hc]
    rfl
   rw[e2,← iE r ((n,c)::cs) λ y hy=>h y (j4 _ hy)]
   simp only [beq_self_eq_true,if_true,e1,pure_bind]
  ·have e2:clOf env.cells ((n,k)::r) cs=clOf env.cells r cs:=by
    show clOf env.cells r (if k=NameKind.free then _ else cs)=_
    rw[uf8 hk]
   have hb:(k==NameKind.free)=false:=by simpa using hk
   rw[e2,← iE r cs λ y hy=>h y (j4 _ hy)]
   simp only [hb,ua2,if_false,pure_bind]
theorem uE {scope:Scope}{env:Env}(h:∀ y∈scope.names,y.2=.free->∃ c,env.cells.lookup y.1=some c):closureFor scope env=pure (clOf env.cells scope.names []):=by
 have q:=iE (env:=env) scope.names [] h
 unfold closureFor
 refine Eq.trans ?_ q
 first | rfl | simp
theorem kA {env:Env}:∀ {names:List (Str × NameKind)}{x:Str},names.lookup x=some .free ->
  (names.map λ (n,k)=>if (k==NameKind.free&&env.scope.kind==.function&&env.kindOf n==some .cell) then (n,NameKind.cell) else (n,k)).lookup x=some .cell \/
  (names.map λ (n,k)=>if (k==NameKind.free&&env.scope.kind==.function&&env.kindOf n==some .cell) then (n,NameKind.cell) else (n,k)).lookup x=some .free
 | [],_,h=>by simp at h
 | (n,k)::r,x,h=>by
  have ih:=@kA env r x
  rw[ua1]
  by_cases hx:(x==n)=true
  ·rw[ua6,hx] at h
   have h':k=.free:=by simpa using h
   subst h'
   dsimp only
   split
   ·apply j7;rw[ua6,hx]
   ·apply ueu;rw[ua6,hx]
  ·have hx':(x==n)=false:=by simpa using hx
   rw[ua6,hx'] at h
   dsimp only
   split
   ·rw[ua6,hx'];exact ih h
   ·rw[ua6,hx'];exact ih h
theorem kP {env:Env}:∀ {names:List (Str × NameKind)}{x:Str},(∀ y∈names,y.2≠.cell) ->
  ((names.map λ (n,k)=>if (k==NameKind.free&&env.scope.kind==.function&&env.kindOf n==some .cell) then (n,NameKind.cell) else (n,k)).lookup x=some .cell \/
  (names.map λ (n,k)=>if (k==NameKind.free&&env.scope.kind==.function&&env.kindOf n==some .cell) then (n,NameKind.cell) else (n,k)).lookup x=some .free)->(x,NameKind.free)∈names
 | [],_,_,h=>by simp at h
 | (n,k)::r,x,hc,h=>by
  rw[ua1] at h
  by_cases hx:(x==n)=true
  ·have e:x=n:=by simpa using hx
   subst e
   dsimp only at h
   by_cases hk:(k==NameKind.free&&env.scope.kind==.function&&env.kindOf x==some .cell)=true
   ·rw[uf7 hk] at h
    have:k=.free:=by
     simp only [r6] at hk
     simpa using hk.1.1
    subst this
    exact g9
   ·rw[uf8 hk,ua6,hx] at h
    rcases h with h | h
    ·exact absurd (by simpa using h) (hc (x,k) g9)
    ·have:k=.free:=by simpa using h
     subst this
     exact g9
  ·have hx':(x==n)=false:=by simpa using hx
   refine j4 _ (kP (env:=env) (λ y hy=>hc y (j4 _ hy)) ?_)
   dsimp only at h
   split at h
   ·rw[ua6,hx'] at h;exact h
   ·rw[ua6,hx'] at h;exact h
def compOk (N:List Str)(sc0 scope:Scope)(fr:List Str)(js:List Nat):Bool :=
 decide (scope.kind=.function)&&(scope.names.all λ y=>decide (y.2≠.cell)&&(decide (y.2≠.free)||decide (sc0.names.lookup y.1=some .cell)||decide (sc0.names.lookup y.1=some .free)) &&
  (decide (y.2≠.local)||decide (scope.names.lookup y.1=some .local)))&&decide (fr.length=js.length) &&
 ((fr.zip js).all λ p=>decide (N[p.2]?=some p.1)&&decide (scope.names.lookup p.1=some .free)&&(decide (sc0.names.lookup p.1=some .cell)||decide (sc0.names.lookup p.1=some .free)))
def cxComp (X:Cx)(own fr:List Str)(scope:Scope)(fp:List j8)(pins:List (j8 × Obj))(s3:c7)(H3:Hp):Cx :=
 { X with N:=own++fr,s₀:=s3,H₀:=H3,env:=compEnvC scope (clOf X.env.cells scope.names []) s3.heap.objs.size X.env,outer:=X.stack,stack:=X.stack,ex:=fp,fn:=λ _=>false,pn:=X.pn++pins,xe:=Fls }
def PTs (X:Cx)(ifs:List ubv)(t:TT):Prop :=
 ∀ (pins:List (j8 × Obj))(s:c7)(σ:L2.St)(H:Hp)(Q:Bool->Hp->Prop),Inv X pins σ H s->t σ H Q->k8 (v5 X.prog X.w) X.A (testsOf ifs X.env) (TP X pins σ Q) X.xe s
def tTrue:TT:=λ _ H Q=>Q true H
theorem cP {X:Cx}:PTs X [] tTrue:=λ _ _ _ H _ I h=>wpAny_tests_nil ⟨H,I,h⟩
theorem dQ {X:Cx}{c:ubv}{t:TT}(h:PT X c t):PTs X [c] t:=λ pins s σ H Q I q=>wpAny_tests_one (h pins s σ H Q I q)
def start3 (own:List Str)(js:List Nat)(σ:L2.St):L2.St:=j6 own.length none++js.map λ j=>(σ[j]?).join
def CompGo (own:List Str)(js:List Nat)(g:TG)(tt:TT)(te:TE)(σ:L2.St)(Q:VK)(J:It)(H1:Hp):Prop:=∀ D,H1 D=none->∃ W:Nat->Nat->List V->L2.St->Hp->Prop,
 (∃ m,W 0 m [] (start3 own js σ) (upd H1 D (.lst [])))/\∀ i m ys σ' H',W i m ys σ' H'->H' D=some (.lst ys) ->
  (J.stop i H'/\Q (.ref D) H')\/(J.go i H'/\∀ x H2,J.yld i H' x H2->g x σ' H2 λ σ3 H3=>tt σ3 H3 λ b H4 =>
   if b=true then te σ3 H4 λ v H5=>H5 D=some (.lst ys)/\ys.length<m3/\∃ m',m'<m/\W (i+1) m' (ys++[v]) σ3 (upd H5 D (.lst (ys++[v])))
   else H4 D=some (.lst ys)/\∃ m',m'<m/\W (i+1) m' ys σ3 H4)
def tComp (own:List Str)(js:List Nat)(wi:TI)(g:TG)(tt:TT)(te:TE):TE:=λ σ H Q=>wi σ H λ J H1=>CompGo own js g tt te σ Q J H1
section
variable {X:Cx}{elt tg iter:ubv}{ifs:List ubv}{scope sc0:Scope}{pos:Pos}{own fr N:List Str}{js:List Nat}{wi:TI}{g:TG}{tt:TT}{te:TE}
theorem vO {σ:L2.St}{js:List Nat}{k:Nat}{v:V}(e:(js.map λ j=>(σ[j]?).join)[k]?=some (some v)):∃ j,js[k]?=some j/\σ[j]?=some (some v):=by
 rw[j3] at e
 cases hj:js[k]? with
 | none=>rw[hj] at e;cases e
 | some j =>
  rw[hj] at e
  refine⟨j,rfl,?_⟩
  have e':(σ[j]?).join=some v:=by simpa using e
  cases hs:σ[j]? with
  | none=>rw[hs] at e';cases e'
  | some o=>rw[hs] at e';exact congrArg some e'
theorem xD {pins:List (j8 × Obj)}{σ:L2.St}{H3:Hp}{s3:c7}{fp:List j8}{h4:Heap}{t4:Nat}{m4:Str->Option b9}
  (hN:X.N=N) (hsc:X.env.scope=sc0) (hok:compOk N sc0 scope fr js=true) (I:Inv X pins σ H3 s3) (hf:∀ b∈fp,FpOk X pins H3 b) (hlt:∀ b∈fp,b<s3.heap.objs.size)
  (k:∀ b o,s3.heap.get? b=some o->h4.get? b=some o) (hns:h4.Ns s3.heap.objs.size m4):Inv (cxComp X own fr scope fp pins s3 H3) [] (start3 own js σ) H3 { s3 with heap:=h4,toks:=t4 }:=by
 subst hN hsc
 unfold compOk at hok
 simp only [r6,decide_eq_true_eq,uc4] at hok
 obtain⟨⟨⟨hk,hall⟩,hlen⟩,hfr⟩:=hok
 have hfree:∀ y∈scope.names,y.2=.free->∃ c,X.env.cells.lookup y.1=some c:=λ y hy e=>by
  have q:=(hall y hy).1.2
  simp only [ufl,decide_eq_true_eq] at q
  rcases q with (q | q) | q
  ·exact absurd e q
  ·exact I.ok.has y.1 (.inl q)
  ·exact I.ok.has y.1 (.inr q)
 have hcl:∀ x c,(clOf X.env.cells scope.names []).lookup x=some c->X.env.cells.lookup x=some c:=λ x c e=>by
  rcases nF (ubg e) with z | ⟨z1,z2⟩
  ·exact absurd z (by simp)
  ·obtain⟨c',hc'⟩:=hfree _ z1 rfl
   have hc'':X.env.cells.lookup x=some c':=hc'
   have z2':c=(X.env.cells.lookup x).getD 0:=z2
   rw[hc''] at z2' ⊢
   simp at z2'
   rw[z2']
 have hasC:∀ x,(x,NameKind.free)∈scope.names->∃ c,(clOf X.env.cells scope.names []).lookup x=some c:=λ x hx=>by
  obtain⟨c,hc⟩:=nG (cells:=X.env.cells) (cs:=[]) (.inl hx)
  cases q:(clOf X.env.cells scope.names []).lookup x with
  | some c'=>exact⟨c',rfl⟩
  | none =>
   have:∀ (l:List (Str × j8)),(x,c)∈l->l.lookup x≠none:=λ l=>by
    induction l with
    | nil=>intro z;cases z
    | cons p r ih =>
     intro z
     obtain⟨p1,p2⟩:=p
     rw[ua6]
     rcases h9.mp z with z | z
     ·cases z
      simp
     ·split
      ·simp
      ·exact ih z
   exact absurd q (this _ hc)
 have hcell:∀ y∈scope.names,y.2≠.cell:=λ y hy=>(hall y hy).1.1
 have sz:X.base.objs.size<=s3.heap.objs.size:=o8 I.ok.bsz I.sz
 refine⟨⟨I.ok.mod,hk,I.ok.glob,I.ok.blt,c8 _,λ x y c e1 e2=>I.ok.inj x y c (hcl x c e1) (hcl y c e2),λ x hx=>hasC x (kP hcell hx),λ x c z=>absurd z (by simp [cxComp]),
  I.ok.hd,I.ok.frames,.inl rfl,λ b hb=>⟨l9 (hlt b hb),λ x c e=>(hf b hb).2.2.2.2.1 x c (hcl x c e)⟩,I.bs,sz,λ b o e hb=>?_,λ b hb z=>?_,I.stack,I.stkFree⟩,
  rfl,I.bare,Un.kept k,⟨m4,hns,λ i x v e1 e2 e3=>?_⟩,λ x c e=>?_,I.hok.fresh (c8 _),λ x c e=>I.freeC x c (hcl x c e),λ p hp=>?_,I.hok.kept k,?_⟩
 ·obtain⟨_,_,_,f3,_⟩:=hf b hb
  rcases f3 with f3 | f3
  ·exact I.ok.noex b o e f3
  ·exact absurd (m8 (i7 e) (o8 I.ok.bsz f3)) (uap _)
 ·obtain⟨_,f1,f2,_⟩:=hf b hb
  rcases h9.mp (I.stkSub b z) with z | z
  ·exact f1 z
  ·exact f2 z
 ·have e2':(j6 own.length (none:Option V)++js.map λ j=>(σ[j]?).join)[i]?=some (some v):=e2
  have e1':(own++fr)[i]?=some x:=e1
  by_cases hi:i<own.length
  ·rw[uab (by simpa using hi),ucp,uf7 hi] at e2'
   cases e2'
  ·rw[x9 (by simpa using hi),m5] at e2'
   rw[x9 (by left)] at e1'
   obtain⟨j,hj,hv⟩:=vO e2'
   have hz:(fr.zip js)[i-own.length]?=some (x,j):=by
    rw[List.getElem?_zip_eq_some]
    exact⟨e1',hj⟩
   have q:=hfr _ (i9 hz)
   obtain⟨⟨q1,q2⟩,q3⟩:=q
   have q3'':X.env.scope.names.lookup x=some .cell\/X.env.scope.names.lookup x=some .free:=by simpa using q3
   have q3':X.env.kindOf x=some .cell\/X.env.kindOf x=some .free:=q3''
   obtain⟨m,hn,hl⟩:=I.loc
   obtain⟨u,r,l⟩:=hl j x v q1 hv (q3'.elim (λ z=>.inr (.inl z)) λ z=>.inr (.inr z))
   refine⟨u,r,.inr ⟨kA q2,?_⟩⟩
   rcases l with ⟨z,_⟩ | ⟨_,c,hc,hcellv⟩
   ·rcases q3' with w | w <;> (rw[z] at w;cases w)
   ·obtain⟨c',hc'⟩:=hasC x (ubg q2)
    have e:=hcl x c' hc'
    rw[hc] at e
    cases e
    obtain⟨o,ho,hd⟩:=hcellv
    exact⟨c,hc',o,k c o ho,hd⟩
 ·obtain⟨v,o,ho,hd⟩:=I.cell x c (hcl x c e)
  exact⟨v,o,k c o ho,hd⟩
 ·have hp':p∈X.pn++pins:=by
   have:p∈(X.pn++pins)++([]:List (j8 × Obj)):=hp
   simpa using this
  obtain⟨a,b,c,d,f⟩:=I.pin p hp'
  refine⟨k _ _ a,b,l9 (i7 a),λ z=>?_,f⟩
  rcases h9.mp (I.stkSub p.1 z) with z | z
  ·exact c z
  ·exact d z
 ·show (j6 own.length (none:Option V)++js.map λ j=>(σ[j]?).join).length=(own++fr).length
  simp [hlen]
theorem lS {pins:List (j8 × Obj)}{s:c7}{σ:L2.St}{H:Hp}{Q:VK}{use:Option (b9->Sem Unit)}{Qo:b9->c7->Prop}{cpos:Pos}
  (hc:X.calm=true) (hi:PI X tg iter wi) (hg:∀ fp pins s3 H3,PG (cxComp X own fr scope fp pins s3 H3) tg g) (ht:∀ fp pins s3 H3,PTs (cxComp X own fr scope fp pins s3 H3) ifs tt)
  (he:∀ fp pins s3 H3,PE (cxComp X own fr scope fp pins s3 H3) elt te) (hok:compOk N sc0 scope fr js=true) (hN:X.N=N) (hsc:X.env.scope=sc0)
  (hs:∀ x,foldedSetIterable iter X.env x=pure x) (I:Inv X pins σ H s) (h:tComp own js wi g tt te σ H Q)
  (fin:∀ (C D:j8)(s6:c7)(H6:Hp)(m6:Str->Option b9),Inv X pins σ H6 s6->FpOk X pins H6 C->s6.heap.Ns C m6->Q (.ref D) H6->compPost (v5 X.prog X.w) X.A X.xe use Qo (.ref D) C (.ok .next) s6) :
  k8 (v5 X.prog X.w) X.A (comprehension (.ListComp elt [⟨tg,iter,ifs,0⟩] scope pos) scope X.env cpos (newList []) false (eval iter X.env) use) Qo X.xe s:=by
 have hok':=hok
 unfold compOk at hok'
 simp only [r6,decide_eq_true_eq,uc4] at hok'
 obtain⟨⟨⟨hk,hall⟩,hlen⟩,hfr⟩:=hok'
 have hcell:∀ y∈scope.names,y.2≠.cell:=λ y hy=>(hall y hy).1.1
 have hloc:∀ y∈scope.names,y.2=.local->scope.names.lookup y.1=some .local:=λ y hy e=>by
  have q:=(hall y hy).2
  simp only [ufl,decide_eq_true_eq] at q
  rcases q with q | q
  ·exact absurd e q
  ·exact q
 have hfree:∀ y∈scope.names,y.2=.free->∃ c,X.env.cells.lookup y.1=some c:=λ y hy e=>by
  have q:=(hall y hy).1.2
  simp only [ufl,decide_eq_true_eq] at q
  rw[← hsc] at q
  rcases q with (q | q) | q
  ·exact absurd e q
  ·exact I.ok.has y.1 (.inl q)
  ·exact I.ok.has y.1 (.inr q)
 refine wpAny_comprehension_free (use:=use) rfl hs (uE hfree) hk hloc (thn (hi pins s σ H _ I h) λ v s1 h1=>thn h1 λ itv s2 h2=>?_)
 obtain⟨it,fp,tn,J,H2,e,I2,T,st2,f2,rd⟩:=h2
 subst e
 have hD2:H2 s2.heap.objs.size=none:=I2.fresh
 obtain⟨W,⟨m0,w0⟩,turn⟩:=rd s2.heap.objs.size hD2
  -- the new list
 refine ufd ?_ (v4 _)
 have I3:Inv X pins σ (upd H2 s2.heap.objs.size (.lst [])) { s2 with heap:=s2.heap.push { cls:=.type "list",data:=.seq ([]:List b9).toArray } }:=I2.lnew (t':=s2.toks) .nil (v4 _)
 generalize hs3:({ s2 with heap:=s2.heap.push { cls:=.type "list",data:=.seq ([]:List b9).toArray } }:c7)=s3 at I3
 generalize hD:s2.heap.objs.size=D at *
 have fpl:∀ b∈fp,b<D:=λ b hb=>by
  obtain⟨o,ho,_⟩:=T.obj _ _ st2 b hb
  rw[← hD];exact i7 ho
 have k23:∀ b o,s2.heap.get? b=some o->s3.heap.get? b=some o:=λ b o e=>by rw[← hs3];exact b7 _ e
 have hD3:s3.heap.objs.size=D+1:=by rw[← hs3,← hD];exact uao ..
 have f3:∀ b∈fp,FpOk X pins (upd H2 D (.lst [])) b:=λ b hb=>by
  obtain⟨f0,f⟩:=f2 b hb
  exact⟨by rw[aG (l9 (fpl b hb))];exact f0,f⟩
 refine wpAny_newFunctionEnv hcell (by intro y hy;simp at hy) (λ h4 hns4 hsb4=>?_) hk
 have k34:∀ b o,s3.heap.get? b=some o->h4.get? b=some o:=λ b o e=>hsb4.extBut b o (l9 (i7 e)) (b7 _ e)
 have I4:=xD (own:=own) (t4:=s3.toks+([]:List (Str × b9)).length) hN hsc hok I3 f3 (λ b hb=>m8 (fpl b hb) (by rw[hD3];exact uck _)) k34 hns4
 have tn4:tn 0 h4:=T.keep 0 s2.heap h4 st2 λ b hb o e=>k34 b o (k23 b o e)
 have I4o:=I4.ok
 have fpS:∀ {H'':Hp},(∀ b∈fp,H'' b=none)->∀ b∈fp,FpOk (cxComp X own fr scope fp pins s3 (upd H2 D (.lst []))) [] H'' b:=λ hn b hb =>
  ⟨hn b hb,(I4o.exf b hb).1,I4o.exfs b hb,.inl hb,(I4o.exf b hb).2,λ p hp=>(f2 b hb).2.2.2.2.2 p (by
   have:p∈(X.pn++pins)++([]:List (j8 × Obj)):=hp
   simpa using this)⟩
 have loop : codeAny (v5 X.prog X.w) X.A (.compLoop (.ListComp elt [⟨tg, iter, ifs, 0⟩] scope pos) 0 (.ref it) (.ref D) (compEnvC scope (clOf X.env.cells scope.names []) s3.heap.objs.size X.env))
     (compPost (v5 X.prog X.w) X.A X.xe use Qo (.ref D) s3.heap.objs.size) { s3 with heap:=h4,toks:=s3.toks+([]:List (Str × b9)).length }:=by
  refine uB (λ n s'=>∃ i ys σ' H',Inv (cxComp X own fr scope fp pins s3 (upd H2 D (.lst []))) [] σ' H' s'/\tn i s'.heap/\(∀ b∈fp,H' b=none)/\H' D=some (.lst ys)/\W i n ys σ' H')
   ?step m0 ⟨0,[],_,_,I4,tn4,λ b hb=>(f3 b hb).1,aK,w0⟩
  rintro n s5 ⟨i,ys,σ5,H5,I5,tn5,fr5,d5,w5⟩
  rcases turn i n ys σ5 H5 w5 d5 with ⟨stop,q⟩ | ⟨go,stp⟩
  ·refine thn (T.done (cxComp X own fr scope fp pins s3 (upd H2 D (.lst []))) rfl rfl rfl hc i [] s5 σ5 H5 Fls I5 (fpS fr5) tn5 stop) λ r s6 ⟨hr,I6⟩=>.inl ⟨hr,?_⟩
   obtain⟨m6,hn6,_⟩:=id I6.loc
   have u1:Un (frs X.stack) fp H2 H5 s2.heap s6.heap:=(Un.laid k23 (ue1 hD) hD2).trans I6.base
   have fC:H5 s3.heap.objs.size=none:=I6.free
   have IX:Inv X pins σ H5 s6:=I2.call' (s':=s6) (ch:=fp) (by
    have:=I6.os
    rw[← hs3] at this
    exact this) u1 I6.hok I6.bare λ b hb=>by
     obtain⟨_,g1,_,g3,g4,g5⟩:=f2 b hb
     exact⟨g3,g1,g4,g5⟩
   exact fin s3.heap.objs.size D s6 H5 m6 IX (I2.fpOk (by rw[hD3,hD];exact uck _) fC) hn6 q
  ·refine thn (T.item (cxComp X own fr scope fp pins s3 (upd H2 D (.lst []))) rfl rfl rfl hc i [] s5 σ5 H5 Fls I5 (fpS fr5) tn5 go) λ r s6 ⟨u,hr,h6⟩=>.inr ⟨u,hr,thn h6 λ _ s7 ⟨x,H7,I7,r7,y7,tn7,fr7⟩=>?_⟩
   have I7':=I7.pinned (fpS fr7) (T.obj _ _ tn7)
   refine thn (hg fp pins s3 (upd H2 D (.lst [])) _ s7 σ5 H7 x u _ I7' r7 (stp x H7 y7)) λ _ s8 ⟨σ8,H8,I8,q8⟩=>?_
   refine thn (ht fp pins s3 (upd H2 D (.lst [])) _ s8 σ8 H8 _ I8 q8) λ ok s9 ⟨H9,I9,q9⟩=>?_
   have back:∀ {σ':L2.St}{H':Hp}{s':c7},Inv (cxComp X own fr scope fp pins s3 (upd H2 D (.lst []))) ([]++pinsAt fp s7.heap) σ' H' s'->tn (i+1) s'.heap/\∀ b∈fp,H' b=none:=λ {σ' H' s'} J=>by
    refine⟨T.keep _ _ _ tn7 λ b hb o e=>(J.pin (b,o) (l4 _ (l4 _ (fS hb e)))).1,λ b hb=>?_⟩
    obtain⟨o,e,_⟩:=T.obj _ _ tn7 b hb
    exact (J.pin (b,o) (l4 _ (l4 _ (fS hb e)))).2.1
   cases ok with
   | false =>
    rw[uf8 i6] at q9
    obtain⟨d9,m',hm,w9⟩:=q9
    rw[uf8 i6]
    exact⟨m',hm,i+1,ys,σ8,H9,I9.unpinned,(back I9).1,(back I9).2,d9,w9⟩
   | true =>
    rw[uf7 rfl] at q9 ⊢
    refine thn (he fp pins s3 (upd H2 D (.lst [])) _ s9 σ8 H9 _ I9 q9) λ xv s10 ⟨v,H10,I10,r10,d10,len,m',hm,w10⟩=>?_
    refine thn (fW (X:=cxComp X own fr scope fp pins s3 (upd H2 D (.lst []))) _ s10 σ8 H10 (.ref D) [v] (.ref D) [xv] (λ _ H'=>H'=upd H10 D (.lst (ys++[v]))) I10 rfl (.cons r10 .nil) ⟨D,ys,v,rfl,rfl,d10,len,rfl⟩) λ _ s11 ⟨_,H11,I11,_,e11⟩=>?_
    subst e11
    exact⟨m',hm,i+1,ys++[v],σ8,_,I11.unpinned,(back I11).1,(back I11).2,aK,w10⟩
 exact codeAny_compStart_list loop (T.self X.A 0 _ _ _ tn4 loop)
theorem cC (hc:X.calm=true)(hi:PI X tg iter wi)(hg:∀ fp pins s3 H3,PG (cxComp X own fr scope fp pins s3 H3) tg g)(ht:∀ fp pins s3 H3,PTs (cxComp X own fr scope fp pins s3 H3) ifs tt)
  (he:∀ fp pins s3 H3,PE (cxComp X own fr scope fp pins s3 H3) elt te) (hok:compOk N sc0 scope fr js=true:=by symm) (hN:X.N=N:=by rfl) (hsc:X.env.scope=sc0:=by rfl)
  (hs:∀ x,foldedSetIterable iter X.env x=pure x:=by intro _;rfl):PE X (.ListComp elt [⟨tg,iter,ifs,0⟩] scope pos) (tComp own js wi g tt te):=by
 intro pins s σ H Q I h
 rw[eval_ListComp]
 refine lS hc hi hg ht he hok hN hsc hs I h λ C D s6 H6 m6 I6 f6 n6 q6=>⟨m6,n6,λ h7 sb=>⟨.ref D,H6,?_,rfl,q6⟩⟩
 obtain⟨f0,f1,_,f3,f4,f5⟩:=f6
 exact I6.turned (it:=C) (t':=s6.toks) (λ b o hb e=>sb.extBut b o hb e) f0 f1 f3 f4 f5
theorem eY {i:Nat}{y:Str}{py spos:Pos}(hc:X.calm=true)(hi:PI X tg iter wi)(hg:∀ fp pins s3 H3,PG (cxComp X own fr scope fp pins s3 H3) tg g)(ht:∀ fp pins s3 H3,PTs (cxComp X own fr scope fp pins s3 H3) ifs tt)
  (he:∀ fp pins s3 H3,PE (cxComp X own fr scope fp pins s3 H3) elt te) (hNd:X.N.Nodup) (hy:X.N[i]?=some y) (hx:Loc X.env.scope y) (hok:compOk N sc0 scope fr js=true:=by symm) (hN:X.N=N:=by rfl) (hsc:X.env.scope=sc0:=by rfl)
  (hsw:swapsWith (.ListComp elt [⟨tg,iter,ifs,0⟩] scope pos) (some (.Name y py)) spos.line X.env=pure true:=by rfl) (hf:X.fn y=true\/X.env.scope.names.lookup y=some .local:=by first | exact .inl rfl | exact .inr rfl | assumption)
  (hs:∀ x,foldedSetIterable iter X.env x=pure x:=by intro _;rfl):PS X (.Assign [.Name y py] (.ListComp elt [⟨tg,iter,ifs,0⟩] scope pos) spos) (tAsg (tComp own js wi g tt te) (gName i)):=by
 intro pins s σ H D I h
 rw[exec_Assign_Name_used _ _ _ _ hsw]
 refine a8 (ufa (a8 ?_))
 show k8 _ _ (do let _ ← comprehension (.ListComp elt [⟨tg,iter,ifs,0⟩] scope pos) scope X.env _ (newList []) false (eval iter X.env) (some (assign (.Name y py) X.env))) _ _ s
 refine a8 (ubx (lS (use:=some (assign (.Name y py) X.env)) (Qo:=λ _ s'=>SP X pins D .next s') hc hi hg ht he hok hN hsc hs I h λ C L s6 H6 m6 I6 f6 n6 q6=>?_) (λ _ s' q=>d3 (d3 q)) λ _ _ z=>z)
 obtain⟨f0,f1,f2,f3,f4,f5⟩:=f6
 show k8 _ _ (assign (.Name y py) X.env (.ref L)) _ _ s6
 refine wpAny_assign_Name (lE I6 hNd hy hx (v:=.ref L) rfl (λ s7 I7 ⟨a,sb,ha⟩=>?_) hf)
 have ne:C≠a:=by
  rcases ha with e | e
  ·rw[e];exact f1
  ·exact λ z=>f4 y a e z.symm
 refine⟨m6,n6.sameBut sb ne,λ h8 sb8=>⟨σ.set i (some (.ref L)),H6,?_,q6⟩⟩
 exact I7.turned (it:=C) (t':=s7.toks) (λ b o hb e=>sb8.extBut b o hb e) f0 f1 f3 f4 f5
end
section
variable {X:Cx}{pins:List (j8 × Obj)}{σ:L2.St}{H H':Hp}{s:c7}{h':Heap}{ch:List j8}{t':Nat}
theorem turnsTo (I:Inv X pins σ H s)(hf:∀ b∈ch,FpOk X pins H b)(k:∀ b o,b∉ch->s.heap.get? b=some o->h'.get? b=some o)(hH:∀ b u,H b=some u->H' b=some u)
  (hfree:∀ b o,s.heap.get? b=some o->H b=none->H' b=none) (hok:HOk X.prog X.w H' h'):Inv X pins σ H' { s with heap:=h',toks:=t' }:=by
 refine I.step (g':=s.gens) (d':=s.drawn) (ch:=ch) (λ b hb=>?_) (λ b o _ _ hc e _=>k b o hc e) (λ b o _ _ hc e _=>⟨o.slots,k b o hc e⟩) (λ b o _ e n=>hfree b o e n) (λ b o hc e=>⟨o,k b o hc e⟩)
  (λ b xs e=>hH _ _ e) (λ b o u e=>hH _ _ e) (λ b ps e=>⟨#[],by rw[hH _ _ e];simp⟩) (λ m hm=>?_) hok I.bare
 ·obtain⟨_,f1,_,f3,f4,f5⟩:=hf b hb
  exact⟨f3,f1,f4,f5⟩
 ·obtain⟨o,es,ep,ho,r⟩:=hm
  exact⟨o,es,ep,k _ o (λ z=>(hf _ z).2.1 rfl) ho,r⟩
theorem turns (I:Inv X pins σ H s)(hf:∀ b∈ch,FpOk X pins H b)(k:∀ b o,b∉ch->s.heap.get? b=some o->h'.get? b=some o):Inv X pins σ H { s with heap:=h',toks:=t' }:=by
 refine turnsTo I hf k (λ _ _ e=>e) (λ _ _ _ n=>n) λ b u e=>?_
 refine (I.hok b u e).stay (λ c v hc q=>k c v (λ z=>?_) q) (λ _ q=>q) λ _ _ q=>q
 have n:=(hf c z).1
 rcases hc with rfl | hc
 ·rw[n] at e;cases e
 ·rw[n] at hc;cases hc
theorem turnsTup {xs:List V}{its:List b9}{T:j8}(I:Inv X pins σ H s)(hf:∀ b∈ch,FpOk X pins H b)(k:∀ b o,b∉ch->s.heap.get? b=some o->h'.get? b=some o)(hT:s.heap.objs.size<=T)
  (hz:xs.length<=m3) (hv:Vals xs its) (ht:TupN h' T its.toArray):Inv X pins σ (upd H T (.tup xs)) { s with heap:=h',toks:=t' }:=by
 have fr:H T=none:=I.hok.fresh hT
 have ne:∀ b u,H b=some u->b≠T:=λ b u e=>aV e fr
 refine turnsTo I hf k (λ b u e=>by rw[aG (ne b u e)];exact e) (λ b o e n=>by rw[aG (l9 (m8 (i7 e) hT))];exact n) λ b u e=>?_
 by_cases hb:b=T
 ·subst hb
  rw[aK] at e
  cases e
  exact⟨hz,its,hv,ht⟩
 ·rw[aG hb] at e
  refine (I.hok b u e).stay (λ c v hc q=>k c v (λ z=>?_) q) (λ c q=>by rw[aG (ne c _ q)];exact q) λ c ys q=>by rw[aG (ne c _ q)];exact q
  have n:=(hf c z).1
  rcases hc with rfl | hc
  ·rw[n] at e;cases e
  ·rw[n] at hc;cases hc
end
def SqX (t:Bool)(K:a9)(H:Hp)(a:j8)(xs:List V):Prop:=if t=true then SqT K H a xs else SqL K H a xs
section
variable {X:Cx}{pins:List (j8 × Obj)}{σ:L2.St}{H:Hp}{s:c7}{a:j8}{xs ys:List V}{t:Bool}
theorem seqX (I:Inv X pins σ H s)(h:SqX t X.K H a xs):∃ its:List b9,Vals xs its/\Z3.SqAt t s.heap a its.toArray/\xs.length<=m3:=by
 cases t with
 | true=>obtain⟨its,r,p,z⟩:=I.tuple (show SqT X.K H a xs from h);exact⟨its,r,p,z⟩
 | false=>obtain⟨its,r,p,z⟩:=I.list (show SqL X.K H a xs from h);exact⟨its,r,p.isList,z⟩
theorem iO (I:Inv X pins σ H s)(h:SqX t X.K H a xs)(h':SqX t X.K H a ys):xs=ys:=by
 cases t with
 | true=>exact I.tuple_inj h h'
 | false=>exact I.list_inj h h'
end
def Itz (t1 t2:Bool)(K:a9)(l1 l2:j8):It :=
 ⟨λ i H=>∃ xs ys x y,SqX t1 K H l1 xs/\SqX t2 K H l2 ys/\xs[i]?=some x/\ys[i]?=some y,
  λ i H v H'=>∃ T x y,H T=none/\v=.ref T/\H'=upd H T (.tup [x,y])/\(∀ xs,SqX t1 K H l1 xs->xs[i]?=some x)/\(∀ ys,SqX t2 K H l2 ys->ys[i]?=some y),
  λ i H=>∃ xs ys,SqX t1 K H l1 xs/\SqX t2 K H l2 ys/\(xs.length<=i\/ys.length<=i)⟩
theorem wJ {P:j9}{w:v9}{K:a9}{elts:List ubv}{kk:Nat}{pos:Pos}{t1 t2:Bool}{z TI TO i1 i2 l1 l2:j8}(D:Z3.Ap z TI TO i1 i2)(o1:Z3.Out z TI TO i1 i2 l1)(o2:Z3.Out z TI TO i1 i2 l2) :
  Turn P w K (.Tuple elts kk pos) (Itz t1 t2 K l1 l2) [z,TI,TO,i1,i2] z (λ i h=>Z3.Zd t1 t2 h z TI TO i1 i2 l1 l2 .none i) where
 mem:=by simp
 obj:=λ i h st b hb=>by
  obtain⟨q1,q2,⟨_,_,q3⟩,q4,q5⟩:=st
  obtain⟨o4,n4,e4,_,d4⟩:=q4.obj
  obtain⟨o5,n5,e5,_,d5⟩:=q5.obj
  simp only [h9,u4,or_false] at hb
  rcases hb with rfl | rfl | rfl | rfl | rfl
  ·exact⟨_,q1,λ v q=>by cases q⟩
  ·exact⟨_,q2,λ v q=>by cases q⟩
  ·exact⟨_,q3,λ v q=>by cases q⟩
  ·exact⟨_,e4,λ v q=>by rw[d4] at q;cases q⟩
  ·exact⟨_,e5,λ v q=>by rw[d5] at q;cases q⟩
 keep:=λ i h h' st k=>by
  obtain⟨q1,q2,⟨a,b,q3⟩,q4,q5⟩:=st
  exact⟨k z (by simp) _ q1,k TI (by simp) _ q2,⟨a,b,k TO (by simp) _ q3⟩,q4.to λ o e=>k i1 (by simp) o e,q5.to λ o e=>k i2 (by simp) o e⟩
 item:=by
  intro X hP hw hK hc i pins s σ H E I hf st hg
  subst hP hw hK
  obtain⟨xs,ys,x,y,q1,q2,hx,hy⟩:=hg
  obtain⟨its1,r1,p1,z1⟩:=seqX I q1
  obtain⟨its2,r2,p2,z2⟩:=seqX I q2
  obtain⟨u1,hu1,ru1⟩:=r1.get hx
  obtain⟨u2,hu2,ru2⟩:=r2.get hy
  have hf4:∀ b∈[z,TO,i1,i2],FpOk X pins H b:=λ b hb=>hf b (by
   simp only [h9,u4,or_false] at hb ⊢
   rcases hb with rfl | rfl | rfl | rfl <;> simp)
  refine Z3.vG D o1 o2 st p1 p2 (x:=u1) (y:=u2) (by simpa using hu1) (by simpa using hu2) λ h' zd tp sz kp=>?_
  have I1 : Inv X pins σ (upd H s.heap.objs.size (.tup [x, y])) { s with heap := h', toks := s.toks } := turnsTup (ch := [z, TO, i1, i2]) (its := [u1, u2]) I hf4 (λ b o hb e => by
      simp only [h9,u4,or_false,not_or] at hb
      exact kp b o hb.1 hb.2.1 hb.2.2.1 hb.2.2.2 e) (c8 _) (by show 2<=m3;rw[ubj];decide) (.cons ru1 (.cons ru2 .nil)) ⟨_,tp,rfl,⟨_,rfl⟩,rfl⟩
  have fr:H s.heap.objs.size=none:=I.fresh
  have zne:∀ b∈[z,TI,TO,i1,i2],b≠s.heap.objs.size:=λ b hb e=>by
   have key:∃ o,s.heap.get? b=some o:=by
    obtain⟨q1,q2,⟨_,_,q3⟩,q4,q5⟩:=st
    obtain⟨o4,n4,e4,_,d4⟩:=q4.obj
    obtain⟨o5,n5,e5,_,d5⟩:=q5.obj
    simp only [h9,u4,or_false] at hb
    rcases hb with rfl | rfl | rfl | rfl | rfl
    ·exact⟨_,q1⟩
    ·exact⟨_,q2⟩
    ·exact⟨_,q3⟩
    ·exact⟨_,e4⟩
    ·exact⟨_,e5⟩
   obtain⟨o,ho⟩:=key
   exact absurd (i7 ho) (by rw[e];exact uap _)
  refine⟨_,rfl,wpAny_letOwnedTupleGo_zip zd.z λ h2 zd2 sb=>?_⟩
  obtain⟨f0,f1,f2,f3,f4,f5⟩:=hf z (by simp)
  have I2:Inv X pins σ (upd H s.heap.objs.size (.tup [x,y])) { s with heap:=h2,toks:=s.toks }:=Inv.turned (s:={ s with heap:=h',toks:=s.toks }) (it:=z) (t':=s.toks) I1 (λ b o hb e=>sb.extBut b o hb e) (by rw[aG (zne z (by simp))];exact f0) f1 f3 f4 f5
  refine⟨.ref s.heap.objs.size,_,I2,rfl,⟨_,x,y,fr,rfl,rfl,λ zs hz=>by rw[iO I hz q1];exact hx,λ zs hz=>by rw[iO I hz q2];exact hy⟩,?_,λ b hb=>by rw[aG (zne b hb)];exact (hf b hb).1⟩
  obtain⟨_,w2,⟨a3,b3,w3⟩,w4,w5⟩:=zd
  exact⟨zd2,sb.extBut _ _ D.n1 w2,⟨a3,b3,sb.extBut _ _ D.n2 w3⟩,w4.to λ o e=>sb.extBut _ _ D.n3 e,w5.to λ o e=>sb.extBut _ _ D.n4 e⟩
 done:=by
  intro X hP hw hK hc i pins s σ H E I hf st hg
  subst hP hw hK
  obtain⟨xs,ys,q1,q2,hx⟩:=hg
  obtain⟨its1,r1,p1,z1⟩:=seqX I q1
  obtain⟨its2,r2,p2,z2⟩:=seqX I q2
  have l1:=r1.length
  have l2:=r2.length
  have hf4:∀ b∈[z,TO,i1,i2],FpOk X pins H b:=λ b hb=>hf b (by
   simp only [h9,u4,or_false] at hb ⊢
   rcases hb with rfl | rfl | rfl | rfl <;> simp)
  refine Z3.vF (I.ok.hd hc) D o1 o2 st p1 p2 (hx.elim (λ q=>.inl (by simp;left)) λ q=>.inr (by simp;left)) λ h' kp=>⟨rfl,?_⟩
  exact turns (ch:=[z,TO,i1,i2]) (t':=s.toks) I hf4 λ b o hb e=>by
   simp only [h9,u4,or_false,not_or] at hb
   exact kp b o hb.1 hb.2.1 hb.2.2.1 hb.2.2.2 e
 self:=λ _ _ _ _ _ st h=>wpAny_pyIter_zip st.z h
def iZip (t1 t2:Bool)(K:a9)(ta:TA):TI:=λ σ H R=>ta σ H λ vs H1=>∃ l1 l2,vs=[.ref l1,.ref l2]/\(∃ xs,SqX t1 K H1 l1 xs)/\(∃ ys,SqX t2 K H1 l2 ys)/\R (Itz t1 t2 K l1 l2) H1
theorem gS {X:Cx}{elts:List ubv}{kk:Nat}{pos':Pos}(t1 t2:Bool){a b:ubv}{ta:TA}{p pos:Pos}(hg:Gl X "zip")(hm:X.mg "zip"=none)(ha:PA X [a,b] ta)
  (hs:uae [a,b] X.env=[(false,eval a X.env),(false,eval b X.env)]:=by rfl) (hs2:uae [b] X.env=[(false,eval b X.env)]:=by rfl) :
  PI X (.Tuple elts kk pos') (.Call (.Name "zip" p) [a,b] [] pos) (iZip t1 t2 X.K ta):=by
 intro pins s σ H R I h
 refine Call_ (cU I hg hm boot_zip (uaj (thn (ha pos pins s σ H _ I h) λ us s1 ⟨vs,H1,I1,r1,q1⟩=>?_) (by rw[hs,hs2]) (by rw[hs2];rfl)))
 obtain⟨l1,l2,e,⟨xs,qx⟩,⟨ys,qy⟩,q⟩:=q1
 subst e
 cases r1 with
 | cons r rr =>
  cases rr with
  | cons r' rr =>
   cases rr
   cases r
   cases r'
   obtain⟨its1,r1,p1,z1⟩:=seqX I1 qx
   obtain⟨its2,r2,p2,z2⟩:=seqX I1 qy
   have lt:∀ {t:Bool}{l:j8}{xs:Array b9},Z3.SqAt t s1.heap l xs->l<s1.heap.objs.size:=λ {t l xs} q=>by
    cases t with
    | true=>obtain⟨o,e,_⟩:=(show s1.heap.IsTuple l xs from q);exact i7 e
    | false=>obtain⟨o,e,_⟩:=(show s1.heap.IsList l xs from q);exact i7 e
   refine Z3.xO p1 p2 λ h' zd sz kp=>wpAny_pyIter_zip zd.z ?_
   have I2:Inv X pins σ H1 { s1 with heap:=h',toks:=s1.toks }:=I1.kept (t':=s1.toks) kp
   refine⟨s1.heap.objs.size+4,[s1.heap.objs.size+4,s1.heap.objs.size+2,s1.heap.objs.size+3,s1.heap.objs.size,s1.heap.objs.size+1],_,_,H1,rfl,I2,wJ (Z3.zac _) (Z3.nZ (lt p1)) (Z3.nZ (lt p2)),zd,λ b hb=>?_,q⟩
   have hb':s1.heap.objs.size<=b:=by
    simp only [h9,u4,or_false] at hb
    rcases hb with rfl | rfl | rfl | rfl | rfl
    ·exact uc7 _ _
    ·exact uc7 _ _
    ·exact uc7 _ _
    ·exact c8 _
    ·exact uc7 _ _
   exact I1.fpOk hb' (I1.hok.fresh hb')
section
variable {X:Cx}{pos:Pos}
inductive gLst_i (K:a9)(n:Nat)(t:TGs)(v:V)(σ:L2.St)(H:Hp)(Q:L2.St->Hp->Prop):Prop
 | mk:∀ a xs,(v=.ref a)->(SqL K H a xs)->(xs.length=n)->(t xs σ H Q)->gLst_i K n t v σ H Q
def gLst (K:a9)(n:Nat)(t:TGs):TG:=λ v σ H Q=>gLst_i K n t v σ H Q
theorem zM {es:List ubv}{k:Nat}{t:TGs}{n:Nat}(hc:X.calm=true)(h:PGs X es t)(hn:(assignEach es X.env).length=n:=by rfl)(hst:(assignEach es X.env).findIdx? (·.1)=none:=by rfl):PG X (.Tuple es k pos) (gLst X.K n t):=by
 intro pins s σ H v u Q I r hw
 obtain⟨a,xs,e1,hq,hl,hw⟩:=hw
 subst e1
 cases r
 obtain⟨its,rv,ht,hz⟩:=I.list hq
 refine U3.assign_tuple_lst (I.ok.hd hc) ht.isList (by simp [hn,← hl,rv.length]) hst λ h' hx=>?_
 have I1:Inv X pins σ H { s with heap:=h' }:=I.kept (t':=s.toks) λ b o e=>hx b o (l9 (i7 e)) e
 exact h pins _ σ H xs _ Q I1 (by simpa using rv) hw
theorem wL {prog:j9}{w:v9}{A:v7}{bs:List Bool}{its:List b9}(r:Vals (bs.map V.bl) its):TruthOf prog w A (λ i v=>its.toArray[i]?=some v) (λ i=>bs.getD i true):=by
 intro i v s Q E hP hq
 have hP':its[i]?=some v:=by simpa using hP
 have hl:=r.length
 have hi:i<its.length:=(i3.mp hP').1
 have hb:i<bs.length:=by rw[c6] at hl;left
 obtain⟨u,hu,ru⟩:=r.get (i:=i) (x:=V.bl bs[i]) (by rw[j3,b6 hb];rfl)
 rw[hP'] at hu
 cases hu
 have e:v=Value.bool bs[i]:=ru
 subst e
 have e2:bs.getD i true=bs[i]:=by simp [ucb,hb]
 have hq':Q (bs.getD i true) s:=hq
 rw[e2] at hq'
 exact ubs hq'
theorem wF (bs:List Bool):((c9 bs.length).all λ i=>bs.getD i true)=bs.all id:=by
 rw[ubm,uc4,uc4]
 constructor
 ·intro h b hb
  obtain⟨i,hi,e⟩:=ua9 hb
  have:=h i (o9.mpr hi)
  rw[← e]
  simpa [ucb,hi] using this
 ·intro h i hi
  have hi':=o9.mp hi
  have:=h bs[i] (ucg hi')
  simpa [ucb,hi'] using this
inductive call_all_i (K:a9)(xs:List V)(H:Hp)(Q:VK):Prop
 | mk:∀ (p:j8)(bs:List Bool),(xs=[.ref p])->(SqL K H p (bs.map V.bl))->(Q (.bl (bs.all id)) H)->call_all_i K xs H Q
theorem nI (hh:X.calm=true):CallR X (.builtin "all") (call_all_i X.K):=by
 intro pins s σ H xs us Q I r h
 obtain⟨p,bs,rfl,hq,q⟩:=h
 obtain⟨u,rfl,rx⟩:=vals1 r
 cases rx
 obtain⟨its,rv,pl,hz⟩:=I.list hq
 have hl:=rv.length
 have lt:p≠s.heap.objs.size:=by obtain⟨o,e,_⟩:=pl.isList;exact l9 (i7 e)
 refine call_all_walk (ucd pl.isList ?_)
 have W:=Walks.list (prog:=X.prog) (w:=X.w) (A:=X.A.in1) (show X.A.in1.handled=none from I.ok.hd hh) s.heap.objs.size p lt its.toArray
 refine⟨s.heap.objs.size,_,_,_,_,_,_,rfl,W,⟨⟨_,i8 _ rfl,rfl,rfl⟩,pl.isList.push _⟩,wL rv,λ h' tk hk=>?_⟩
 refine⟨.bl (bs.all id),H,I.kept (t':=tk) λ b o e=>hk b o (λ z=>?_) (b7 _ e),?_,q⟩
 ·have:b=s.heap.objs.size:=by simpa using z
  exact absurd (i7 e) (by rw[this];exact uap _)
 ·show Value.bool _=Value.bool _
  have e1:its.toArray.size=bs.length:=by rw[d7,← hl,c6]
  rw[e1,wF]
inductive call_isi_i (K:a9)(n:String)(xs:List V)(H:Hp)(Q:VK):Prop
 | mk:∀ x t b,(xs=[x,.ty n])->(TyOf K H x t)->(PySem.W.kitOne K t (.type n)=some b)->(Q (.bl b) H)->call_isi_i K n xs H Q
theorem eG {n:String}:CallR X (.builtin "isinstance") (call_isi_i X.K n):=by
 intro pins s σ H xs us Q I r h
 obtain⟨x,t,b,rfl,ty,e,q⟩:=h
 obtain⟨u,c,rfl,ru,rc⟩:=r.two
 cases rc
 exact vP I ru ty e λ tk=>⟨.bl b,H,I.tok tk,rfl,q⟩
variable {a b c d:ubv}{ta tb tc td:TE}
end
mutual
def Is (K:a9)(H:Hp):uac->V->Prop
 | .none,v=>v=.non
 | .bool b,v=>v=.bl b
 | .int i,v=>v=.int i
 | .str x,v=>v=.str x
 | .tuple ds,v=>∃ p vs,v=.ref p/\H p=some (.tup vs)/\IsAll K H ds vs
 | .list ds,v=>∃ p vs,v=.ref p/\H p=some (.lst vs)/\IsAll K H ds vs
 | .dict kvs,v=>kvs=[]/\∃ p,v=.ref p/\H p=some (.dK [])
def IsAll (K:a9)(H:Hp):List uac->List V->Prop
 | [],vs=>vs=[]
 | d::ds,vs=>∃ v r,vs=v::r/\Is K H d v/\IsAll K H ds r
end
section
variable {K:a9}{H H':Hp}
mutual
theorem Is.same (e:Same H H'):∀ (d:uac){v:V},Is K H d v->Is K H' d v
 | .none,_,h=>h
 | .bool _,_,h=>h
 | .int _,_,h=>h
 | .str _,_,h=>h
 | .tuple ds,_,h=>let ⟨p,vs,q1,q2,q3⟩:=h;⟨p,vs,q1,e _ _ q2,IsAll.same e ds q3⟩
 | .list ds,_,h=>let ⟨p,vs,q1,q2,q3⟩:=h;⟨p,vs,q1,e _ _ q2,IsAll.same e ds q3⟩
 | .dict kvs,_,h=>let ⟨q0,p,q1,q2⟩:=h;⟨q0,p,q1,e _ _ q2⟩
theorem IsAll.same (e:Same H H'):∀ (ds:List uac){vs:List V},IsAll K H ds vs->IsAll K H' ds vs
 | [],_,h=>h
 | d::ds,_,h=>let ⟨v,r,q1,q2,q3⟩:=h;⟨v,r,q1,Is.same e d q2,IsAll.same e ds q3⟩
end
theorem IsAll.length:∀ {ds:List uac}{vs:List V},IsAll K H ds vs->vs.length=ds.length
 | [],_,h=>by rw[show _=[] from h];rfl
 | d::ds,_,⟨v,r,q1,q2,q3⟩=>by rw[q1,k9,k9,IsAll.length q3]
theorem IsAll.get:∀ {ds:List uac}{vs:List V}{i:Nat}{d:uac},IsAll K H ds vs->ds[i]?=some d->∃ v,vs[i]?=some v/\Is K H d v
 | [],_,_,_,_,e=>by simp at e
 | d::ds,_,0,d',⟨v,r,q1,q2,q3⟩,e=>by
  have e':d=d':=by simpa using e
  subst e';subst q1;exact⟨v,rfl,q2⟩
 | d::ds,_,i+1,_,⟨v,r,q1,q2,q3⟩,e=>by
  subst q1
  obtain⟨u,h1,h2⟩:=IsAll.get (i:=i) q3 (by simpa using e)
  exact⟨u,by simpa using h1,h2⟩
theorem IsAll.get':∀ {ds:List uac}{vs:List V}{i:Nat}{v:V},IsAll K H ds vs->vs[i]?=some v->∃ d,ds[i]?=some d/\Is K H d v
 | [],_,i,v,h,e=>by rw[show _=[] from h] at e;simp at e
 | d::ds,_,0,v,⟨u,r,q1,q2,q3⟩,e=>by
  subst q1
  have e':u=v:=by simpa using e
  subst e';exact⟨d,rfl,q2⟩
 | d::ds,_,i+1,v,⟨u,r,q1,q2,q3⟩,e=>by
  subst q1
  obtain⟨d',h1,h2⟩:=IsAll.get' (i:=i) q3 (by simpa using e)
  exact⟨d',by simpa using h1,h2⟩
theorem IsAll.of:∀ {ds:List uac}{vs:List V},vs.length=ds.length->(∀ (i:Nat)(d:uac)(v:V),ds[i]?=some d->vs[i]?=some v->Is K H d v)->IsAll K H ds vs
 | [],[],_,_=>rfl
 | [],_::_,h,_=>by simp at h
 | _::_,[],h,_=>by simp at h
 | d::ds,v::vs,h,q=>⟨v,vs,rfl,q 0 d v rfl rfl,IsAll.of (by simpa using h) λ i d' v' h1 h2=>q (i+1) d' v' (by simpa using h1) (by simpa using h2)⟩
theorem IsAll.append:∀ {ds es:List uac}{vs us:List V},IsAll K H ds vs->IsAll K H es us->IsAll K H (ds++es) (vs++us)
 | [],_,_,_,h,q=>by rw[show _=[] from h];exact q
 | d::ds,_,_,_,⟨v,r,q1,q2,q3⟩,q=>⟨v,r++_,by rw[q1];rfl,q2,IsAll.append q3 q⟩
theorem IsAll.ints (ns:List Int):IsAll K H (ns.map .int) (ns.map V.int):=by
 refine IsAll.of (by simp) λ i d v h1 h2=>?_
 rw[j3] at h1 h2
 cases e:ns[i]? with
 | none=>rw[e] at h1;cases h1
 | some n=>rw[e] at h1 h2;cases h1;cases h2;exact rfl
theorem IsAll.of_ints:∀ {ns:List Int}{vs:List V},IsAll K H (ns.map .int) vs->vs=ns.map V.int
 | [],_,h=>h
 | n::ns,_,⟨v,r,q1,q2,q3⟩=>by
  have e:v=.int n:=q2
  rw[q1,e,IsAll.of_ints q3];rfl
end
section
variable {X:Cx}{pins:List (j8 × Obj)}{σ:L2.St}{H:Hp}{s:c7}
mutual
theorem dN (I:Inv X pins σ H s):∀ (d:uac){v:V}{u:b9},Is X.K H d v->RelV v u->∃ as,Reads s.heap u d as
 | .none,_,_,h,r=>by
  have e:_=V.non:=h
  subst e;cases r;exact⟨_,.none⟩
 | .bool b,_,_,h,r=>by
  have e:_=V.bl b:=h
  subst e;cases r;exact⟨_,.bool b⟩
 | .int i,_,_,h,r=>by
  have e:_=V.int i:=h
  subst e;obtain⟨t,rfl⟩:=r;exact⟨_,.int i t⟩
 | .str x,_,_,h,r=>by
  have e:_=V.str x:=h
  subst e;obtain⟨t,rfl⟩:=r;exact⟨_,.str x t⟩
 | .tuple ds,_,_,h,r=>by
  obtain⟨p,vs,rfl,q2,q3⟩:=(show ∃ p vs,_=V.ref p/\H p=some (.tup vs)/\IsAll X.K H ds vs from h)
  cases r
  obtain⟨its,rv,⟨o,e1,e2,n,e3⟩,_⟩:=I.tuple (SqT.of q2)
  obtain⟨as,ra⟩:=hV I ds q3 rv
  exact⟨_,.tuple e1 e2 e3 (by simpa using ra)⟩
 | .list ds,_,_,h,r=>by
  obtain⟨p,vs,rfl,q2,q3⟩:=(show ∃ p vs,_=V.ref p/\H p=some (.lst vs)/\IsAll X.K H ds vs from h)
  cases r
  obtain⟨its,rv,⟨o,n,e1,e2,_,e3⟩,_⟩:=I.list (SqL.of q2)
  obtain⟨as,ra⟩:=hV I ds q3 rv
  exact⟨_,.list e1 e2 e3 (by simpa using ra)⟩
 | .dict kvs,_,_,h,r=>by
  obtain⟨e0,p,rfl,q2⟩:=(show kvs=[]/\∃ p,_=V.ref p/\H p=some (.dK []) from h)
  subst e0
  cases r
  obtain⟨_,_,vs,kv,o,es,ep,g1,g2,g3,_,g4,_⟩:=(show ObjOk X.prog X.w H s.heap p (.dK []) from I.hok p _ q2)
  cases kv
  have e1:es.toList=[]:=by cases h:es.toList with
   | nil=>rfl
   | cons x r=>rw[h] at g4;cases g4
  exact⟨_,.dict g1 g2.1 g3 (by rw[e1];exact .nil) (by rw[e1];exact .nil)⟩
theorem hV (I:Inv X pins σ H s):∀ (ds:List uac){vs:List V}{us:List b9},IsAll X.K H ds vs->Vals vs us->∃ as,ReadsAll s.heap us ds as
 | [],_,_,h,r=>by
  have e:_=[]:=h
  subst e;cases r;exact⟨_,.nil⟩
 | d::ds,_,_,h,r=>by
  obtain⟨v,vr,rfl,q2,q3⟩:=(show ∃ v r,_=v::r/\Is X.K H d v/\IsAll X.K H ds r from h)
  cases r with
  | cons r1 r2 =>
   obtain⟨as,a1⟩:=dN I d q2 r1
   obtain⟨bs,a2⟩:=hV I ds q3 r2
   exact⟨_,.cons a1 a2⟩
end
inductive op_eqD_i (K:a9)(uu:Nat)(x:V)(y:V)(H:Hp)(Q:VK):Prop
 | mk:∀ da db,(Is K H da x)->(Is K H db y)->(da.canLay0=true)->(db.canLay0=true)->(uu+min da.depth db.depth<cLine)->(Q (.bl (uav da db)) H)->op_eqD_i K uu x y H Q
theorem oX:OpR X (compareOp .Eq) (op_eqD_i X.K X.A.units):=by
 intro pins s σ H x y v u Q I rx ry h
 obtain⟨da,db,h1,h2,c1,c2,hu,q⟩:=h
 obtain⟨as,ra⟩:=dN I da h1 rx
 obtain⟨bs,rb⟩:=dN I db h2 ry
 exact SeqAt.compareEq_reads ra rb c1 c2 hu (aT I q rfl)
theorem xH {ys:List V}{its:List b9}(r:Vals ys its){i:Nat}(hi:i<ys.length):RelV (ys.getD i .non) (its.getD i .none):=by
 have hl:=r.length
 obtain⟨u,hu,ru⟩:=r.get (i:=i) (x:=ys[i]) (b6 hi)
 have e1:ys.getD i .non=ys[i]:=by simp [ucb,hi]
 have e2:its.getD i .none=u:=by simp [ucb,hu]
 rw[e1,e2];exact ru
theorem iN {ys:List V}{its:List b9}(r:Vals ys its):∀ (l:List Nat),(∀ i∈l,i<ys.length)->Vals (l.map λ i=>ys.getD i .non) (l.map λ i=>its.getD i Value.none)
 | [],_=>.nil
 | i::l,h=>.cons (xH r (h i g9)) (iN r l λ j hj=>h j (j4 _ hj))
theorem gT {n:Nat}{p:Array Nat}(g:Srt.Gd n p):∀ i∈p.toList,i<n:=λ i hi=>by
 have:=g.mem_iff.mp (Array.mem_toList_iff.mp hi)
 simpa using this
theorem oF {α:Type}{n:Nat}{p:Array Nat}(g:Srt.Gd n p)(f:Nat->α):(p.toList.map f).Perm ((c9 n).map f):=by
 have h:=Array.perm_iff_toList_perm.mp g
 exact (by simpa using h:p.toList.Perm (c9 n)).map f
theorem nM {n:Nat}{p:Array Nat}{r:Nat->Int}{R:Nat->Nat->Prop}(g:Srt.Gd n p)(u:Srt.Up r p n)(h:∀ i j,i<n->j<n->r i<=r j->R i j):p.toList.Pairwise R:=by
 rw[uas]
 intro i j hi hj hij
 have sz:=g.sz
 have hi':i<p.size:=by simpa using hi
 have hj':j<p.size:=by simpa using hj
 have q:=u i j (uc2 hij) (by left)
 have e:∀ k (hk:k<p.size),p.getD k 0=p[k]:=λ k hk=>by simp [ufu,hk]
 unfold Srt.ky at q
 rw[e i hi',e j hj'] at q
 have m:∀ k (hk:k<p.size),p[k]<n:=λ k hk=>gT g _ (by simp)
 have:=h p[i] p[j] (m i hi') (m j hj') q
 simpa using this
theorem iB {α:Type}(l:List α)(d:α):(c9 l.length).map (λ i=>l.getD i d)=l:=by
 refine ue4 (by simp) λ i h1 h2=>?_
 simp [ucb,h2]
inductive call_sortedI_i (K:a9)(xs:List V)(H:Hp)(Q:VK):Prop
 | mk:∀ p ns,(xs=[.ref p])->(SqL K H p (ns.map V.int))->(ns.length<64)->(∀ ms:List Int,ms.Perm ns->ms.Pairwise (·<=·)->∀ l,H l=none->Q (.ref l) (upd H l (.lst (ms.map V.int))))->call_sortedI_i K xs H Q
theorem sD:CallR X (.builtin "sorted") (call_sortedI_i X.K):=by
 intro pins s σ H xs us Q I r h
 obtain⟨p,ns,rfl,hq,h64,q⟩:=h
 obtain⟨u,rfl,rx⟩:=vals1 r
 cases rx
 obtain⟨its,rv,pl,hz⟩:=I.list hq
 have hl:=rv.length
 rw[c6] at hl
 have hI:IntsAre its ns:=dI rv
 have line:(64:Nat)<=m3:=by rw[ubj];decide
 refine Srt.lG (r:=λ i=>ns.getD i 0) (κ:=oneType') pl.isList (by left) (λ h2 A' s' Q' _ q'=>Srt.xE hI h2 q') (λ A' s' i j C _ hi hj q'=>Srt.yV hI hi hj q') λ pp h' c g u kp e=>?_
 have g':Srt.Gd ns.length pp:=by rw[hl];exact g
 have u':Srt.Up (λ i=>ns.getD i 0) pp ns.length:=by rw[hl];exact u
 have pm:(pp.toList.map λ i=>ns.getD i 0).Perm ns:=by
  have:=oF g' λ i=>ns.getD i 0
  rw[iB] at this
  exact this
 have pw:(pp.toList.map λ i=>ns.getD i 0).Pairwise (·<=·):=by
  rw[udl]
  exact nM g' u' λ i j _ _ z=>z
 have fr:H (s.heap.objs.size+1)=none:=I.hok.fresh (uck _)
 have ev:((pp.toList.map λ i=>ns.getD i 0).map V.int)=pp.toList.map λ i=>(ns.map V.int).getD i .non:=by
  rw[ubd]
  refine List.map_congr_left λ i hi=>?_
  have:=gT g' i hi
  simp [ucb,this]
 refine⟨.ref (s.heap.objs.size+1),_,I.laid (a:=s.heap.objs.size+1) (o:=.lst ((pp.toList.map λ i=>ns.getD i 0).map V.int)) (t':=s.toks) kp (uck _) ⟨?_,Srt.outOf its pp,c,?_,e⟩,rfl,q _ pm pw _ fr⟩
 ·have:=pm.length_eq
  rw[c6,this];left
 ·rw[ev]
  exact iN rv pp.toList λ i hi=>by rw[c6];exact gT g' i hi
inductive call_sortedT_i (K:a9)(xs:List V)(H:Hp)(Q:VK):Prop
 | mk:∀ p ys ks,(xs=[.ref p])->(SqL K H p ys)->(ys.length<64)->(Paired (λ (y:V) (k:List Int)=>∃ a,y=.ref a/\SqT K H a (k.map V.int)) ys ks)->((∀ k∈ks,k≠[]))->(∀ qs:List (V × List Int),qs.Perm (ys.zip ks)->qs.Pairwise (λ a b=>Srt.lexI b.2 a.2=false)->∀ l,H l=none->Q (.ref l) (upd H l (.lst (qs.map (·.1)))))->call_sortedT_i K xs H Q
theorem sC:CallR X (.builtin "sorted") (call_sortedT_i X.K):=by
 intro pins s σ H xs us Q I r h
 obtain⟨p,ys,ks,rfl,hq,h64,hp,hne,q⟩:=h
 obtain⟨u,rfl,rx⟩:=vals1 r
 cases rx
 obtain⟨its,rv,pl,hz⟩:=I.list hq
 have hl:=rv.length
 have hlk:ys.length=ks.length:=Paired.length hp
 have line:(64:Nat)<=m3:=by rw[ubj];decide
 have hT:∀ {ys:List V}{ks:List (List Int)}{its:List b9},Paired (λ (y:V) (k:List Int)=>∃ a,y=.ref a/\SqT X.K H a (k.map V.int)) ys ks->Vals ys its->Paired (Srt.TupI s.heap) its ks:=by
  intro ys ks its hp
  induction hp generalizing its with
  | nil=>intro rv;cases rv;exact .nil
  | cons r t ih =>
   intro rv
   cases rv with
   | cons r1 r2 =>
    refine .cons ?_ (ih r2)
    obtain⟨a,rfl,qa⟩:=r
    cases r1
    obtain⟨its',rv',⟨o,e1,e2,n,e3⟩,_⟩:=I.tuple qa
    exact⟨a,o,its'.toArray,n,rfl,e1,e2,e3,by simpa using dI rv'⟩
 have tp:=hT hp rv
 have mono:∀ {h':Heap},(∀ b o,s.heap.get? b=some o->h'.get? b=some o)->Paired (Srt.TupI h') its ks:=λ k=>Paired.mapP tp λ v k' z=>z.to k
 refine Srt.lG (r:=Srt.rank its.length λ i j=>Srt.lexI (ks.getD i []) (ks.getD j [])) (κ:=tuples' true) pl.isList (by left) (λ h2 A' s' Q' k q'=>Srt.wK (mono k) hne h2 q')
  (λ A' s' i j C k hi hj q'=>Srt.xY (mono k) hi hj (by rw[Srt.nV (lt:=λ i j=>Srt.lexI (ks.getD i []) (ks.getD j [])) (λ i=>Srt.iT _) (λ _ _ _ _ _ _=>Srt.fT _ _ _) (λ _ _ _ _ _ _=>Srt.iS _ _ _) hi hj] at q';exact q')) λ pp h' c g u kp e=>?_
 have fr:H (s.heap.objs.size+1)=none:=I.hok.fresh (uck _)
 have pm:(pp.toList.map λ i=>(ys.getD i .non,ks.getD i [])).Perm (ys.zip ks):=by
  have h1:=oF g λ i=>(ys.getD i V.non,ks.getD i [])
  have e1:(c9 its.length).map (λ i=>(ys.getD i V.non,ks.getD i []))=ys.zip ks:=by
   refine ue4 (by simp;left) λ i h1 h2=>?_
   have hi:i<its.length:=by simpa using h1
   have a1:i<ys.length:=by left
   have a2:i<ks.length:=by left
   simp [ucb,a1,a2]
  rw[e1] at h1
  exact h1
 have pw:(pp.toList.map λ i=>(ys.getD i V.non,ks.getD i [])).Pairwise (λ a b=>Srt.lexI b.2 a.2=false):=by
  rw[udl]
  refine nM g u λ i j hi hj z=>?_
  have w:=Srt.nV (n:=its.length) (lt:=λ i j=>Srt.lexI (ks.getD i []) (ks.getD j [])) (λ i=>Srt.iT _) (λ _ _ _ _ _ _=>Srt.fT _ _ _) (λ _ _ _ _ _ _=>Srt.iS _ _ _) hj hi
  rw[uf5 (by left)] at w
  exact w.symm
 have ev:(pp.toList.map λ i=>(ys.getD i V.non,ks.getD i [])).map (·.1)=pp.toList.map λ i=>ys.getD i V.non:=by
  rw[ubd];rfl
 refine⟨.ref (s.heap.objs.size+1),_,I.laid (a:=s.heap.objs.size+1) (o:=.lst ((pp.toList.map λ i=>(ys.getD i V.non,ks.getD i [])).map (·.1))) (t':=s.toks) kp (uck _) ⟨?_,Srt.outOf its pp,c,?_,e⟩,rfl,q _ pm pw _ fr⟩
 ·have:=pm.length_eq
  rw[c6,this,List.length_zip];left
 ·rw[ev]
  exact iN rv pp.toList λ i hi=>by have:=gT g i hi;left
end
def Ok (P:j9)(w:v9)(K:a9)(mg:Str->Option b9)(base:Heap)(k:Nat)(x:Str)(ps:List Str)(sp:Sp):Prop :=
 ∃ (f:j8)(fd:FuncData),FnOk P w K mg base CX0 k f fd ps sp/\Binds K fd ps []/\ub5 K (.ref f)=true/\mg x=some (.ref f)
def DefOk (K:a9)(mg:Str->Option b9)(x:Str)(st:ucy)(ps:List Str):Prop :=
 ∃ (f:j8)(fd:FuncData),Fun K x x st f fd/\Binds K fd ps []/\mg x=some (.ref f)
section
variable {P:j9}{w:v9}{K:a9}{mg:Str->Option b9}{base:Heap}{x:Str}{ps N:List Str}{sp sp':Sp}{k:Nat}{st:ucy}
theorem Ok.mono {j:Nat}(O:Ok P w K mg base j x ps sp)(h:j<=k):Ok P w K mg base k x ps sp:=let ⟨f,fd,F,r⟩:=O;⟨f,fd,F.mono h,r⟩
theorem Ok.imp (O:Ok P w K mg base k x ps sp)(h:∀ vs H Q E,sp' vs H Q E->sp vs H Q E):Ok P w K mg base k x ps sp':=let ⟨f,fd,F,r⟩:=O;⟨f,fd,F.imp h,r⟩
theorem pO (D:DefOk K mg x st ps)(S:FnScope N ps (defScope st))(len:∀ vs H Q E,sp vs H Q E->vs.length=ps.length)
  (hbody:∀ (f:j8)(cdv:b9)(A:v7)(outer:List Env)(s:c7)(H:Hp)(vs:List V)(Q:VK)(E:XK),Room k (A.deeper (envOfC x (defScope st) s.heap.objs.size f cdv))->sp vs H Q E ->
   ∃ t,PSs (cxOf CX0 P w K mg base N x (defScope st) f cdv A outer s H E).nox (defBody st) t/\t { nx:=λ _ H'=>Q .non H',rt:=Q } (start N vs) H):Ok P w K mg base (k+1) x ps sp:=by
 obtain⟨f,fd,F,b,m⟩:=D
 exact⟨f,fd,F.ok S len (λ cdv A outer s H vs Q E hr h=>hbody f cdv A outer s H vs Q E hr h),b,F.kp,m⟩
theorem aM {X:Cx}{p pos:Pos}{e:ubv}{es:List ubv}{t:TA}(O:Ok X.prog X.w X.K X.mg X.base k x ps sp)(hr:Room k X.A)(hg:Gl X x)(ha:PA X (e::es) t)
  (hdb:(x==("__debug__":Str))=false:=by decide) (he:uae (e::es) X.env=(false,eval e X.env)::uae es X.env:=by rfl) (hpl:(backTo pos (uae es X.env)).any (·.1)=false:=by rfl) :
  PE X (.Call (.Name x p) (e::es) [] pos) (tCall sp [] E0 t):=by
 obtain⟨f,fd,F,b,kp,m⟩:=O
 exact yL F hr hg m kp b .nil pass0 ha hdb he hpl
end
structure Bi (mg:Str->Option b9):Prop where
 z_len:mg "len"=none
 z_range:mg "range"=none
 z_zip:mg "zip"=none
 z_all:mg "all"=none
 z_sorted:mg "sorted"=none
 z_isinstance:mg "isinstance"=none
 z_min:mg "min"=none
 z_max:mg "max"=none
 z_tuple:mg "tuple"=none
 z_list:mg "list"=none
 z_int:mg "int"=none
 z_bool:mg "bool"=none
 z_str:mg "str"=none
 z_enumerate:mg "enumerate"=none
 z_sum:mg "sum"=none
 z_abs:mg "abs"=none
 z_set:mg "set"=none
 z_reversed:mg "reversed"=none
 z_any:mg "any"=none
 z_repr:mg "repr"=none
 z_dict:mg "dict"=none
def But (p:j8)(H H':Hp):Prop:=∀ b o,b≠p->H b=some o->H' b=some o
section
variable {K:a9}{H H1 H2:Hp}{p a:j8}{o:HO}{xs ys:List V}
theorem But.refl:But p H H:=λ _ _ _ h=>h
theorem But.trans (a:But p H H1)(b:But p H1 H2):But p H H2:=λ c o n h=>b c o n (a c o n h)
theorem But.upd:But p H (upd H p o):=λ b u n h=>by rw[aG n];exact h
theorem Same.but (h:Same H H1):But p H H1:=λ b o _ q=>h b o q
theorem But.new (h:H a=none):But p H (L2.upd H a o):=λ b u _ q=>by rw[aG (aV q h)];exact q
theorem aS (h:H a=none):Same H (upd H a o):=λ b u q=>by rw[aG (aV q h)];exact q
theorem But.tup (h:But p H H1)(hp:H p=some (.lst xs))(q:SqT K H a ys):SqT K H1 a ys:=by
 rcases q with (q | ⟨o,q⟩) | q
 ·exact .inl (.inl (h _ _ (λ z=>by subst z;rw[hp] at q;cases q) q))
 ·exact .inl (.inr ⟨o,h _ _ (λ z=>by subst z;rw[hp] at q;cases q) q⟩)
 ·exact .inr q
end
mutual
def tupD:uac->Bool
 | .none | .bool _ | .int _ | .str _=>true
 | .tuple ds=>tupAll ds
 | .list _ | .dict _=>false
def tupAll:List uac->Bool
 | []=>true
 | d::ds=>tupD d&&tupAll ds
end
mutual
theorem Is.but {K:a9}{H H':Hp}{p:j8}{xs:List V}(e:But p H H')(hp:H p=some (.lst xs)):∀ (d:uac){v:V},tupD d=true->Is K H d v->Is K H' d v
 | .none,_,_,h=>h
 | .bool _,_,_,h=>h
 | .int _,_,_,h=>h
 | .str _,_,_,h=>h
 | .tuple ds,_,t,h=>let ⟨q,vs,q1,q2,q3⟩:=h;⟨q,vs,q1,e _ _ (λ z=>by subst z;rw[hp] at q2;cases q2) q2,IsAll.but e hp ds t q3⟩
 | .list ds,_,t,h=>by cases t
 | .dict _,_,t,h=>by cases t
theorem IsAll.but {K:a9}{H H':Hp}{p:j8}{xs:List V}(e:But p H H')(hp:H p=some (.lst xs)):∀ (ds:List uac){vs:List V},tupAll ds=true->IsAll K H ds vs->IsAll K H' ds vs
 | [],_,_,h=>h
 | d::ds,_,t,h=>by
  have t':(tupD d&&tupAll ds)=true:=t
  rw[r6] at t'
  obtain⟨v,r,q1,q2,q3⟩:=h
  exact⟨v,r,q1,Is.but e hp d t'.1 q2,IsAll.but e hp ds t'.2 q3⟩
end
def Pot (H:Hp)(p:j8):Prop:=∃ a b:Int,H p=some (.lst [.int a,.int b])/\0<=a/\0<=b/\b<2147483647
theorem Pot.lst {H:Hp}{p:j8}(h:Pot H p):∃ xs,H p=some (.lst xs):=let ⟨a,b,e,_⟩:=h;⟨_,e⟩
def spPot (K:a9):Sp:=λ vs H Q _=>∃ a k,∃ ns:List Int,vs=[.ref a,.int k]/\SqL K H a (ns.map V.int)/\0<=k/\k<=100/\∀ l H',Same H H'->H l=none->Pot H' l->Q (.ref l) H'
def spTake:Sp:=λ vs H Q _=>∃ p m,vs=[.ref p,.int m]/\Pot H p/\0<m/\m<1073741824/\∀ r H',0<=r->r<m->But p H H'->Pot H' p->Q (.int r) H'
def spLength:Sp:=λ vs H Q _=>∃ p y,vs=[.ref p,.int y]/\Pot H p/\0<=y/\y<5/\∀ r H',1<=r->r<=10^18->But p H H'->Pot H' p->Q (.int r) H'
def spTied:Sp:=λ vs H Q _=>∃ p n y a b,vs=[.ref p,.int n,.int y,.int a,.int b]/\Pot H p/\∀ k H',But p H H'->Pot H' p->Q (.bl k) H'
def spOrder:Sp:=λ vs H Q _=>∃ p m,vs=[.ref p,.int m]/\Pot H p/\0<=m/\m<=1000/\∀ l H' (ms:List Int),But p H H'->Pot H' p->H l=none->l≠p->H' l=some (.lst (ms.map V.int))->ms.Perm ((c9 m.toNat).map λ i:Nat=>(i:Int))->Q (.ref l) H'
abbrev Tie:=Int × Int × Int
def tieI (t:Tie):List Int:=[t.1,t.2.1,t.2.2]
def tieD (t:Tie):uac:=.tuple ((tieI t).map .int)
def webD (n:Int)(ties:List Tie):uac:=.tuple [.int n,.tuple (ties.map tieD)]
def endLt (s t:Tie):Prop:=s.1<t.1\/(s.1=t.1/\s.2.1<t.2.1)
structure WebOk (n:Int)(ties:List Tie):Prop where
 n1:1<=n
 n24:n<=24
 rise:ties.Pairwise endLt
 few:ties.length<=60
 tie:∀ t∈ties,0<=t.1/\t.1<t.2.1/\t.2.1<n/\1<=t.2.2/\t.2.2<=10^18
def spWeb (K:a9):Sp:=λ vs H Q _=>∃ p m,vs=[.ref p,.int m]/\Pot H p/\1<=m/\m<=24/\∀ v H' n ties,But p H H'->Pot H' p->WebOk n ties->n<=m->Is K H' (webD n ties) v->Q v H'
end L3
namespace L3
structure Grown (n:Nat)(ms:List Int)(b a:Nat)(ties:List Tie):Prop where
 few:ties.length<=60
 ok:∀ t∈ties,0<=t.1/\t.1<t.2.1/\t.2.1<(n:Int)/\1<=t.2.2/\t.2.2<=10^18
 of:∀ t∈ties,∃ a' b':Nat,a'<b'/\b'<n/\(b'<b\/(b'=b/\a'<a))/\((t.1=ms.getD a' 0/\t.2.1=ms.getD b' 0)\/(t.1=ms.getD b' 0/\t.2.1=ms.getD a' 0))
 nd:ties.Pairwise λ s t=>¬ (s.1=t.1/\s.2.1=t.2.1)
theorem Grown.start {n:Nat}{ms:List Int}:Grown n ms 0 0 []:=⟨v4 _,(λ t h=>by cases h),(λ t h=>by cases h),ufp⟩
theorem Grown.down {n:Nat}{ms:List Int}{b:Nat}{ties:List Tie}(g:Grown n ms b b ties):Grown n ms (b+1) 0 ties :=
 ⟨g.few,g.ok,λ t h=>by
  obtain⟨a',b',h1,h2,h3,h4⟩:=g.of t h
  exact⟨a',b',h1,h2,.inl (by left),h4⟩,g.nd⟩
theorem Grown.skip {n:Nat}{ms:List Int}{b a:Nat}{ties:List Tie}(g:Grown n ms b a ties):Grown n ms b (a+1) ties :=
 ⟨g.few,g.ok,λ t h=>by
  obtain⟨a',b',h1,h2,h3,h4⟩:=g.of t h
  exact⟨a',b',h1,h2,by left,h4⟩,g.nd⟩
structure Perm0 (n:Nat)(ms:List Int):Prop where
 len:ms.length=n
 lo:∀ i,i<n->0<=ms.getD i 0/\ms.getD i 0<(n:Int)
 inj:∀ i j,i<n->j<n->ms.getD i 0=ms.getD j 0->i=j
theorem Perm0.of {n:Nat}{ms:List Int}(h:ms.Perm ((c9 n).map λ i:Nat=>(i:Int))):Perm0 n ms:=by
 have hl:ms.length=n:=by simpa using h.length_eq
 have nd:ms.Nodup:=(h.nodup_iff).mpr (by
  rw[uai,udl]
  exact (udr (n:=n)).imp λ h z=>h (by left))
 refine⟨hl,λ i hi=>?_,λ i j hi hj e=>?_⟩
 ·have e:ms.getD i 0=ms[i]:=by simp [ucb,show i<ms.length by left]
  have m:ms[i]'(by left)∈(c9 n).map λ i:Nat=>(i:Int):=h.mem_iff.mp (ucg _)
  rw[e]
  obtain⟨k,hk,ek⟩:=ua5.mp m
  have:=o9.mp hk
  left
 ·have e1:ms.getD i 0=ms[i]:=by simp [ucb,show i<ms.length by left]
  have e2:ms.getD j 0=ms[j]:=by simp [ucb,show j<ms.length by left]
  rw[e1,e2] at e
  exact (List.getElem_inj nd).mp e
theorem Grown.add {n:Nat}{ms:List Int}{b a:Nat}{ties:List Tie}{x y l:Int}(g:Grown n ms b a ties)(pm:Perm0 n ms)(ha:a<b)(hb:b<n)(hf:ties.length<60)(hl:1<=l)(hl2:l<=10^18)
  (hxy:(x=ms.getD a 0/\y=ms.getD b 0)\/(x=ms.getD b 0/\y=ms.getD a 0)) (hle:x<=y):Grown n ms b (a+1) (ties++[(x,y,l)]):=by
 have han:=Nat.lt_trans ha hb
 have la:=pm.lo a han
 have lb:=pm.lo b hb
 have ne:ms.getD a 0≠ms.getD b 0:=λ e=>l9 ha (pm.inj a b han hb e)
 refine⟨by rw[d6,o6];exact hf,λ t ht=>?_,λ t ht=>?_,?_⟩
 ·rcases l8.mp ht with h | h
  ·exact g.ok t h
  ·have e:t=(x,y,l):=d8.mp h
   subst e
   refine⟨?_,?_,?_,hl,hl2⟩
   ·show 0<=x
    rcases hxy with ⟨q1,q2⟩ | ⟨q1,q2⟩
    ·rw[q1];exact la.1
    ·rw[q1];exact lb.1
   ·show x<y
    refine Int.lt_iff_le_and_ne.mpr ⟨hle,λ z=>?_⟩
    rcases hxy with ⟨q1,q2⟩ | ⟨q1,q2⟩
    ·exact ne (q1.symm.trans (z.trans q2))
    ·exact ne (q2.symm.trans (z.symm.trans q1))
   ·show y<(n:Int)
    rcases hxy with ⟨q1,q2⟩ | ⟨q1,q2⟩
    ·rw[q2];exact lb.2
    ·rw[q2];exact la.2
 ·rcases l8.mp ht with h | h
  ·obtain⟨a',b',h1,h2,h3,h4⟩:=g.of t h
   exact⟨a',b',h1,h2,h3.imp id λ z=>⟨z.1,ub6 z.2⟩,h4⟩
  ·have e:t=(x,y,l):=d8.mp h
   subst e
   exact⟨a,b,ha,hb,.inr ⟨rfl,uch _⟩,hxy⟩
 ·rw[List.pairwise_append]
  refine⟨g.nd,uf0 _ _,λ t ht u hu=>?_⟩
  have e:u=(x,y,l):=d8.mp hu
  subst e
  rintro ⟨e1,e2⟩
  obtain⟨a',b',h1,h2,h3,h4⟩:=g.of t ht
  have e1':t.1=x:=e1
  have e2':t.2.1=y:=e2
  have h1n:=Nat.lt_trans h1 h2
  have fin:a'=a->b'=b->False:=λ ea eb=>h3.elim (λ z=>l9 z eb) λ z=>l9 z.2 ea
  have fin2:a'=b->b'=a->False:=λ ea eb=>Nat.lt_asymm ha (by rw[← ea,← eb];exact h1)
  rcases h4 with ⟨p1,p2⟩ | ⟨p1,p2⟩ <;> rcases hxy with ⟨q1,q2⟩ | ⟨q1,q2⟩
  ·exact fin (pm.inj a' a h1n han (p1.symm.trans (e1'.trans q1))) (pm.inj b' b h2 hb (p2.symm.trans (e2'.trans q2)))
  ·exact fin2 (pm.inj a' b h1n hb (p1.symm.trans (e1'.trans q1))) (pm.inj b' a h2 han (p2.symm.trans (e2'.trans q2)))
  ·exact fin2 (pm.inj a' b h1n hb (p2.symm.trans (e2'.trans q2))) (pm.inj b' a h2 han (p1.symm.trans (e1'.trans q1)))
  ·exact fin (pm.inj a' a h1n han (p2.symm.trans (e2'.trans q2))) (pm.inj b' b h2 hb (p1.symm.trans (e1'.trans q1)))
theorem yI {ts:List Tie}(h:ts.Pairwise λ a b=>Srt.lexI (tieI b) (tieI a)=false)(nd:ts.Pairwise λ s t=>¬ (s.1=t.1/\s.2.1=t.2.1)):ts.Pairwise endLt:=by
 refine (h.and nd).imp λ {a b} hab=>?_
 obtain⟨h1,h2⟩:=hab
 obtain⟨a1,a2,a3⟩:=a
 obtain⟨b1,b2,b3⟩:=b
 simp only [tieI,Srt.lexI] at h1
 show a1<b1\/(a1=b1/\a2<b2)
 have h2':¬ (a1=b1/\a2=b2):=h2
 by_cases e1:b1=a1
 ·rw[uf7 e1] at h1
  by_cases e2:b2=a2
  ·exact absurd ⟨e1.symm,e2.symm⟩ h2'
  ·rw[uf8 e2] at h1
   have:=uf6 h1
   exact .inr ⟨e1.symm,by left⟩
 ·rw[uf8 e1] at h1
  have:=uf6 h1
  exact .inl (by left)
end L3
namespace L3
open PySem PySem.Spec PyProof.Rows L2
section
variable {X:Cx}{pos:Pos}
theorem oA:OpR X (binaryOp .Mult) (rI (λ i j=>IntMulOk i j) λ i j=>.int (i*j)):=opI λ _ _ _ _ _ _ _ hc q=>mul_int q hc
theorem mulB:IntMulOk ((10:Int)^(60:Int).toNat) ((10:Int)^(60:Int).toNat):=IntMulOk.of_bits (by symm) (by symm)
theorem mulB2:IntMulOk ((10:Int)^(60:Int).toNat*(10:Int)^(60:Int).toNat) ((10:Int)^(60:Int).toNat):=IntMulOk.of_bits (by symm) (by symm)
theorem posB:(0:Int)<(10:Int)^(60:Int).toNat*(10:Int)^(60:Int).toNat*(10:Int)^(60:Int).toNat:=by symm
inductive call_range_i  (xs:List V) (H:Hp) (Q:VK):Prop
 | mk:∀ (j:Int),(xs=[.int j])->(∀ p,H p=none->Q (.ref p) (upd H p (.rng 0 j)))->call_range_i xs H Q
theorem uF:CallR X (.type "range") (call_range_i):=by
 intro pins s σ H xs us Q I r h
 obtain⟨j,rfl,q⟩:=h
 obtain⟨u,rfl,t,rfl⟩:=vals1 r
 refine call_range_1 ⟨.ref s.heap.objs.size,_,I.laid (a:=s.heap.objs.size) (o:=.rng 0 j) (λ b o e=>b7 _ e) (c8 _) ⟨_,_,_,i8 _ rfl⟩,rfl,q _ I.fresh⟩
inductive call_list_rng_i  (xs:List V) (H:Hp) (Q:VK):Prop
 | mk:∀ (p:j8)(j:Int),(xs=[.ref p])->(H p=some (.rng 0 j))->(0<=j)->(j<=1000)->(∀ l,H l=none->Q (.ref l) (upd H l (.lst ((c9 j.toNat).map λ i:Nat=>V.int (i:Int)))))->call_list_rng_i xs H Q
theorem rO (hh:X.calm=true):CallR X (.type "list") (call_list_rng_i):=by
 intro pins s σ H xs us Q I r h
 obtain⟨p,j,rfl,hp,hj0,hj,q⟩:=h
 obtain⟨u,rfl,rx⟩:=vals1 r
 cases rx
 obtain⟨t,u,v,e⟩:=(show ObjOk X.prog X.w H s.heap p (.rng 0 j) from I.hok p _ hp)
 refine call_list_range (n:=j.toNat) (I.ok.hd hh) (show IsRange s.heap p 0 j 1 t u v from e) (small_one (by left) (by left) (by left) (by left)) (by rw[rangeSize_one];split <;> left) (by left) λ h' tk acc c hk hS hacc=>?_
 refine⟨.ref s.heap.objs.size,_,I.laid (a:=s.heap.objs.size) (o:=.lst ((c9 j.toNat).map λ i:Nat=>V.int (i:Int))) (t':=tk) hk (c8 _) ⟨?_,acc.toList,c,?_,by simpa using hS⟩,rfl,q _ I.fresh⟩
 ·rw[c6,p8,ubj];left
 ·have go:∀ (n:Nat)(l:List b9),l.length=n->(∀ (k:Nat)(v:b9),l[k]?=some v->∃ t,v=Value.int (0+(k:Int)*1) t)->Vals ((c9 n).map λ i:Nat=>V.int (i:Int)) l:=by
   intro n l hl hv
   have gen:∀ (l:List b9)(o:Nat),(∀ (k:Nat)(v:b9),l[k]?=some v->∃ t,v=Value.int ((o+k:Nat):Int) t)->Vals ((ueg o l.length).map λ i:Nat=>V.int (i:Int)) l:=by
    intro l
    induction l with
    | nil=>intro o _;exact .nil
    | cons x r ih =>
     intro o h
     rw[k9,ue2,ua1]
     obtain⟨t,ht⟩:=h 0 x rfl
     refine .cons ⟨t,by simpa using ht⟩ (ih (o+1) λ k v hk=>?_)
     obtain⟨t,ht⟩:=h (k+1) v (by simpa using hk)
     exact⟨t,by rw[ht];congr 1;left⟩
   have:=gen l 0 λ k v hk=>by
    obtain⟨t,ht⟩:=hv k v hk
    exact⟨t,by rw[ht];congr 1;left⟩
   rw[hl] at this
   rw[List.range_eq_range']
   exact this
  refine go _ _ (by simpa using hacc.1) λ k v hk=>hacc.2 k v (by simpa using hk)
end
theorem kS {α:Type}:∀ (l:List α)(k:Nat)(h:k<l.length),(l[k]::l.eraseIdx k).Perm l
 | [],k,h=>absurd h (ub0 _)
 | a::l,0,_=>udm.refl _
 | a::l,k+1,h=>by
  have h':k<l.length:=by simpa using h
  show (l[k]::a::l.eraseIdx k).Perm (a::l)
  exact (udm.swap a l[k] _).trans ((kS l k h').cons a)
theorem lL {α β:Type}(f:α->β):∀ (l:List α)(k:Nat),(l.eraseIdx k).map f=(l.map f).eraseIdx k
 | [],_=>rfl
 | _::_,0=>rfl
 | a::l,k+1=>by
  show f a::(l.eraseIdx k).map f=f a::(l.map f).eraseIdx k
  rw[lL f l k]
def TieL (H:Hp)(ys:List V)(ts:List Tie):Prop:=Paired (λ (y:V) (t:Tie)=>∃ a,y=.ref a/\H a=some (.tup ((tieI t).map V.int))) ys ts
theorem TieL.keep {H H':Hp}{ys:List V}{ts:List Tie}(h:TieL H ys ts)(k:∀ a xs,H a=some (.tup xs)->H' a=some (.tup xs)):TieL H' ys ts :=
 Paired.mapP h λ y t ⟨a,e1,e2⟩=>⟨a,e1,k _ _ e2⟩
theorem TieL.snoc {H:Hp}{ys:List V}{ts:List Tie}{a:j8}{t:Tie}(h:TieL H ys ts)(e:H a=some (.tup ((tieI t).map V.int))):TieL H (ys++[.ref a]) (ts++[t]):=Paired.snoc h ⟨a,rfl,e⟩
theorem kO {α β γ:Type}{F:β->γ->Prop}(f:α->β)(g:α->γ):∀ {l:List α},(∀ x∈l,F (f x) (g x))->Paired F (l.map f) (l.map g)
 | [],_=>.nil
 | x::l,h=>.cons (h x g9) (kO f g λ y hy=>h y (j4 _ hy))
theorem kN {α β γ:Type}{F:α->β->Prop}{f:β->γ}:∀ {l:List α}{r:List β},Paired F l r->∀ q∈l.zip (r.map f),∃ b,q.2=f b/\F q.1 b
 | _,_,.nil,q,h=>by cases h
 | _,_,.cons (a:=a) (b:=b) x t,q,h=>by
  rw[ua1,udd] at h
  rcases h9.mp h with e | h
  ·subst e;exact⟨b,rfl,x⟩
  ·exact kN t q h
theorem kH {F:V->Tie->Prop}{G:V->List Int->Prop}(h:∀ y t,F y t->G y (tieI t)):∀ {ys:List V}{ts:List Tie},Paired F ys ts->Paired G ys (ts.map tieI)
 | _,_,.nil=>.nil
 | _,_,.cons x t=>.cons (h _ _ x) (kH h t)
def tieOf:List Int->Tie
 | [a,b,c]=>(a,b,c)
 | _=>(0,0,0)
theorem yC (t:Tie):tieOf (tieI t)=t:=rfl
theorem yA {H:Hp}{ys:List V}{ts:List Tie}(h:TieL H ys ts){qs:List (V × List Int)}(p:qs.Perm (ys.zip (ts.map tieI)))(w:qs.Pairwise λ a b=>Srt.lexI b.2 a.2=false) :
  ∃ ts':List Tie,ts'.Perm ts/\TieL H (qs.map (·.1)) ts'/\ts'.Pairwise λ a b=>Srt.lexI (tieI b) (tieI a)=false:=by
 have mem:∀ q∈qs,∃ t,q.2=tieI t/\∃ a,q.1=.ref a/\H a=some (.tup ((tieI t).map V.int)):=λ q hq=>kN h q (p.mem_iff.mp hq)
 have back:∀ q∈qs,tieI (tieOf q.2)=q.2:=λ q hq=>by
  obtain⟨t,e,_⟩:=mem q hq
  rw[e];rfl
 refine⟨qs.map λ q=>tieOf q.2,?_,kO _ _ λ q hq=>?_,?_⟩
 ·have e1:(qs.map λ q=>tieOf q.2).Perm ((ys.zip (ts.map tieI)).map λ q=>tieOf q.2):=p.map _
  have e2:(ys.zip (ts.map tieI)).map (λ q=>tieOf q.2)=ts:=by
   have l:ys.length=(ts.map tieI).length:=by rw[c6];exact Paired.length h
   have:(ys.zip (ts.map tieI)).map (λ q=>tieOf q.2)=((ys.zip (ts.map tieI)).map (·.2)).map tieOf:=by rw[ubd];rfl
   rw[this,List.map_snd_zip (ue1 l.symm),ubd]
   exact (List.map_congr_left λ t _=>yC t).trans (List.map_id _)
  rw[e2] at e1
  exact e1
 ·obtain⟨t,e,a,ea,eh⟩:=mem q hq
  refine⟨a,ea,?_⟩
  rw[back q hq,e];exact eh
 ·rw[udl]
  refine w.imp_of_mem λ {a b} ha hb z=>?_
  rw[back a ha,back b hb];exact z
theorem TieL.is {K:a9}{H:Hp}:∀ {ys:List V}{ts:List Tie},TieL H ys ts->IsAll K H (ts.map tieD) ys
 | _,_,.nil=>rfl
 | _,_,.cons (a:=y) (b:=t) ⟨a,e1,e2⟩ r=>⟨_,_,rfl,⟨a,_,e1,e2,IsAll.ints _⟩,TieL.is r⟩
theorem tO {x y:Int}{ms:List Int}(p:ms.Perm [x,y])(w:ms.Pairwise (·<=·)):∃ a b,ms=[a,b]/\a<=b/\((a=x/\b=y)\/(a=y/\b=x)):=by
 have hl:=p.length_eq
 match ms,hl,p,w with
 | [a,b],_,p,w =>
  refine⟨a,b,rfl,by simpa using w,?_⟩
  have ha:a∈[x,y]:=p.mem_iff.mp (by simp)
  rcases h9.mp ha with e | e
  ·subst e
   have:=(List.perm_cons a).mp p
   have e2:b=y:=by simpa using List.perm_singleton.mp this
   exact .inl ⟨rfl,e2⟩
  ·have e':a=y:=by simpa using e
   subst e'
   have p2:[a,b].Perm [a,x]:=p.trans (udm.swap a x [])
   have:=(List.perm_cons a).mp p2
   have e2:b=x:=by simpa using List.perm_singleton.mp this
   exact .inr ⟨rfl,e2⟩
def TupKeep (H H':Hp):Prop:=∀ a xs,H a=some (.tup xs)->H' a=some (.tup xs)
section
variable {J:It}{g:TG}{te:TE}{own:List Str}{js:List Nat}{σ:L2.St}{H1:Hp}{Q:VK}
theorem gD (n:Nat)(Sg:L2.St->Prop)(R:Nat->V->Hp->Prop)(hn:n<=1000)(h0:Sg (start3 own js σ))(mono:∀ i v H H',TupKeep H H'->R i v H->R i v H')
  (go:∀ i H',i<n->Same H1 H'->J.go i H') (stop:∀ H',Same H1 H'->J.stop n H')
  (step:∀ i x σ' H' H2,i<n->Same H1 H'->J.yld i H' x H2->Sg σ'->∀ C:L2.St->V->Hp->Prop,(∀ σ3 v H5,Sg σ3->Same H' H5->R i v H5->C σ3 v H5)->g x σ' H2 λ σ3 H3=>te σ3 H3 λ v H5=>C σ3 v H5)
  (fin:∀ D ys H',H1 D=none->Same H1 H'->H' D=some (.lst ys)->ys.length=n->(∀ i v,ys[i]?=some v->R i v H')->Q (.ref D) H'):CompGo own js g tTrue te σ Q J H1:=by
 intro D hD
 refine⟨λ i m ys σ' H'=>m=n-i/\i<=n/\Sg σ'/\Same H1 H'/\ys.length=i/\∀ j v,ys[j]?=some v->R j v H',⟨n,rfl,v4 _,h0,aS hD,rfl,λ j v e=>by simp at e⟩,?_⟩
 rintro i m ys σ' H' ⟨rfl,hi,sg,sm,hl,hr⟩ hd
 by_cases hlt:i<n
 ·refine .inr ⟨go i H' hlt sm,λ x H2 hy=>?_⟩
  refine step i x σ' H' H2 hlt sm hy sg (λ σ3 v H5=>H5 D=some (.lst ys)/\ys.length<m3/\∃ m',m'<n-i/\(m'=n-(i+1)/\i+1<=n/\Sg σ3/\Same H1 (upd H5 D (.lst (ys++[v])))/\(ys++[v]).length=i+1/\∀ j u,(ys++[v])[j]?=some u->R j u (upd H5 D (.lst (ys++[v]))))) λ σ3 v H5 sg3 s5 r5=>?_
  have hd5:=s5 _ _ hd
  refine⟨hd5,uak (by left:ys.length<=1000) (by decide),n-(i+1),by left,rfl,hlt,sg3,λ b o e=>?_,by rw[d6,o6,hl],λ j u e=>?_⟩
  ·rw[aG (aV e hD)];exact s5 _ _ (sm _ _ e)
  ·have tk5:TupKeep H5 (upd H5 D (.lst (ys++[v]))):=λ a xs e=>by rw[aG (λ z=>by rw[z,hd5] at e;cases e)];exact e
   by_cases hj:j<ys.length
   ·rw[uab hj] at e
    exact mono _ _ _ _ tk5 (mono _ _ _ _ (λ a xs z=>s5 _ _ z) (hr j u e))
   ·rw[x9 (by left)] at e
    have ej:j=ys.length:=by
     have:=(i3.mp e).1
     simp at this;left
    subst ej
    have eu:v=u:=by simpa using e
    subst eu
    rw[hl]
    exact mono _ _ _ _ tk5 r5
 ·have e:i=n:=by left
  subst e
  exact .inl ⟨stop H' sm,fin D ys H' hD sm hd hl hr⟩
theorem xM {K:a9}{a:j8}{xs:List V}(hx:H1 a=some (.tup xs))(Sg:L2.St->Prop)(R:Nat->V->Hp->Prop)(hn:xs.length<=1000)(h0:Sg (start3 own js σ))(mono:∀ i v H H',TupKeep H H'->R i v H->R i v H')
  (step:∀ i x σ' H',xs[i]?=some x->Same H1 H'->Sg σ'->∀ C:L2.St->V->Hp->Prop,(∀ σ3 v H5,Sg σ3->Same H' H5->R i v H5->C σ3 v H5)->g x σ' H' λ σ3 H3=>te σ3 H3 λ v H5=>C σ3 v H5)
  (fin:∀ D ys H',H1 D=none->Same H1 H'->H' D=some (.lst ys)->ys.length=xs.length->(∀ i v,ys[i]?=some v->R i v H')->Q (.ref D) H'):CompGo own js g tTrue te σ Q (Itt K a) H1:=by
 refine gD xs.length Sg R hn h0 mono (λ i H' hi s=>⟨xs,xs[i],SqT.of (s _ _ hx),by simp [hi]⟩) (λ H' s=>⟨xs,SqT.of (s _ _ hx),c8 _⟩) (λ i x σ' H' H2 hi s hy sg C hC=>?_) fin
 obtain⟨rfl,hy⟩:=hy
 exact step i x σ' _ (hy xs (SqT.of (s _ _ hx))) s sg C hC
theorem xN {K:a9}{a:j8}{xs:List V}(hx:H1 a=some (.lst xs))(Sg:L2.St->Prop)(R:Nat->V->Hp->Prop)(hn:xs.length<=1000)(h0:Sg (start3 own js σ))(mono:∀ i v H H',TupKeep H H'->R i v H->R i v H')
  (step:∀ i x σ' H',xs[i]?=some x->Same H1 H'->Sg σ'->∀ C:L2.St->V->Hp->Prop,(∀ σ3 v H5,Sg σ3->Same H' H5->R i v H5->C σ3 v H5)->g x σ' H' λ σ3 H3=>te σ3 H3 λ v H5=>C σ3 v H5)
  (fin:∀ D ys H',H1 D=none->Same H1 H'->H' D=some (.lst ys)->ys.length=xs.length->(∀ i v,ys[i]?=some v->R i v H')->Q (.ref D) H'):CompGo own js g tTrue te σ Q (Itl K a) H1:=by
 refine gD xs.length Sg R hn h0 mono (λ i H' hi s=>⟨xs,xs[i],SqL.of (s _ _ hx),by simp [hi]⟩) (λ H' s=>⟨xs,SqL.of (s _ _ hx),c8 _⟩) (λ i x σ' H' H2 hi s hy sg C hC=>?_) fin
 obtain⟨rfl,hy⟩:=hy
 exact step i x σ' _ (hy xs (SqL.of (s _ _ hx))) s sg C hC
theorem SqX.of {t:Bool}{K:a9}{H:Hp}{a:j8}{xs:List V}(h:H a=some (if t=true then .tup xs else .lst xs)):SqX t K H a xs:=by
 cases t with
 | true=>exact SqT.of h
 | false=>exact SqL.of h
theorem iZ {t1 t2:Bool}{K:a9}{a b:j8}{xs zs:List V}(hx:H1 a=some (if t1=true then .tup xs else .lst xs))(hz:H1 b=some (if t2=true then .tup zs else .lst zs))(Sg:L2.St->Prop)(R:Nat->V->Hp->Prop)(hn:xs.length<=1000)
  (h0:Sg (start3 own js σ)) (mono:∀ i v H H',TupKeep H H'->R i v H->R i v H')
  (step:∀ i x z T σ' H',xs[i]?=some x->zs[i]?=some z->Same H1 H'->H' T=none->Sg σ'->∀ C:L2.St->V->Hp->Prop,(∀ σ3 v H5,Sg σ3->Same H' H5->R i v H5->C σ3 v H5)->g (.ref T) σ' (upd H' T (.tup [x,z])) λ σ3 H3=>te σ3 H3 λ v H5=>C σ3 v H5)
  (fin:∀ D ys H',H1 D=none->Same H1 H'->H' D=some (.lst ys)->ys.length=min xs.length zs.length->(∀ i v,ys[i]?=some v->R i v H')->Q (.ref D) H'):CompGo own js g tTrue te σ Q (Itz t1 t2 K a b) H1:=by
 have s1:∀ H',Same H1 H'->SqX t1 K H' a xs:=λ H' s=>SqX.of (s _ _ hx)
 have s2:∀ H',Same H1 H'->SqX t2 K H' b zs:=λ H' s=>SqX.of (s _ _ hz)
 refine gD (min xs.length zs.length) Sg R (by left) h0 mono (λ i H' hi s=>⟨xs,zs,xs[i]'(by left),zs[i]'(by left),s1 H' s,s2 H' s,by simp [show i<xs.length by left],by simp [show i<zs.length by left]⟩)
  (λ H' s=>⟨xs,zs,s1 H' s,s2 H' s,by left⟩) (λ i x σ' H' H2 hi s hy sg C hC=>?_) fin
 obtain⟨T,x1,z1,hT,rfl,rfl,e1,e2⟩:=hy
 exact step i x1 z1 T σ' H' (e1 _ (s1 H' s)) (e2 _ (s2 H' s)) s hT sg C hC
end
theorem xQ {f:Nat->Bool}{n:Nat}{ys:List V}(hl:ys.length=n)(h:∀ (i:Nat) (v:V),ys[i]?=some v->v=V.bl (f i)):ys=((c9 n).map f).map V.bl:=by
 refine uba λ i=>?_
 by_cases hi:i<n
 ·obtain⟨v,hv⟩:∃ v,ys[i]?=some v:=⟨ys[i],b6 (by left)⟩
  rw[hv,h i v hv]
  simp [hi]
 ·rw[o7 (by left),o7 (by simp;left)]
def wholeB:uac->Bool
 | .int _=>true
 | _=>false
def tieB (n:Int):uac->Bool
 | .tuple [.int a,.int b,.int l]=>decide (0<=a)&&decide (a<b)&&decide (b<n)&&decide (1<=l)&&decide (l<=10^18)
 | _=>false
def few:uac->Prop
 | .tuple ds=>ds.length<=1000
 | .list ds=>ds.length<=1000
 | _=>True
section
variable {g:TG}{te:TE}{own:List Str}{js:List Nat}{σ:L2.St}{H1:Hp}{Q:VK}
end
def e2 (e:Int × Int):List Int:=[e.1,e.2]
def risingB (es:List (Int × Int)):Bool:=((c9 (min es.length (es.drop 1).length)).map λ i=>HT.lexLt (e2 (es.getD i (0,0))) (e2 ((es.drop 1).getD i (0,0)))).all id
def TwoL (H:Hp)(ys:List V)(es:List (Int × Int)):Prop:=Paired (λ (y:V) (e:Int × Int)=>∃ a,y=.ref a/\H a=some (.tup [.int e.1,.int e.2])) ys es
theorem TwoL.get {H:Hp}:∀ {ys:List V}{es:List (Int × Int)}{i:Nat}{y:V},TwoL H ys es->ys[i]?=some y->∃ a,y=.ref a/\H a=some (.tup ((e2 (es.getD i (0,0))).map V.int))
 | _,_,_,_,.nil,h=>by simp at h
 | _,_,0,y,.cons (a:=y0) r t,h=>by
  have e:y0=y:=by simpa using h
  subst e
  exact r
 | _,_,i+1,_,.cons r t,h=>TwoL.get (i:=i) t (by simpa using h)
section
variable {g:TG}{te:TE}{own:List Str}{js:List Nat}{σ:L2.St}{H1:Hp}{Q:VK}
end
theorem TieL.get {H:Hp}{ys:List V}{us:List Tie}{i:Nat}{x:V}(h:TieL H ys us)(e:ys[i]?=some x):∃ a,x=.ref a/\H a=some (.tup ((tieI (us.getD i (0,0,0))).map V.int)):=by
 induction h generalizing i with
 | nil=>simp at e
 | @cons y0 _ _ _ r t ih =>
  cases i with
  | zero =>
   have e':y0=x:=by simpa using e
   rw[← e'];exact r
  | succ i=>exact ih (i:=i) (by simpa using e)
section
variable {X:Cx}{own fr:List Str}{scope:Scope}{fp:List j8}{pins:List (j8 × Obj)}{s3:c7}{H3:Hp}{pos:Pos}
theorem fJ {es:List ubv}{k:Nat}{t:TGs}{n:Nat}(hc:X.calm=true)(h:PGs (cxComp X own fr scope fp pins s3 H3) es t)
  (hn:(assignEach es (cxComp X own fr scope fp pins s3 H3).env).length=n:=by rfl) (hst:(assignEach es (cxComp X own fr scope fp pins s3 H3).env).findIdx? (·.1)=none:=by rfl):PG (cxComp X own fr scope fp pins s3 H3) (.Tuple es k pos) (gTup X.K n t) :=
 bP (X:=cxComp X own fr scope fp pins s3 H3) hc h hn hst
theorem xC:IxR (cxComp X own fr scope fp pins s3 H3) (rIxL X.K):=aQ (X:=cxComp X own fr scope fp pins s3 H3)
theorem dB:IxR (cxComp X own fr scope fp pins s3 H3) (rIxT X.K):=aP (X:=cxComp X own fr scope fp pins s3 H3)
theorem tY:OpR (cxComp X own fr scope fp pins s3 H3) (compareOp .In) (rIn X.K false):=vB (X:=cxComp X own fr scope fp pins s3 H3)
theorem rG:OpR (cxComp X own fr scope fp pins s3 H3) (compareOp .NotIn) (rIn X.K true):=rW (X:=cxComp X own fr scope fp pins s3 H3)
end
def KeepOk (m:Nat)(ks:List Nat):Prop:=ks.Pairwise (·<·)/\∀ k∈ks,k<m
def keepI (ks:List Nat):List Int:=ks.map λ k:Nat=>(k:Int)
def keepD (ks:List Nat):uac:=.tuple ((keepI ks).map .int)
theorem KeepOk.len {m:Nat}{ks:List Nat}(h:KeepOk m ks):ks.length<=m:=by
 have go:∀ (ks:List Nat)(lo m:Nat),ks.Pairwise (·<·)->(∀ k∈ks,lo<=k/\k<m)->ks.length+lo<=max m lo:=by
  intro ks
  induction ks with
  | nil=>intro lo m _ _;simp;left
  | cons k r ih =>
   intro lo m hp hb
   have h1:=hb k g9
   have:=ih (k+1) m (ude.mp hp).2 λ j hj=>⟨(ude.mp hp).1 j hj,(hb j (j4 _ hj)).2⟩
   rw[k9]
   left
 have:=go ks 0 m h.1 λ k hk=>⟨v4 _,h.2 k hk⟩
 left
def spKeep (K:a9):Sp:=λ vs H Q _=>∃ (p:j8)(n:Int)(ts:List Tie)(v:V),vs=[.ref p,v]/\Pot H p/\Is K H (webD n ts) v/\ts.length<=60/\∀ v' H' ks,But p H H'->Pot H' p->KeepOk ts.length ks->Is K H' (keepD ks) v'->Q v' H'
theorem bM {K:a9}{H:Hp}{n:Int}{ts:List Tie}{v:V}(h:Is K H (webD n ts) v):∃ (p g:j8)(ws:List V),v=.ref p/\H p=some (.tup [.int n,.ref g])/\H g=some (.tup ws)/\IsAll K H (ts.map tieD) ws/\ws.length=ts.length:=by
 obtain⟨p,vs,rfl,hp,v1,r1,rfl,e1,v2,r2,rfl,⟨g,ws,rfl,hg,hall⟩,e3⟩:=h
 have e1':v1=.int n:=e1
 have e3':r2=[]:=e3
 subst e1' e3'
 exact⟨p,g,ws,rfl,hp,hg,hall,by have:=hall.length;rw[c6] at this;exact this⟩
end L3
namespace Z3
open PySem
section
variable {prog:j9}{w:v9}{A:v7}{E:b9->c7->Prop}{s:c7}
theorem xI (t:Bool)(l:j8)(xs:Array b9) :
  Meets (Builtin.«enumerate.__new__» ⟨[.type "enumerate",.ref l],[]⟩) (λ _ R s=>SqAt t s.heap l xs /\
   R (.ok (.ret (.ref (s.heap.push (itObj t l)).objs.size))) { s with heap:=(s.heap.push (itObj t l)).push { cls:=.type "enumerate",data:=.fields #[.none,.bool false,.ref s.heap.objs.size,rawInt 0,.none,.none] } }) :=
 .of_wp λ prog w A R s h=>by
  obtain⟨hp,g,d,tk,os⟩:=s;obtain⟨hl,h⟩:=h
  have hsub:=sub_enumerate
  have b1:SqAt t (Shared.heap ⟨hp,g,d,tk,os⟩) l xs:=hl
  obtain⟨o,ho⟩:∃ o,hp.get? l=some o:=by
   cases t with
   | true=>obtain⟨o,q,_⟩:=(show hp.IsTuple l xs from hl);exact⟨o,q⟩
   | false=>obtain⟨o,q,_⟩:=(show hp.IsList l xs from hl);exact⟨o,q⟩
  wp_walk using AutoSeq1.wpAny_loadPart' ho
  refine wpAny_stack_any λ st=>?_
  refine d3 ?_
  split
  ·rename_i c _ _ _ _ _
   rcases (c==Value.type "enumerate") with _ | _
   ·wp_walk using AutoSeq1.wpAny_loadPart' ho,fK b1
    exact⟨_,rfl,h⟩
   ·wp_walk using AutoSeq1.wpAny_loadPart' ho,fK b1
    exact⟨_,rfl,h⟩
  ·wp_walk using AutoSeq1.wpAny_loadPart' ho,fK b1
   exact⟨_,rfl,h⟩
theorem wA {t:Bool}{l:j8}{xs:Array b9}{Q:b9->c7->Prop}(hl:SqAt t s.heap l xs)
  (h:∀ h',IsEnum h' (s.heap.objs.size+1) s.heap.objs.size ((0:Nat):Int) .none->ItAt t h' s.heap.objs.size l 0->h'.objs.size=s.heap.objs.size+2->(∀ b o,s.heap.get? b=some o->h'.get? b=some o)->Q (.ref (s.heap.objs.size+1)) { s with heap:=h' }) :
  k8 (v5 prog w) A (call (.type "enumerate") [.ref l]) Q E s:=by
 refine ufq F.called_enumerate (by decide) (F.typeCall_enumerate_1 _) (F.newCall_enumerate_1 _) (λ obj=>F.args_object_init_2 obj _) F.entry_enumerate_new (xI t l xs) ⟨hl,?_⟩
 have z1:(s.heap.push (itObj t l)).objs.size=s.heap.objs.size+1:=uao ..
 have g1:ItAt t ((s.heap.push (itObj t l)).push { cls:=.type "enumerate",data:=.fields #[.none,.bool false,.ref s.heap.objs.size,rawInt 0,.none,.none] }) s.heap.objs.size l 0:=(ItAt.new (t:=t) (h:=s.heap) (l:=l)).to λ o e=>b7 _ e
 have g2:((s.heap.push (itObj t l)).push { cls:=.type "enumerate",data:=.fields #[.none,.bool false,.ref s.heap.objs.size,rawInt 0,.none,.none] }).get? (s.heap.push (itObj t l)).objs.size=some _:=i8 _ rfl
 show _/\_
 rw[z1] at g2 ⊢
 exact⟨⟨_,g2,rfl⟩,h _ g2 g1 (by rw[uao,z1]) λ b o q=>b7 _ (b7 _ q)⟩
theorem vS {t:Bool}{e it l:j8}{i:Nat}{xs:Array b9}{x old:b9}{Q:b9->c7->Prop}(he:IsEnum s.heap e it i old)(hi:ItAt t s.heap it l i)(hl:SqAt t s.heap l xs)(hx:xs[i]?=some x)(ne:e≠it)
  (hQ:∀ h',IsEnumOut h' e it ((i:Int)+1) x s.heap.objs.size->ItAt t h' it l (i+1)->h'.get? s.heap.objs.size=some { cls:=.type "tuple",data:=.seq #[.int i s.toks,x] }->h'.objs.size=s.heap.objs.size+1 ->
   (∀ b o,b≠e->b≠it->s.heap.get? b=some o->h'.get? b=some o)->Q (.ref s.heap.objs.size) { s with heap:=h',toks:=s.toks+1 }) :
  k8 (v5 prog w) A (Builtin.«enumerate.__next__» ⟨[.ref e],[]⟩) (λ fin s'=>∃ v,fin=.done (.ret v)/\Q v s') E s:=by
 obtain⟨hp,g,d,tk,os⟩:=s
 show k8 _ _ (field (.ref e) 2 >>= _) _ _ _
 refine a8 (p7 he rfl (x:=.ref it) rfl (a8 (gP hi hl hx λ k1 i1 s1=>?_)))
 replace s1:Heap.SameBut it hp k1:=s1
 have q1:IsEnum k1 e it i old:=(s1.2 e ne).trans he
 show k8 _ _ (field (.ref e) 3 >>= _) _ _ ⟨k1,g,d,tk,os⟩
 refine a8 (p7 q1 rfl (x:=rawInt i) rfl ?_)
 show k8 _ _ (field (.ref e) 4 >>= _) _ _ ⟨k1,g,d,tk,os⟩
 refine a8 (p7 q1 rfl (x:=.none) rfl ?_)
 show k8 _ _ (mkInt i >>= _) _ _ ⟨k1,g,d,tk,os⟩
 refine a8 (wpAny_mkInt ?_)
 show k8 _ _ (setField (.ref e) 3 (rawInt ((i:Int)+1)) >>= _) _ _ ⟨k1,g,d,tk+1,os⟩
 refine a8 (x8 q1 (by simp) λ k2 q2 s2=>?_)
 replace s2:Heap.SameBut e k1 k2:=s2
 replace q2:IsEnum k2 e it ((i:Int)+1) old:=q2
 show k8 _ _ (setField (.ref e) 4 .none >>= _) _ _ ⟨k2,g,d,tk+1,os⟩
 refine a8 (x8 q2 (by simp) λ k3 q3 s3=>?_)
 replace s3:Heap.SameBut e k2 k3:=s3
 replace q3:IsEnum k3 e it ((i:Int)+1) old:=q3
 show k8 _ _ (newTuple [.int i tk,x] >>= _) _ _ ⟨k3,g,d,tk+1,os⟩
 refine a8 (wpAny_newTuple ?_)
 have q4:IsEnum (k3.push { cls:=.type "tuple",data:=.seq #[.int i tk,x] }) e it ((i:Int)+1) old:=b7 _ q3
 generalize hk4:k3.push { cls:=.type "tuple",data:=.seq #[.int i tk,x] }=k4 at q4
 have sz:k3.objs.size=hp.objs.size:=by rw[s3.1,s2.1,s1.1]
 have lt:e<hp.objs.size:=i7 he
 have t4:k4.get? hp.objs.size=some { cls:=.type "tuple",data:=.seq #[.int i tk,x] }:=by rw[← hk4,← sz];exact i8 _ rfl
 have z4:k4.objs.size=hp.objs.size+1:=by rw[← hk4,uao,sz]
 have up4:∀ b o,b≠e->b≠it->hp.get? b=some o->k4.get? b=some o:=λ b o n1 n2 q=>by
  rw[← hk4];exact b7 _ (s3.extBut b o n1 (s2.extBut b o n1 (s1.extBut b o n2 q)))
 have i4:ItAt t k4 it l (i+1):=i1.to λ o q=>by
  rw[← hk4];exact b7 _ (s3.extBut _ _ ne.symm (s2.extBut _ _ ne.symm q))
 show k8 _ _ (Builtin.SmallTypes.ownedTupleIsFree (.ref e) >>= _) _ _ ⟨k4,g,d,tk+1,os⟩
 rw[sz]
 clear hk4 q3 s3 q2 s2 q1 s1 i1 sz k3 k2 k1
 refine a8 ?_
 unfold Builtin.SmallTypes.ownedTupleIsFree
 refine a8 (p7 q4 rfl (x:=.none) rfl (d3 ?_))
 simp only [if_true]
 refine a8 (udh (a8 (p7 q4 rfl (x:=old) rfl (a8 (x8 q4 (by simp) λ k5 q5 s5=>?_)))))
 replace s5:Heap.SameBut e k4 k5:=s5
 replace q5:IsEnum k5 e it ((i:Int)+1) x:=q5
 show k8 _ _ (Builtin.SmallTypes.ownedTupleHandOut (.ref e) (.ref hp.objs.size) >>= _) _ _ ⟨k5,g,d,tk+1,os⟩
 refine a8 ?_
 unfold Builtin.SmallTypes.ownedTupleHandOut
 refine a8 (x8 q5 (by simp) λ k6 q6 s6=>?_)
 replace s6:Heap.SameBut e k5 k6:=s6
 replace q6:IsEnumOut k6 e it ((i:Int)+1) x hp.objs.size:=q6
 refine x8 q6 (by simp) λ k7 q7 s7=>?_
 replace s7:Heap.SameBut e k6 k7:=s7
 replace q7:IsEnumOut k7 e it ((i:Int)+1) x hp.objs.size:=q7
 have up:∀ b o,b≠e->k4.get? b=some o->k7.get? b=some o:=λ b o n q=>s7.extBut b o n (s6.extBut b o n (s5.extBut b o n q))
 exact a8 (uc5 (d3 ⟨_,rfl,hQ k7 q7 (i4.to λ o q=>up _ o ne.symm q) (up _ _ (uc1 lt) t4) (by rw[s7.1,s6.1,s5.1,z4]) λ b o n1 n2 q=>up b o n1 (up4 b o n1 n2 q)⟩))
theorem qW {t:Bool}{e it l:j8}{i:Nat}{xs:Array b9}{x old:b9}{Q:Option b9->c7->Prop}(he:IsEnum s.heap e it i old)(hi:ItAt t s.heap it l i)(hl:SqAt t s.heap l xs)(hx:xs[i]?=some x)(ne:e≠it)
  (hQ:∀ h',IsEnumOut h' e it ((i:Int)+1) x s.heap.objs.size->ItAt t h' it l (i+1)->h'.get? s.heap.objs.size=some { cls:=.type "tuple",data:=.seq #[.int i s.toks,x] }->h'.objs.size=s.heap.objs.size+1 ->
   (∀ b o,b≠e->b≠it->s.heap.get? b=some o->h'.get? b=some o)->Q (some (.ref s.heap.objs.size)) { s with heap:=h',toks:=s.toks+1 }) :
  k8 (v5 prog w) A (pyNext (.ref e)) Q E s:=by
 have ty:s.TypeIs (.ref e) "enumerate":=⟨_,he,rfl⟩
 unfold pyNext
 exact a8 (uce (v6 (name := u6 "__next__") ty uc6 (uaa uc6 ty F.entry_enumerate_next
     (vS he hi hl hx ne λ h' a b c d k=>d3 (hQ h' a b c d k)) (F.args_enumerate_next_1 _))))
theorem qV {t:Bool}{e it l:j8}{i:Nat}{xs:Array b9}{old:b9}{Q:Option b9->c7->Prop}(hh:A.handled=none)(he:IsEnum s.heap e it i old)(hi:ItAt t s.heap it l i)(hl:SqAt t s.heap l xs)(hx:xs[i]?=none)
  (hQ:∀ h',uef it s.heap h'->Q none { s with heap:=h' }):k8 (v5 prog w) A (pyNext (.ref e)) Q E s:=by
 have ty:s.TypeIs (.ref e) "enumerate":=⟨_,he,rfl⟩
 unfold pyNext
 refine a8 (uce (v6 (name:=u6 "__next__") ty uc6 (uaa uc6 ty F.entry_enumerate_next ?_ (F.args_enumerate_next_1 _))))
 show k8 _ _ (field (.ref e) 2 >>= _) _ _ _
 refine a8 (p7 he rfl (x:=.ref it) rfl (a8 (jE hh hi hl hx λ h' x k ⟨o,p1,p2⟩=>?_)))
 exact a8 (uea (T:="StopIteration") (b:=true) ⟨o,p1,p2⟩ isSubtype_stop (d3 (hQ _ k)))
end
end Z3
namespace L3
open PySem PySem.Spec PyProof.Rows L2
def Itn (t:Bool)(K:a9)(l:j8):It :=
 ⟨λ i H=>∃ xs x,SqX t K H l xs/\xs[i]?=some x,
  λ i H v H'=>∃ T x,H T=none/\v=.ref T/\H'=upd H T (.tup [.int (i:Nat),x])/\(∀ xs,SqX t K H l xs->xs[i]?=some x),
  λ i H=>∃ xs,SqX t K H l xs/\xs.length<=i⟩
theorem uO {P:j9}{w:v9}{K:a9}{elts:List ubv}{kk:Nat}{pos:Pos}{t:Bool}{e it l:j8}(n1:e≠it)(n2:l≠e)(n3:l≠it) :
  Turn P w K (.Tuple elts kk pos) (Itn t K l) [e,it] e (λ i h=>(∃ old,IsEnum h e it (i:Int) old)/\Z3.ItAt t h it l i) where
 mem:=by simp
 obj:=λ i h st b hb=>by
  obtain⟨⟨old,q1⟩,q2⟩:=st
  obtain⟨o2,m2,e2,_,d2⟩:=q2.obj
  simp only [h9,u4,or_false] at hb
  rcases hb with rfl | rfl
  ·exact⟨_,q1,λ v q=>by cases q⟩
  ·exact⟨_,e2,λ v q=>by rw[d2] at q;cases q⟩
 keep:=λ i h h' st k=>by
  obtain⟨⟨old,q1⟩,q2⟩:=st
  exact⟨⟨old,k e (by simp) _ q1⟩,q2.to λ o z=>k it (by simp) o z⟩
 item:=by
  intro X hP hw hK hc i pins s σ H E I hf st hg
  subst hP hw hK
  obtain⟨xs,x,q1,hx⟩:=hg
  obtain⟨⟨old,en⟩,ia⟩:=st
  obtain⟨its1,r1,p1,z1⟩:=seqX I q1
  obtain⟨u1,hu1,ru1⟩:=r1.get hx
  refine Z3.qW en ia p1 (x:=u1) (by simpa using hu1) n1 λ h' eo ia' tp sz kp=>?_
  have I1 : Inv X pins σ (upd H s.heap.objs.size (.tup [.int (i : Nat), x])) { s with heap := h', toks := s.toks+1 } := turnsTup (ch := [e, it]) (its := [.int i s.toks, u1]) I hf (λ b o hb z => by
      simp only [h9,u4,or_false,not_or] at hb
      exact kp b o hb.1 hb.2 z) (c8 _) (by show 2<=m3;rw[ubj];decide) (.cons ⟨_,rfl⟩ (.cons ru1 .nil)) ⟨_,tp,rfl,⟨_,rfl⟩,rfl⟩
  have fr:H s.heap.objs.size=none:=I.fresh
  have elt:e<s.heap.objs.size:=i7 en
  have ilt:it<s.heap.objs.size:=by obtain⟨o2,m2,e2,_⟩:=ia.obj;exact i7 e2
  have zne:∀ b∈[e,it],b≠s.heap.objs.size:=λ b hb=>by
   simp only [h9,u4,or_false] at hb
   rcases hb with rfl | rfl
   ·exact l9 elt
   ·exact l9 ilt
  refine⟨_,rfl,wpAny_letOwnedTupleGo_enum eo λ h2 en2 sb=>?_⟩
  obtain⟨f0,f1,f2,f3,f4,f5⟩:=hf e (by simp)
  have I2:Inv X pins σ (upd H s.heap.objs.size (.tup [.int (i:Nat),x])) { s with heap:=h2,toks:=s.toks+1 }:=Inv.turned (s:={ s with heap:=h',toks:=s.toks+1 }) (it:=e) (t':=s.toks+1) I1 (λ b o hb z=>sb.extBut b o hb z) (by rw[aG (zne e (by simp))];exact f0) f1 f3 f4 f5
  refine⟨.ref s.heap.objs.size,_,I2,rfl,⟨_,x,fr,rfl,rfl,λ zs hz=>by rw[iO I hz q1];exact hx⟩,?_,λ b hb=>by rw[aG (zne b hb)];exact (hf b hb).1⟩
  exact⟨⟨_,by simpa using en2⟩,ia'.to λ o z=>sb.extBut _ _ n1.symm z⟩
 done:=by
  intro X hP hw hK hc i pins s σ H E I hf st hg
  subst hP hw hK
  obtain⟨xs,q1,hx⟩:=hg
  obtain⟨⟨old,en⟩,ia⟩:=st
  obtain⟨its1,r1,p1,z1⟩:=seqX I q1
  have l1:=r1.length
  refine Z3.qV (I.ok.hd hc) en ia p1 (by simp;left) λ h' kp=>⟨rfl,?_⟩
  exact turns (ch:=[e,it]) (t':=s.toks) I hf λ b o hb z=>by
   simp only [h9,u4,or_false,not_or] at hb
   exact kp b o hb.2 z
 self:=λ _ _ _ _ _ st h=>by
  obtain⟨⟨old,en⟩,_⟩:=st
  exact wpAny_pyIter_enum en h
def iEnum (t:Bool)(K:a9)(ta:TA):TI:=λ σ H R=>ta σ H λ vs H1=>∃ l,vs=[.ref l]/\(∃ xs,SqX t K H1 l xs)/\R (Itn t K l) H1
theorem nX {X:Cx}{elts:List ubv}{kk:Nat}{pos':Pos}(t:Bool){a:ubv}{ta:TA}{p pos:Pos}(hg:Gl X "enumerate")(hm:X.mg "enumerate"=none)(ha:PA X [a] ta)
  (hs:uae [a] X.env=[(false,eval a X.env)]:=by rfl) (hs2:uae [] X.env=[]:=by rfl) :
  PI X (.Tuple elts kk pos') (.Call (.Name "enumerate" p) [a] [] pos) (iEnum t X.K ta):=by
 intro pins s σ H R I h
 refine Call_ (cU I hg hm boot_enumerate (uaj (thn (ha pos pins s σ H _ I h) λ us s1 ⟨vs,H1,I1,r1,q1⟩=>?_) (by rw[hs,hs2]) (by rw[hs2];rfl)))
 obtain⟨l,e,⟨xs,qx⟩,q⟩:=q1
 subst e
 obtain⟨u,rfl,rx⟩:=vals1 r1
 cases rx
 obtain⟨its1,r1,p1,z1⟩:=seqX I1 qx
 have lt:l<s1.heap.objs.size:=by
  cases t with
  | true=>obtain⟨o,e,_⟩:=(show s1.heap.IsTuple l _ from p1);exact i7 e
  | false=>obtain⟨o,e,_⟩:=(show s1.heap.IsList l _ from p1);exact i7 e
 refine Z3.wA p1 λ h' en ia sz kp=>wpAny_pyIter_enum en ?_
 have I2:Inv X pins σ H1 { s1 with heap:=h',toks:=s1.toks }:=I1.kept (t':=s1.toks) kp
 refine⟨s1.heap.objs.size+1,[s1.heap.objs.size+1,s1.heap.objs.size],_,_,H1,rfl,I2,uO (Nat.succ_ne_self _) (l9 (ub6 lt)) (l9 lt),⟨⟨_,en⟩,ia⟩,λ b hb=>?_,q⟩
 have hb':s1.heap.objs.size<=b:=by
  simp only [h9,u4,or_false] at hb
  rcases hb with rfl | rfl
  ·exact uck _
  ·exact c8 _
 exact I1.fpOk hb' (I1.hok.fresh hb')
end L3
namespace HT
open PySem PyProof.Rows
section
variable {prog:j9}{w:v9}{A:v7}{E:b9->c7->Prop}{s:c7}
theorem sO {t:j8}{items:Array b9}{Q:Bool->c7->Prop}(ht:IsTup s.heap t items)(h:Q true s):k8 (v5 prog w) A (Builtin.Tuple.tupleIsExact (.ref t)) Q E s:=by
 unfold Builtin.Tuple.tupleIsExact
 exact a8 (ucs ht.typeIs (d3 h))
theorem pS {t sl:j8}{items:Array b9}{vl vu:b9}{lo hi:Option Int}{Q:b9->c7->Prop}(ht:IsTup s.heap t items)(hs:s.heap.IsSliceOf sl vl vu .none)(pl:IsPart vl lo)(pu:IsPart vu hi)
  (hw:sIx items.size 0 lo=0/\sIx items.size items.size hi=items.size) (h:Q (.ref t) s):k8 (v5 prog w) A (getItem (.ref t) (.ref sl)) Q E s:=by
 obtain⟨os,hos,hcs,hds⟩:=id hs
 have ty:s.TypeIs (.ref sl) "slice":=⟨os,hos,hcs⟩
 unfold getItem
 try with_reducible refine uah ?_
 first | refine a8 (d3 ?_) | skip
 refine a8 (ud0 ht.typeIs (by decide) (a8 (v6 (name:=u6 "__getitem__") ht.typeIs o0
  (uaa o0 ht.typeIs entry_tuple_getitem ?_ (args_tuple_getitem _ _)))))
 show k8 _ _ (Builtin.Tuple.tupleItemsOf (.ref t) >>= _) _ _ s
 refine a8 (tupleItemsOf_ ht (a8 (ucs ty ?_)))
 rw[uf7 (by decide)]
 refine a8 (kB hs pl pu ?_)
 have yes:(((sIx items.size 0 lo:Nat):Int)==0&&(1:Int)==1&&(sIx items.size items.size hi-sIx items.size 0 lo)==items.size)=true:=by
  rw[hw.1,hw.2];simp
 show k8 _ _ (if (((sIx items.size 0 lo:Nat):Int)==0&&(1:Int)==1&&(sIx items.size items.size hi-sIx items.size 0 lo)==items.size)=true then _ else _) _ _ s
 rw[uf7 yes]
 refine a8 (sO ht ?_)
 rw[uf7 rfl]
 exact a8 (udh (a8 (d3 (d3 ⟨_,rfl,d3 h⟩))))
theorem fV (xs:List b9):((c9 xs.length).filterMap λ (m:Nat)=>xs.toArray[((xs.length:Int)-1+(m:Int)*(-1)).toNat]?)=xs.reverse:=by
 refine uba λ i=>?_
 have key:∀ (n:Nat),n<=xs.length->((c9 n).filterMap λ (m:Nat)=>xs.toArray[((xs.length:Int)-1+(m:Int)*(-1)).toNat]?)=xs.reverse.take n:=by
  intro n
  induction n with
  | zero=>intro _;simp
  | succ n ih =>
   intro hn
   rw[ua0,uan,ih (by left),ub2]
   congr 1
   have e:((xs.length:Int)-1+(n:Int)*(-1)).toNat=xs.length-1-n:=by left
   have e2:xs.reverse[n]?=xs[xs.length-1-n]?:=List.getElem?_reverse (by left)
   have h1:xs.length-1-n<xs.length:=by left
   rw[uam,e,e2]
   simp [h1]
 rw[key _ (c8 _),ua7 (by simp)]
theorem tV {sl:j8}{t:Tok}{n:Nat}{Q:Int × Int × Nat->c7->Prop}(hs:s.heap.IsSliceOf sl .none .none (.int (-1) t))(h:Q ((n:Int)-1,-1,n) s) :
  k8 (v5 prog w) A (Builtin.Slice.sliceApplied (.ref sl) (pure (n:Int))) Q E s:=by
 obtain⟨os,hos,hcs,hds⟩:=id hs
 unfold Builtin.Slice.sliceApplied Builtin.Slice.sliceFields
 refine a8 (a8 (p7 hos hds (x:=.none) rfl (a8 (p7 hos hds (x:=.none) rfl (a8 (p7 hos hds (x:=.int (-1) t) rfl (d3 ?_)))))))
 refine a8 (slicePart_int ?_)
 show k8 _ _ (if ((-1:Int)==0)=true then _ else _) _ _ s
 rw[uf8 (by decide)]
 refine a8 (slicePart_none (a8 (slicePart_none (a8 (d3 ?_)))))
 have e:Builtin.Slice.slicePlaces ((n:Int)-1) (-1) (-1)=n:=by
  unfold Builtin.Slice.slicePlaces
  rw[uf8 (by decide)]
  split
  ·have:((n:Int)-1 - -1-1) / (- -1)+1=(n:Int):=by
    rw[show (- -1:Int)=1 by decide,ue9];left
   rw[this];exact uaq n
  ·have:n=0:=by left
   subst this;rfl
 show k8 _ _ (pure ((n:Int)-1,(-1:Int),Builtin.Slice.slicePlaces ((n:Int)-1) (-1) (-1))) _ _ s
 rw[e]
 exact d3 h
theorem jZ {t sl:j8}{its:List b9}{u:Tok}{Q:b9->c7->Prop}(ht:IsTup s.heap t its.toArray)(hs:s.heap.IsSliceOf sl .none .none (.int (-1) u))
  (h:Q (.ref s.heap.objs.size) { s with heap:=s.heap.push { cls:=.type "tuple",data:=.seq its.reverse.toArray } }) (hsz:its.length<=m3):k8 (v5 prog w) A (getItem (.ref t) (.ref sl)) Q E s:=by
 have fit:sizeOk (.seq its.reverse.toArray):=by
  show its.reverse.toArray.size<=m3
  rw[d7,u7];exact hsz
 obtain⟨os,hos,hcs,hds⟩:=id hs
 have ty:s.TypeIs (.ref sl) "slice":=⟨os,hos,hcs⟩
 unfold getItem
 try with_reducible refine uah ?_
 first | refine a8 (d3 ?_) | skip
 refine a8 (ud0 ht.typeIs (by decide) (a8 (v6 (name:=u6 "__getitem__") ht.typeIs o0
  (uaa o0 ht.typeIs entry_tuple_getitem ?_ (args_tuple_getitem _ _)))))
 show k8 _ _ (Builtin.Tuple.tupleItemsOf (.ref t) >>= _) _ _ s
 refine a8 (tupleItemsOf_ ht (a8 (ucs ty ?_)))
 rw[uf7 (by decide)]
 have en:its.toArray.size=its.length:=d7
 rw[en]
 refine a8 (tV hs ?_)
 show k8 _ _ (if (((its.length:Int)-1)==0&&(-1:Int)==1&&its.length==its.length)=true then _ else _) _ _ s
 rw[uf8 (by simp),fV]
 first
  | exact a8 (m:=Builtin.Tuple.tupleExact _) (u5 (d3 ⟨_,rfl,d3 h⟩) fit)
  | exact a8 (m:=Builtin.Tuple.tupleExact _) (u5 (a8 (d3 (d3 ⟨_,rfl,d3 h⟩))) fit)
  | exact a8 (a8 (m:=Builtin.Tuple.tupleExact _) (u5 (d3 (d3 ⟨_,rfl,d3 h⟩)) fit))
  | exact a8 (a8 (m:=Builtin.Tuple.tupleExact _) (u5 (d3 ⟨_,rfl,d3 h⟩) fit))
theorem zC {t b:j8}{ws:List b9}{Q:b9->c7->Prop}(ht:IsTup s.heap t ([]:List b9).toArray)(hb:IsTup s.heap b ws.toArray)(h:Q (.ref b) s):k8 (v5 prog w) A (binaryOp .Add (.ref t) (.ref b)) Q E s:=by
 obtain⟨⟨cls,dd,data,sl⟩,ho,hc,n,hd⟩:=id ht
 obtain⟨⟨cls2,dd2,data2,sl2⟩,ho2,hc2,n2,hd2⟩:=id hb
 simp only at hc hd hc2 hd2
 subst hc hd hc2 hd2
 exact concat_meets ⟨_,ho,rfl⟩ ⟨_,ho2,rfl⟩ ufw seq_tuple_add udn udk (udc _ _) (tuple_addW0 t b _ ws.toArray n n2 dd dd2 sl sl2 rfl) ⟨ho,ho2,h⟩
end
end HT
namespace L3
open PySem PySem.Spec PyProof.Rows L2
section
variable {X:Cx}{pins:List (j8 × Obj)}{σ:L2.St}{H:Hp}{s:c7}{e:ubv}{te:TE}{pos p2:Pos}
theorem xK {xs:List V}{lo hi:Option Int}(h:HT.sIx xs.length 0 lo=0/\HT.sIx xs.length xs.length hi=xs.length):cutV xs lo hi=xs:=by
 unfold cutV
 rw[h.1,h.2]
 simp
inductive rSlA_i  (x:V) (lo:Option Int) (hi:Option Int) (H:Hp) (Q:VK):Prop
 | mk:∀ a xs,(x=.ref a)->(H a=some (.tup xs))->(∀ p H',Same H H'->H' p=some (.tup (cutV xs lo hi))->Q (.ref p) H')->rSlA_i x lo hi H Q
def rSlA :V->Option Int->Option Int->Hp->VK->Prop:=λ x lo hi H Q=>rSlA_i x lo hi H Q
theorem cB:SlR X rSlA:=by
 intro pins s σ H x v vl vu lo hi sl Q I rx hs pl pu h
 obtain⟨a,xs,rfl,hx,q⟩:=h
 by_cases c:HT.sIx xs.length 0 lo=0/\HT.sIx xs.length xs.length hi=xs.length
 ·cases rx
  obtain⟨its,r,ht,hz⟩:=I.tuple (SqT.of hx)
  have hlen:its.toArray.size=xs.length:=by rw[d7];exact r.length.symm
  refine⟨"tuple",_,o0.lookup,ht.typeIs,HT.pS ht hs pl pu (by rw[hlen];exact c) ⟨.ref a,H,I,rfl,q _ _ (Same.refl H) (by rw[xK c];exact hx)⟩⟩
 ·exact zI (X:=X) pins s σ H (.ref a) v vl vu lo hi sl Q I rx hs pl pu ⟨a,xs,rfl,SqT.of hx,c,λ p hp=>q p _ (aS hp) aK⟩
theorem kD:∀ {xs:List V}{us:List b9},Vals xs us->Vals xs.reverse us.reverse
 | _,_,.nil=>.nil
 | _,_,.cons h t=>by
  rw[ua8,ua8]
  exact (kD t).append (.cons h .nil)
inductive rCatA_i  (x:V) (y:V) (H:Hp) (Q:VK):Prop
 | mk:∀ a b xs ys,(x=.ref a)->(y=.ref b)->(H a=some (.tup xs))->(H b=some (.tup ys))->(xs.length+ys.length<=m3)->(∀ p H',Same H H'->H' p=some (.tup (xs++ys))->Q (.ref p) H')->rCatA_i x y H Q
def rCatA :R2:=λ x y H Q=>rCatA_i x y H Q
theorem dR:OpR X (binaryOp .Add) rCatA:=by
 intro pins s σ H x y v u Q I rx ry h
 obtain⟨a,b,xs,ys,rfl,rfl,ha,hb,hz,q⟩:=h
 by_cases c:xs=[]
 ·subst c
  cases rx
  cases ry
  obtain⟨its,r1,p1,_⟩:=I.tuple (SqT.of ha)
  obtain⟨its2,r2,p2,_⟩:=I.tuple (SqT.of hb)
  cases r1
  exact HT.zC p1 p2 ⟨.ref b,H,I,rfl,q _ _ (Same.refl H) hb⟩
 ·refine yN (X:=X) pins s σ H _ _ v u Q I rx ry ⟨a,b,xs,ys,rfl,rfl,SqT.of ha,SqT.of hb,c,hz,λ e=>q _ _ (Same.refl H) (by rw[e,ubz];exact ha),λ _ p hp=>q p _ (aS hp) aK⟩
end
def numB (m:Nat):uac->Bool
 | .int i=>decide (0<=i)&&decide (i<(m:Int))
 | _=>false
def intOf:uac->Int
 | .int i=>i
 | _=>0
def risI (ns:List Int):Bool:=((c9 (min ns.length (ns.drop 1).length)).map λ i=>decide (ns.getD i 0<(ns.drop 1).getD i 0)).all id
def keepB (m:Nat):uac->Bool
 | .tuple ds=>ds.all (numB m)&&risI (ds.map intOf)
 | _=>false
structure Pre (m:Nat)(ds:List uac)(i:Nat)(a:Int):Prop where
 num:∀ d∈ds.take i,numB m d=true
 up:((ds.take i).map intOf).Pairwise (·<·)
 top:∀ x∈(ds.take i).map intOf,x<=a
 at_:a=-1\/a∈(ds.take i).map intOf
theorem Pre.zero {m:Nat}{ds:List uac}:Pre m ds 0 (-1):=⟨λ d h=>(by simp at h),(by simp),λ x h=>(by simp at h),.inl rfl⟩
theorem iF {α:Type}{ds:List α}{i:Nat}{d:α}(e:ds[i]?=some d):ds.take (i+1)=ds.take i++[d]:=by
 rw[ub2,e];rfl
def flatD:V->Bool
 | .non | .bl _ | .int _ | .str _=>true
 | _=>false
theorem Pot.same {H H':Hp}{p:j8}(h:Pot H p)(s:Same H H'):Pot H' p:=let ⟨a,b,e,z⟩:=h;⟨a,b,s _ _ e,z⟩
theorem mD:∀ ns:List Int,tupAll (ns.map .int)=true
 | []=>rfl
 | n::ns=>by show (tupD (.int n)&&tupAll (ns.map .int))=true;rw[mD ns];rfl
theorem mC:∀ ts:List Tie,tupAll (ts.map tieD)=true
 | []=>rfl
 | t::r=>by show (tupD (tieD t)&&tupAll (r.map tieD))=true;rw[mC r];rfl
theorem xW (n:Int)(ts:List Tie):tupD (webD n ts)=true:=by
 show (true&&(tupAll (ts.map tieD)&&true))=true
 rw[mC ts];rfl
theorem fD (ks:List Nat):tupD (keepD ks)=true:=mD _
end L3
namespace L3
end L3
namespace Far
inductive Walk (A:List (Nat × Nat × Int))(s:Nat):Nat->Int->Prop
 | nil:Walk A s s 0
 | snoc {u v:Nat} {l x:Int}:Walk A s u x->(u,v,l)∈A->Walk A s v (x+l)
variable {A:List (Nat × Nat × Int)}{s:Nat}
def Pos (A:List (Nat × Nat × Int)):Prop:=∀ u v l,(u,v,l)∈A->1<=l
theorem Walk.nonneg (P:Pos A){v:Nat}{x:Int}(h:Walk A s v x):0<=x:=by
 induction h with
 | nil=>exact w6 0
 | snoc _ m ih=>have:=P _ _ _ m;left
def Dst (A:List (Nat × Nat × Int))(s v:Nat)(o:Option Int):Prop:=(∀ y,o=some y->Walk A s v y)/\∀ L,Walk A s v L->∃ y,o=some y/\y<=L
theorem Dst.unique {v:Nat}{o p:Option Int}(h:Dst A s v o)(k:Dst A s v p):o=p:=by
 cases o with
 | none =>
  cases p with
  | none=>rfl
  | some y=>obtain⟨_,e,_⟩:=h.2 y (k.1 y rfl);cases e
 | some x =>
  obtain⟨y,rfl,hy⟩:=k.2 x (h.1 x rfl)
  obtain⟨z,e,hz⟩:=h.2 y (k.1 y rfl)
  cases e
  rw[show x=y by left]
theorem least {P:Nat->Prop}:∀ n,P n->∃ m,P m/\∀ k,P k->m<=k:=by
 intro n
 induction n using udb with
 | ind n ih =>
  intro h
  by_cases c:∃ k,k<n/\P k
  ·obtain⟨k,hk,pk⟩:=c;exact ih k hk pk
  ·exact⟨n,h,λ k pk=>by
    by_cases z:k<n
    ·exact absurd ⟨k,z,pk⟩ c
    ·left⟩
theorem kT (P:Pos A)(s v:Nat):∃ o,Dst A s v o:=by
 by_cases c:∃ x,Walk A s v x
 ·obtain⟨x,hx⟩:=c
  have nn:=hx.nonneg P
  obtain⟨m,hm,mn⟩:=least (P:=λ k=>Walk A s v (k:Int)) x.toNat (by rw[v8 nn];exact hx)
  refine⟨some m,λ y e=>by cases e;exact hm,λ L hL=>⟨m,rfl,?_⟩⟩
  have n2:=hL.nonneg P
  have:=mn L.toNat (by rw[v8 n2];exact hL)
  left
 ·exact⟨none,⟨λ y e=>(by cases e),λ L hL=>absurd ⟨L,hL⟩ c⟩⟩
theorem Walk.cons {u v:Nat}{l:Int}(m:(u,v,l)∈A){w:Nat}{x:Int}(h:Walk A v w x):Walk A u w (x+l):=by
 induction h with
 | nil=>exact .snoc .nil m
 | snoc _ m' ih=>rw[ues];exact .snoc ih m'
def Sym (A:List (Nat × Nat × Int)):Prop:=∀ u v l,(u,v,l)∈A->(v,u,l)∈A
theorem Walk.back (S:Sym A){v:Nat}{x:Int}(h:Walk A s v x):Walk A v s x:=by
 induction h with
 | nil=>exact .nil
 | snoc _ m ih=>exact ih.cons (S _ _ _ m)
theorem Dst.back (S:Sym A){v:Nat}{o:Option Int}(h:Dst A s v o):Dst A v s o:=⟨λ y e=>(h.1 y e).back S,λ L hL=>h.2 L (hL.back S)⟩
def lt2 (e f:Int × Int):Prop:=e.1<f.1\/(e.1=f.1/\e.2<f.2)
def get {α:Type}(cs:List (Option α))(v:Nat):Option α:=cs.getD v none
theorem aY {α:Type}{cs:List (Option α)}{v i:Nat}{x:Option α}(h:v<cs.length):get (cs.set v x) i=if i=v then x else get cs i:=by
 unfold get
 rw[b8,List.getElem?_set,b8]
 by_cases c:v=i
 ·subst c;simp [h]
 ·simp [c,Ne.symm c]
def ct {α:Type}:List (Option α)->Nat
 | []=>0
 | none::r=>ct r
 | some _::r=>ct r+1
theorem hG {α:Type}:∀ cs:List (Option α),ct cs<=cs.length
 | []=>c8 0
 | none::r=>Nat.le_succ_of_le (hG r)
 | some _::r=>udv (hG r)
theorem gW {α:Type}{c:α}:∀ {cs:List (Option α)}{v:Nat},v<cs.length->ct (cs.set v (some c))=ct cs+(if (get cs v).isSome then 0 else 1)
 | none::r,0,_=>rfl
 | some _::r,0,_=>rfl
 | none::r,v+1,h=>gW (cs:=r) (v:=v) (by simpa using h)
 | some _::r,v+1,h=>by
  have:=gW (c:=c) (cs:=r) (v:=v) (by simpa using h)
  show ct (r.set v (some c))+1=ct r+1+_
  rw[this]
  show _=ct r+1+(if (get r v).isSome then 0 else 1)
  left
theorem pG {α:Type}:∀ {cs:List (Option α)}{v:Nat}{c:α},get cs v=some c->1<=ct cs
 | [],v,c,h=>by cases h
 | some _::r,_,_,_=>udv (v4 _)
 | none::r,0,c,h=>by cases h
 | none::r,v+1,c,h=>pG (cs:=r) (v:=v) (c:=c) h
def WM:Int:=2^130
def mW:Option (Int × Int)->Nat
 | none=>(2^250)
 | some c=>(c.1*WM+c.2).toNat
def mu:List (Option (Int × Int))->Nat
 | []=>0
 | c::r=>mW c+mu r
theorem oY {x:Option (Int × Int)}:∀ {cs:List (Option (Int × Int))}{v:Nat},v<cs.length->mW x<mW (get cs v)->mu (cs.set v x)<mu cs
 | c::r,0,_,h=>Nat.add_lt_add_right (k:=mu r) h
 | c::r,v+1,hl,h=>Nat.add_lt_add_left (k:=mW c) (oY (cs:=r) (v:=v) (by simpa using hl) h)
structure Good (A:List (Nat × Nat × Int))(n s:Nat)(cs:List (Option (Int × Int))):Prop where
 len:cs.length=n
 walk:∀ v c,get cs v=some c->Walk A s v c.1
 w0:∀ v c,get cs v=some c->0<=c.2/\c.2<=c.1*2^60
 top:∀ v c,get cs v=some c->c.1<=((ct cs:Nat)-1:Int)*10^18
 start:∃ c,get cs s=some c/\c.1<=0
theorem Good.step {n u v:Nat}{l w:Int}{cs:List (Option (Int × Int))}{c:Int × Int}(P:Pos A)(n24:n<=24)(g:Good A n s cs)(arc:(u,v,l)∈A)(l1:l<=10^18)(w0:0<=w)(w1:w<=2^60)(hv:v<n)(hu:get cs u=some c)
  (h:get cs v=none\/∃ c',get cs v=some c'/\lt2 (c.1+l,c.2+w) c'):Good A n s (cs.set v (some (c.1+l,c.2+w)))/\mu (cs.set v (some (c.1+l,c.2+w)))<mu cs:=by
 have hv':v<cs.length:=by rw[g.len];exact hv
 have l0:=P _ _ _ arc
 have wk:=Walk.snoc (g.walk _ _ hu) arc
 have c0:=(g.walk _ _ hu).nonneg P
 obtain⟨cw0,cw1⟩:=g.w0 _ _ hu
 have ct24:ct cs<=24:=by have:=hG cs;rw[g.len] at this;left
 have ctp:=pG hu
 have es:=gW (c:=(c.1+l,c.2+w)) hv'
 have topc:=g.top _ _ hu
 have wbound:c.2+w<=(c.1+l)*2^60:=by rw[Int.add_mul];left
 have big:c.1+l<=((ct (cs.set v (some (c.1+l,c.2+w))):Nat)-1:Int)*10^18:=by
  rw[es]
  rcases h with h | ⟨c',h,hlt⟩
  ·rw[h]
   show _<=(((ct cs+1:Nat):Int)-1)*10^18
   left
  ·rw[h]
   show _<=(((ct cs+0:Nat):Int)-1)*10^18
   have:=g.top _ _ h
   unfold lt2 at hlt
   simp only at hlt
   left
 have ctm:ct cs<=ct (cs.set v (some (c.1+l,c.2+w))):=by rw[es];exact uc7 _ _
 refine⟨⟨by rw[ual];exact g.len,λ v' d e=>?_,λ v' d e=>?_,λ v' d e=>?_,?_⟩,?_⟩
 ·rw[aY hv'] at e
  split at e
  ·rename_i z;subst z;cases e;exact wk
  ·exact g.walk _ _ e
 ·rw[aY hv'] at e
  split at e
  ·cases e;exact⟨by show 0<=c.2+w;left,wbound⟩
  ·exact g.w0 _ _ e
 ·rw[aY hv'] at e
  split at e
  ·cases e;exact big
  ·have:=g.top _ _ e
   left
 ·obtain⟨d,hd,hd0⟩:=g.start
  rw[aY hv']
  split
  ·rename_i z;subst z
   refine⟨_,rfl,?_⟩
   rcases h with h | ⟨c',h,hlt⟩
   ·rw[h] at hd;cases hd
   ·rw[h] at hd;cases hd
    unfold lt2 at hlt
    simp only at hlt
    show c.1+l<=0
    left
  ·exact⟨d,hd,hd0⟩
 ·refine oY hv' ?_
  have ctb:ct (cs.set v (some (c.1+l,c.2+w)))<=24:=by have:=hG (cs.set v (some (c.1+l,c.2+w)));rw[ual,g.len] at this;left
  have x23:c.1+l<=23*10^18:=by left
  have y23:c.2+w<=23*10^18*2^60:=by left
  have WMe:WM=1361129467683753853853498429727072845824:=by decide
  rcases h with h | ⟨c',h,hlt⟩
  ·rw[h]
   show ((c.1+l)*WM+(c.2+w)).toNat<2^250
   have:(c.1+l)*WM+(c.2+w)<2^250:=by rw[WMe];left
   left
  ·rw[h]
   obtain⟨d0,d1⟩:=g.w0 _ _ h
   have t0:=(g.walk _ _ h).nonneg P
   have tt:=g.top _ _ h
   show ((c.1+l)*WM+(c.2+w)).toNat<(c'.1*WM+c'.2).toNat
   unfold lt2 at hlt
   simp only at hlt
   have:(c.1+l)*WM+(c.2+w)<c'.1*WM+c'.2:=by
    rw[WMe]
    rcases hlt with z | ⟨z,z'⟩
    ·left
    ·rw[z];left
   have p0:0<=(c.1+l)*WM+(c.2+w):=by rw[WMe];left
   left
def Stab (A:List (Nat × Nat × Int))(cs:List (Option (Int × Int))):Prop:=∀ u v l c,(u,v,l)∈A->get cs u=some c->∃ c',get cs v=some c'/\c'.1<=c.1+l
theorem Good.dst {n:Nat}{cs:List (Option (Int × Int))}(g:Good A n s cs)(st:Stab A cs)(v:Nat):Dst A s v ((get cs v).map (·.1)):=by
 refine⟨λ y e=>?_,λ L hL=>?_⟩
 ·cases h:get cs v with
  | none=>rw[h] at e;cases e
  | some c=>rw[h] at e;cases e;exact g.walk _ _ h
 ·have:∃ c,get cs v=some c/\c.1<=L:=by
   induction hL with
   | nil=>exact g.start
   | snoc _ m ih =>
    obtain⟨c,hc,hle⟩:=ih
    obtain⟨c',hc',hle'⟩:=st _ _ _ _ m hc
    exact⟨c',hc',by left⟩
  obtain⟨c,hc,hle⟩:=this
  exact⟨c.1,by rw[hc];rfl,hle⟩
structure Snd (A:List (Nat × Nat × Int))(n s:Nat)(D:List (Option Int)):Prop where
 len:D.length=n
 walk:∀ v x,get D v=some x->Walk A s v x
 start:∃ x,get D s=some x/\x<=0
structure Rnd (A:List (Nat × Nat × Int))(n s:Nat)(δ:Nat->Option Int)(D0:List (Option Int))(B:(Nat × Nat × Int)->Prop)(D:List (Option Int)):Prop where
 snd:Snd A n s D
 keep:∀ v,get D0 v=δ v->get D v=δ v
 arc:∀ u v l x,B (u,v,l)->get D0 u=δ u->δ u=some x->∃ y,get D v=some y/\y<=x+l
section
variable {n:Nat}{δ:Nat->Option Int}{D0 D:List (Option Int)}{B:(Nat × Nat × Int)->Prop}{u v:Nat}{l:Int}
def plus (B:(Nat × Nat × Int)->Prop)(a:Nat × Nat × Int):(Nat × Nat × Int)->Prop:=λ b=>B b\/b=a
theorem Rnd.no (r:Rnd A n s δ D0 B D)(hu:get D u=none):Rnd A n s δ D0 (plus B (u,v,l)) D:=by
 refine⟨r.snd,r.keep,λ u' v' l' x b e1 e2=>?_⟩
 rcases b with b | b
 ·exact r.arc _ _ _ _ b e1 e2
 ·cases b
  have:=r.keep _ e1
  rw[hu,e2] at this;cases this
theorem Rnd.old (r:Rnd A n s δ D0 B D){x' y:Int}(hu:get D u=some x')(hv:get D v=some y)(hy:y<=x'+l):Rnd A n s δ D0 (plus B (u,v,l)) D:=by
 refine⟨r.snd,r.keep,λ u' v' l' x b e1 e2=>?_⟩
 rcases b with b | b
 ·exact r.arc _ _ _ _ b e1 e2
 ·cases b
  have:=r.keep _ e1
  rw[hu,e2] at this;cases this
  exact⟨y,hv,hy⟩
theorem Rnd.put (dd:∀ v,Dst A s v (δ v))(m:(u,v,l)∈A)(hn:v<n)(r:Rnd A n s δ D0 B D){x':Int}(hu:get D u=some x')(hv:get D v=none\/∃ y,get D v=some y/\x'+l<y)(P:Pos A):Rnd A n s δ D0 (plus B (u,v,l)) (D.set v (some (x'+l))):=by
 have hl:v<D.length:=by rw[r.snd.len];exact hn
 have wk:=Walk.snoc (r.snd.walk _ _ hu) m
 obtain⟨d,hd,hdl⟩:=(dd v).2 _ wk
 have bad:get D0 v=δ v->False:=λ e=>by
  have e':=r.keep _ e
  rcases hv with hv | ⟨y,hv,hy⟩
  ·rw[hv,hd] at e';cases e'
  ·rw[hv,hd] at e';cases e';left
 refine⟨⟨by rw[ual];exact r.snd.len,λ i x e=>?_,?_⟩,λ i e=>?_,λ u' v' l' x b e1 e2=>?_⟩
 ·rw[aY hl] at e
  split at e
  ·rename_i z;subst z;cases e;exact wk
  ·exact r.snd.walk _ _ e
 ·rw[aY hl]
  split
  ·rename_i z;subst z
   obtain⟨x,hx,hx0⟩:=r.snd.start
   rcases hv with hv | ⟨y,hv,hy⟩
   ·rw[hv] at hx;cases hx
   ·rw[hv] at hx;cases hx
    exact⟨_,rfl,by left⟩
  ·exact r.snd.start
 ·rw[aY hl]
  split
  ·rename_i z;subst z;exact absurd e bad
  ·exact r.keep _ e
 ·rw[aY hl]
  rcases b with b | b
  ·obtain⟨y',hy',hle⟩:=r.arc _ _ _ _ b e1 e2
   split
   ·rename_i z;subst z
    refine⟨_,rfl,?_⟩
    rcases hv with hv | ⟨y,hv,hy⟩
    ·rw[hv] at hy';cases hy'
    ·rw[hv] at hy';cases hy';left
   ·exact⟨y',hy',hle⟩
  ·cases b
   have:=r.keep _ e1
   rw[hu,e2] at this;cases this
   rw[uf7 rfl]
   exact⟨_,rfl,w6 _⟩
theorem Rnd.next (dd:∀ v,Dst A s v (δ v))(P:Pos A)(inn:∀ u v l,(u,v,l)∈A->u<n/\v<n)(s0:Snd A n s D0)(r:Rnd A n s δ D0 B D)(all:∀ a∈A,B a):∀ (k:Nat)(v:Nat),v<n->get D0 v≠δ v->(∀ d,δ v=some d->d.toNat<=k)->∃ v,v<n/\get D0 v≠δ v/\get D v=δ v:=by
 intro k
 induction k using udb with
 | ind k ih =>
  intro v hv hne hk
  cases e:δ v with
  | none =>
   cases e2:get D0 v with
   | none=>exact absurd (e2.trans e.symm) hne
   | some x =>
    obtain⟨y,hy,_⟩:=(dd v).2 _ (s0.walk _ _ e2)
    rw[e] at hy;cases hy
  | some d =>
   have wk:=(dd v).1 _ e
   have hkd:=hk _ e
   cases hw:wk with
   | nil =>
    obtain⟨x,hx,hx0⟩:=s0.start
    have:=(s0.walk _ _ hx).nonneg P
    have:x=0:=by left
    subst this
    exact absurd (hx.trans e.symm) hne
   | @snoc u _ l x w m =>
    obtain⟨y,hy,hyx⟩:=(dd u).2 _ w
    obtain⟨d',hd',hle⟩:=(dd v).2 _ (Walk.snoc ((dd u).1 _ hy) m)
    rw[e] at hd';cases hd'
    have yx:y=x:=by left
    subst yx
    by_cases c:get D0 u=δ u
    ·obtain⟨y',hy',hle'⟩:=r.arc _ _ _ _ (all _ m) c hy
     obtain⟨d',hd',hle2⟩:=(dd v).2 _ (r.snd.walk _ _ hy')
     rw[e] at hd';cases hd'
     have:y'=y+l:=by left
     subst this
     exact⟨v,hv,hne,hy'.trans e.symm⟩
    ·have l1:=P _ _ _ m
     have y0:=((dd u).1 _ hy).nonneg P
     refine ih (k-1) (by left) u (inn _ _ _ m).1 c λ d hd=>?_
     rw[hy] at hd;cases hd;left
end
theorem dM {α:Type}{p q:α->Bool}:∀ {xs:List α},(∀ x∈xs,p x=true->q x=true)->(∃ x∈xs,q x=true/\p x=false)->xs.countP p<xs.countP q
 | [],_,⟨x,h,_⟩=>by cases h
 | a::r,h,⟨x,hx,e1,e2⟩=>by
  rw[udt,udt]
  have le:r.countP p<=r.countP q:=ud4 λ x hx=>h x (j4 _ hx)
  rcases h9.mp hx with rfl | hx
  ·rw[e1,e2];simp;left
  ·have:=dM (xs:=r) (λ x hx=>h x (j4 _ hx)) ⟨x,hx,e1,e2⟩
   have:=h a g9
   cases e:p a <;> cases e':q a <;> simp_all <;> left
def cnt (n:Nat)(δ:Nat->Option Int)(D:List (Option Int)):Nat:=(c9 n).countP λ v=>decide (get D v=δ v)
def Done (n:Nat)(δ:Nat->Option Int)(D:List (Option Int))(k:Nat):Prop:=(∀ v,v<n->get D v=δ v)\/k+1<=cnt n δ D
theorem Done.round {n:Nat}{δ:Nat->Option Int}{D0 D:List (Option Int)}{B:(Nat × Nat × Int)->Prop}{k:Nat}(dd:∀ v,Dst A s v (δ v))(P:Pos A)(inn:∀ u v l,(u,v,l)∈A->u<n/\v<n)(s0:Snd A n s D0)(r:Rnd A n s δ D0 B D)(all:∀ a∈A,B a)(h:Done n δ D0 k):Done n δ D (k+1):=by
 by_cases c:∀ v,v<n->get D0 v=δ v
 ·exact .inl λ v hv=>r.keep v (c v hv)
 ·rcases h with h | h
  ·exact absurd h c
  ·have ⟨v,z⟩:=Classical.not_forall.mp c
   have ⟨hv,hne⟩:=Classical.not_imp.mp z
   obtain⟨v',hv',n0,n1⟩:=r.next dd P inn s0 all ((δ v).getD 0).toNat v hv hne λ d e=>by rw[e];exact c8 _
   refine .inr (uak h (dM (λ x _ e=>?_) ⟨v',o9.mpr hv',uf3 n1,uf5 n0⟩))
   exact uf3 (r.keep x (uf4 e))
theorem Done.first {n:Nat}{δ:Nat->Option Int}{D:List (Option Int)}{v:Nat}(hv:v<n)(h:get D v=δ v):Done n δ D 0:=by
 refine .inr ?_
 exact List.countP_pos_iff.mpr ⟨v,o9.mpr hv,uf3 h⟩
theorem Done.all {n:Nat}{δ:Nat->Option Int}{D:List (Option Int)}(h:Done n δ D n):∀ v,v<n->get D v=δ v:=by
 rcases h with h | h
 ·exact h
 ·have:cnt n δ D<=n:=by
   have:=ud5 (p:=λ v=>decide (get D v=δ v)) (l:=c9 n)
   rw[p8] at this;exact this
  left
def PSt (c0:List (Option (Int × Int)))(B:(Nat × Nat × Int)->Prop)(cs:List (Option (Int × Int)))(ag:Bool):Prop :=
 (ag=false/\cs=c0/\∀ u v l c,B (u,v,l)->get c0 u=some c->∃ c',get c0 v=some c'/\c'.1<=c.1+l)\/(ag=true/\mu cs<mu c0)
section
variable {c0 cs:List (Option (Int × Int))}{B B':(Nat × Nat × Int)->Prop}{ag:Bool}{u v:Nat}{l w:Int}
theorem PSt.no (h:PSt c0 B cs ag)(hu:get cs u=none):PSt c0 (plus B (u,v,l)) cs ag:=by
 rcases h with ⟨a,b,c⟩ | h
 ·refine .inl ⟨a,b,λ u' v' l' c' z e=>?_⟩
  rcases z with z | z
  ·exact c _ _ _ _ z e
  ·cases z;rw[← b,hu] at e;cases e
 ·exact .inr h
end
theorem cD {α:Type}(n v:Nat):get (j6 n (none:Option α)) v=none:=by
 unfold get
 rw[b8,ucp]
 split <;> rfl
theorem pF {α:Type}:∀ n:Nat,ct (j6 n (none:Option α))=0
 | 0=>rfl
 | n+1=>pF n
theorem Good.first {n:Nat}(hs:s<n):Good A n s ((j6 n none).set s (some (0,0))):=by
 have hl:s<(j6 n (none:Option (Int × Int))).length:=by rw[m5];exact hs
 have cases':∀ v c,get ((j6 n (none:Option (Int × Int))).set s (some (0,0))) v=some c->v=s/\c=(0,0):=λ v c e=>by
  rw[aY hl,cD] at e
  split at e
  ·rename_i z;cases e;exact⟨z,rfl⟩
  ·cases e
 refine⟨by rw[ual,m5],λ v c e=>?_,λ v c e=>?_,λ v c e=>?_,⟨(0,0),?_,w6 _⟩⟩
 ·obtain⟨rfl,rfl⟩:=cases' _ _ e;exact .nil
 ·obtain⟨rfl,rfl⟩:=cases' _ _ e;exact⟨w6 _,by decide⟩
 ·obtain⟨rfl,rfl⟩:=cases' _ _ e
  rw[gW hl,pF,cD];decide
 ·rw[aY hl,uf7 rfl]
theorem Snd.first {n:Nat}(hs:s<n):Snd A n s ((j6 n none).set s (some 0)):=by
 have hl:s<(j6 n (none:Option Int)).length:=by rw[m5];exact hs
 refine⟨by rw[ual,m5],λ v c e=>?_,⟨0,?_,w6 _⟩⟩
 ·rw[aY hl,cD] at e
  split at e
  ·rename_i z;subst z;cases e;exact .nil
  ·cases e
 ·rw[aY hl,uf7 rfl]
theorem Rnd.start {n:Nat}{δ:Nat->Option Int}{D:List (Option Int)}(h:Snd A n s D):Rnd A n s δ D (λ _=>False) D:=⟨h,λ _ e=>e,λ _ _ _ _ z=>z.elim⟩
theorem Rnd.less {n:Nat}{δ:Nat->Option Int}{D0 D:List (Option Int)}{B B':(Nat × Nat × Int)->Prop}(h:Rnd A n s δ D0 B D)(k:∀ a,B' a->B a):Rnd A n s δ D0 B' D:=⟨h.snd,h.keep,λ u v l x z=>h.arc u v l x (k _ z)⟩
theorem tT {n:Nat}{δ:Nat->Option Int}{D:List (Option Int)}(P:Pos A)(hs:s<n)(dd:∀ v,Dst A s v (δ v))(h:Snd A n s D):Done n δ D 0:=by
 obtain⟨x,hx,hx0⟩:=h.start
 obtain⟨y,hy,hyl⟩:=(dd s).2 0 .nil
 have:=((dd s).1 _ hy).nonneg P
 have:=(h.walk _ _ hx).nonneg P
 exact Done.first hs (by rw[hx,hy,show x=y by left])
end Far
namespace Far
variable {A:List (Nat × Nat × Int)}{s:Nat}
structure Ahd (A:List (Nat × Nat × Int))(s:Nat)(cs:List (Option (Int × Int)))(as:List (Option Nat)):Prop where
 len:as.length=cs.length
 root:get as s=none
 has:∀ v c,get cs v=some c->v≠s->get as v≠none
 arc:∀ v u,get as v=some u->∃ l cu cv,(u,v,l)∈A/\get cs u=some cu/\get cs v=some cv/\cu.1+l<=cv.1
theorem Ahd.first {n:Nat}(hs:s<n):Ahd A s ((j6 n none).set s (some (0,0))) (j6 n none):=by
 have hl:s<(j6 n (none:Option (Int × Int))).length:=by rw[m5];exact hs
 refine⟨by rw[ual,m5,m5],cD _ _,λ v c e hv=>?_,λ v u e=>?_⟩
 ·rw[aY hl,uf8 hv,cD] at e;cases e
 ·rw[cD] at e;cases e
inductive Tr (A:List (Nat × Nat × Int))(a:Nat):List Nat->Nat->Int->Prop
 | one:Tr A a [a] a 0
 | snoc {ws:List Nat} {u v:Nat} {x l:Int}:Tr A a ws u x->(u,v,l)∈A->Tr A a (ws++[v]) v (x+l)
def beyond (n:Nat)(cs:List (Option (Int × Int)))(d:Int):Nat:=(c9 n).countP λ v=>match get cs v with | none=>false | some c=>decide (d<=c.1)
theorem wB {n u:Nat}{cs:List (Option (Int × Int))}{cu:Int × Int}{d:Int}(hu:u<n)(e:get cs u=some cu)(h:cu.1<d):beyond n cs d<beyond n cs cu.1:=by
 refine dM (λ v _ hv=>?_) ⟨u,o9.mpr hu,?_,?_⟩
 ·cases e2:get cs v with
  | none=>rw[e2] at hv;cases hv
  | some c=>rw[e2] at hv;have:=uf4 hv;exact uf3 (by left)
 ·rw[e];exact uf3 (w6 _)
 ·rw[e];exact uf5 (by left)
theorem lZ (n:Nat)(cs:List (Option (Int × Int)))(d:Int):beyond n cs d<=n:=by
 have:=ud5 (p:=λ v=>match get cs v with | none=>false | some c=>decide (d<=c.1)) (l:=c9 n)
 rw[p8] at this;exact this
theorem uI {n u:Nat}{cs:List (Option (Int × Int))}{cu:Int × Int}(hu:u<n)(e:get cs u=some cu):1<=beyond n cs cu.1 :=
 List.countP_pos_iff.mpr ⟨u,o9.mpr hu,by rw[e];exact uf3 (w6 _)⟩
end Far
namespace Far
def sumP:List Nat->Nat
 | []=>0
 | k::r=>2^k+sumP r
theorem dJ {S S':List Nat}(h:S.Perm S'):sumP S=sumP S':=by
 induction h with
 | nil=>rfl
 | cons x _ ih=>show _+_=_+_;rw[ih]
 | swap x y l=>show 2^y+(2^x+sumP l)=2^x+(2^y+sumP l);left
 | trans _ _ h1 h2=>exact h1.trans h2
theorem kE (S:List Nat):∀ T:List Nat,sumP (S++T)=sumP S+sumP T:=by
 intro T
 induction S with
 | nil=>show sumP T=0+sumP T;left
 | cons k r ih=>show 2^k+sumP (r++T)=2^k+sumP r+sumP T;rw[ih];left
theorem fH:∀ (m:Nat){S:List Nat},S.Nodup->(∀ k∈S,k<m)->sumP S<2^m
 | 0,S,_,h=>by
  cases S with
  | nil=>exact Nat.zero_lt_one
  | cons k r=>exact absurd (h k g9) (ub0 _)
 | m+1,S,nd,h=>by
  have e:2^(m+1)=2^m+2^m:=by rw[Nat.pow_succ];left
  by_cases c:m∈S
  ·have p:=uc8 c
   have nd':(m::S.erase m).Nodup:=p.nodup_iff.mp nd
   have:=fH m (S:=S.erase m) (j0.mp nd').2 λ k hk=>by
    have h1:=h k (ud3 hk)
    have h2:k≠m:=λ z=>(j0.mp nd').1 (z ▸ hk)
    left
   rw[dJ p,e]
   show 2^m+sumP (S.erase m)<_
   left
  ·have:=fH m nd λ k hk=>by
    have h1:=h k hk
    have h2:k≠m:=λ z=>c (z ▸ hk)
    left
   left
theorem fF:∀ (m:Nat){S S':List Nat},S.Nodup->S'.Nodup->(∀ k∈S,k<m)->(∀ k∈S',k<m)->sumP S=sumP S'->∀ k,k∈S->k∈S'
 | 0,S,S',_,_,h,_,_,k,hk=>absurd (h k hk) (ub0 _)
 | m+1,S,S',nd,nd',h,h',e,k,hk=>by
  have lower:∀ {T:List Nat},T.Nodup->(∀ k∈T,k<m+1)->m∉T->sumP T<2^m:=λ {T} n1 n2 n3=>fH m n1 λ j hj=>by
   have h1:=n2 j hj
   have h2:j≠m:=λ z=>n3 (z ▸ hj)
   left
  by_cases c:m∈S
  ·have p:=uc8 c
   have ndp:(m::S.erase m).Nodup:=p.nodup_iff.mp nd
   have e1:sumP S=2^m+sumP (S.erase m):=dJ p
   by_cases c':m∈S'
   ·have p':=uc8 c'
    have ndp':(m::S'.erase m).Nodup:=p'.nodup_iff.mp nd'
    have e2:sumP S'=2^m+sumP (S'.erase m):=dJ p'
    by_cases z:k=m
    ·rw[z];exact c'
    ·have lt:∀ {T:List Nat},(m::T.erase m).Nodup->(∀ k∈T,k<m+1)->∀ j∈T.erase m,j<m:=λ {T} n1 n2 j hj=>by
      have h1:=n2 j (ud3 hj)
      have h2:j≠m:=λ y=>(j0.mp n1).1 (y ▸ hj)
      left
     have:=fF m (j0.mp ndp).2 (j0.mp ndp').2 (lt ndp h) (lt ndp' h') (by left) k ((List.mem_erase_of_ne z).mpr hk)
     exact ud3 this
   ·have:=lower nd' h' c'
    left
  ·by_cases c':m∈S'
   ·have e2:sumP S'=2^m+sumP (S'.erase m):=dJ (uc8 c')
    have:=lower nd h c
    left
   ·have lt:∀ {T:List Nat},(∀ k∈T,k<m+1)->m∉T->∀ j∈T,j<m:=λ {T} n1 n2 j hj=>by
     have h1:=n1 j hj
     have h2:j≠m:=λ y=>n2 (y ▸ hj)
     left
    exact fF m nd nd' (lt h c) (lt h' c') e k hk
abbrev Arc:=Nat × Nat × Int × Nat
inductive Rt (B:List Arc)(a:Nat):List Nat->List Nat->Nat->Int->Int->Prop
 | one:Rt B a [a] [] a 0 0
 | snoc {ws S:List Nat} {u v:Nat} {x y l:Int} {k:Nat}:Rt B a ws S u x y->(u,v,l,k)∈B->v∉ws->Rt B a (ws++[v]) (S++[k]) v (x+l) (y+2^k)
structure Keys (B:List Arc):Prop where
 sym:∀ u v l k,(u,v,l,k)∈B->(v,u,l,k)∈B
 key:∀ u v l u' v' l' k,(u,v,l,k)∈B->(u',v',l',k)∈B->l'=l/\((u'=u/\v'=v)\/(u'=v/\v'=u))
 ne:∀ u v l k,(u,v,l,k)∈B->u≠v
 pos:∀ u v l k,(u,v,l,k)∈B->1<=l
 few:∀ u v l k,(u,v,l,k)∈B->k<60
variable {B:List Arc}{a b:Nat}{ws S:List Nat}{x y:Int}
theorem Rt.last (h:Rt B a ws S b x y):b∈ws:=by
 cases h with
 | one=>exact d8.mpr rfl
 | snoc _ _ _=>exact l4 _ (d8.mpr rfl)
theorem Rt.ends (K:Keys B)(h:Rt B a ws S b x y):∀ k∈S,∃ u v l,(u,v,l,k)∈B/\u∈ws/\v∈ws:=by
 induction h with
 | one=>intro k hk;cases hk
 | @snoc ws S u v x y l k r m nv ih =>
  intro j hj
  rcases l8.mp hj with hj | hj
  ·obtain⟨p,q,l',h1,h2,h3⟩:=ih j hj
   exact⟨p,q,l',h1,r8 _ h2,r8 _ h3⟩
  ·rw[d8.mp hj]
   exact⟨u,v,l,m,r8 _ r.last,l4 _ (d8.mpr rfl)⟩
theorem Rt.fresh (K:Keys B)(h:Rt B a ws S b x y){u v:Nat}{l:Int}{k:Nat}(m:(u,v,l,k)∈B)(nv:v∉ws):k∉S:=λ hk=>by
 obtain⟨p,q,l',m',hp,hq⟩:=h.ends K k hk
 rcases (K.key _ _ _ _ _ _ _ m m').2 with ⟨e1,e2⟩ | ⟨e1,e2⟩
 ·exact nv (e2 ▸ hq)
 ·exact nv (e1 ▸ hp)
theorem Rt.nodup (K:Keys B)(h:Rt B a ws S b x y):S.Nodup:=by
 induction h with
 | one=>exact udi
 | @snoc ws S u v x y l k r m nv ih =>
  refine uax.mpr ⟨ih,by simp,λ p hp q hq z=>?_⟩
  rw[d8.mp hq] at z
  exact r.fresh K m nv (z ▸ hp)
theorem Rt.small (K:Keys B)(h:Rt B a ws S b x y):∀ k∈S,k<60:=λ k hk=>let ⟨u,v,l,m,_⟩:=h.ends K k hk;K.few u v l k m
theorem Rt.sum (h:Rt B a ws S b x y):y=(sumP S:Nat):=by
 induction h with
 | one=>rfl
 | @snoc ws S u v x y l k r m nv ih =>
  rw[kE,ih]
  show ((sumP S:Nat):Int)+2^k=((sumP S+(2^k+0):Nat):Int)
  have:((2^k:Nat):Int)=(2:Int)^k:=by norm_cast
  left
theorem Rt.lt (K:Keys B)(h:Rt B a ws S b x y):0<=y/\y<2^60:=by
 have e:=h.sum
 have:=fH 60 (h.nodup K) (h.small K)
 have e2:((2^60:Nat):Int)=(2:Int)^60:=by norm_cast
 left
theorem Rt.unique (K:Keys B)(h:Rt B a ws S b x y):∀ {ws' S':List Nat}{x':Int},Rt B a ws' S' b x' y->ws'=ws/\x'=x:=by
 induction h with
 | one =>
  intro ws' S' x' r
  generalize ey:(0:Int)=yy at r
  cases r with
  | one=>exact⟨rfl,rfl⟩
  | @snoc ws0 S0 u _ x0 y0 l k r m nv =>
   have p:=r.lt K
   have:(0:Int)<2^k:=Int.pow_pos (by decide)
   left
 | @snoc ws0 S0 u v x0 y0 l k r m nv ih =>
  intro ws' S' x' r'
  have full:Rt B a (ws0++[v]) (S0++[k]) v (x0+l) (y0+2^k):=.snoc r m nv
  have se:sumP S'=sumP (S0++[k]):=by
   have e1:=r'.sum
   have e2:=full.sum
   left
  have sub:=fF 60 (r'.nodup K) (full.nodup K) (r'.small K) (full.small K) se
  generalize ey:y0+2^k=yy at r'
  cases r' with
  | one =>
   have p:=r.lt K
   have:(0:Int)<2^k:=Int.pow_pos (by decide)
   left
  | @snoc ws1 S1 u1 _ x1 y1 l1 k1 r1 m1 nv1 =>
   have in1:=sub k1 (l4 _ (d8.mpr rfl))
   have k1k:k1=k:=by
    rcases l8.mp in1 with z | z
    ·exact absurd z (r.fresh K m1 nv)
    ·exact d8.mp z
   subst k1k
   obtain⟨el,eu⟩:=K.key _ _ _ _ _ _ _ m m1
   have uu:u1=u:=by
    rcases eu with ⟨e,_⟩ | ⟨e,e'⟩
    ·exact e
    ·exact absurd e' (K.ne _ _ _ _ m).symm
   subst uu
   have yy1:y1=y0:=by left
   subst yy1
   obtain⟨e1,e2⟩:=ih r1
   exact⟨by rw[e1],by rw[e2,el]⟩
theorem Rt.cons (K:Keys B){u:Nat}{l:Int}{k:Nat}(m:(u,a,l,k)∈B)(h:Rt B a ws S b x y):u∉ws->Rt B u (u::ws) (k::S) b (x+l) (y+2^k):=by
 induction h with
 | one =>
  intro nu
  have:Rt B u ([u]++[a]) ([]++[k]) a (0+l) (0+2^k):=.snoc .one m (λ z=>nu (by rw[d8] at z ⊢;exact z.symm))
  exact this
 | @snoc ws S w v x y l' k' r m' nv ih =>
  intro nu
  have r2:=ih λ z=>nu (r8 _ z)
  have:Rt B u ((u::ws)++[v]) ((k::S)++[k']) v (x+l+l') (y+2^k+2^k'):=.snoc r2 m' λ z=>by
   rcases h9.mp z with z | z
   ·exact nu (l4 _ (d8.mpr z.symm))
   ·exact nv z
  rw[ues x l l',ues y] at this
  exact this
theorem Rt.back (K:Keys B)(h:Rt B a ws S b x y):Rt B b ws.reverse S.reverse a x y:=by
 induction h with
 | one=>exact .one
 | @snoc ws S u v x y l k r m nv ih =>
  rw[uci,uci]
  exact ih.cons K (K.sym _ _ _ _ m) (λ z=>nv (ua4.mp z))
end Far
namespace Far
structure Best (B:List Arc)(n s:Nat)(cs:List (Option (Int × Int)))(as:List (Option Nat)):Prop where
 len:cs.length=n
 alen:as.length=n
 start:get cs s=some (0,0)
 root:get as s=none
 has:∀ v c,get cs v=some c->v≠s->get as v≠none
 nn:∀ v c,get cs v=some c->0<=c.1
 stab:∀ u v l k c,(u,v,l,k)∈B->get cs u=some c->∃ c',get cs v=some c'/\¬ lt2 (c.1+l,c.2+2^k) c'
 arc:∀ v u,get as v=some u->∃ l k cu,(u,v,l,k)∈B/\get cs u=some cu/\get cs v=some (cu.1+l,cu.2+2^k)
inductive TPw (as:List (Option Nat))(s:Nat):List Nat->Nat->Prop
 | root:TPw as s [s] s
 | step {ws:List Nat} {u v:Nat}:get as v=some u->TPw as s ws u->TPw as s (ws++[v]) v
section
variable {B:List Arc}{n s:Nat}{cs:List (Option (Int × Int))}{as:List (Option Nat)}
theorem Best.route (K:Keys B)(h:Best B n s cs as):∀ (m:Nat)(v:Nat)(c:Int × Int),get cs v=some c->c.1.toNat<=m->∃ ws S,Rt B s ws S v c.1 c.2/\TPw as s ws v/\∀ w∈ws,∃ cw,get cs w=some cw/\cw.1<=c.1:=by
 intro m
 induction m using udb with
 | ind m ih =>
  intro v c e hm
  by_cases vs:v=s
  ·subst vs
   rw[h.start] at e;cases e
   exact⟨[v],[],.one,.root,λ w hw=>by rw[d8.mp hw];exact⟨_,h.start,w6 _⟩⟩
  ·cases ea:get as v with
   | none=>exact absurd ea (h.has v c e vs)
   | some u =>
    obtain⟨l,k,cu,ma,eu,ev⟩:=h.arc v u ea
    rw[e] at ev;cases ev
    have l1:=K.pos _ _ _ _ ma
    have c0:=h.nn _ _ eu
    simp only at hm
    obtain⟨ws,S,r,tp,all⟩:=ih cu.1.toNat (by left) u cu eu (c8 _)
    have nv:v∉ws:=λ z=>by
     obtain⟨cw,e1,h1⟩:=all v z
     rw[e] at e1;cases e1
     simp only at h1;left
    refine⟨ws++[v],S++[k],.snoc r ma nv,.step ea tp,λ w hw=>?_⟩
    rcases l8.mp hw with hw | hw
    ·obtain⟨cw,e1,h1⟩:=all w hw
     exact⟨cw,e1,by show cw.1<=cu.1+l;left⟩
    ·rw[d8.mp hw]
     exact⟨_,e,w6 _⟩
theorem Best.small (K:Keys B)(h:Best B n s cs as){v:Nat}{c:Int × Int}(e:get cs v=some c):0<=c.2/\c.2<2^60:=by
 obtain⟨ws,S,r,_⟩:=h.route K _ v c e (c8 _)
 exact r.lt K
theorem Best.least (h:Best B n s cs as){ws S:List Nat}{v:Nat}{x y:Int}(r:Rt B s ws S v x y):∃ c,get cs v=some c/\¬ lt2 (x,y) c:=by
 induction r with
 | one=>exact⟨_,h.start,λ z=>by unfold lt2 at z;simp only at z;left⟩
 | @snoc ws S u v x y l k r m nv ih =>
  obtain⟨c,e,hc⟩:=ih
  obtain⟨c',e',hc'⟩:=h.stab _ _ _ _ _ m e
  refine⟨c',e',λ z=>?_⟩
  unfold lt2 at *
  simp only at *
  left
theorem Best.tree (K:Keys B)(h:Best B n s cs as){u v:Nat}{l:Int}{k:Nat}{cu:Int × Int}(m:(u,v,l,k)∈B)(eu:get cs u=some cu)(ev:get cs v=some (cu.1+l,cu.2+2^k)):get as v=some u:=by
 have l1:=K.pos _ _ _ _ m
 have c0:=h.nn _ _ eu
 have vs:v≠s:=λ z=>by
  rw[z,h.start] at ev
  have:(0:Int)=cu.1+l:=congrArg (λ o:Option (Int × Int)=>(o.getD (0,0)).1) ev
  left
 cases ea:get as v with
 | none=>exact absurd ea (h.has v _ ev vs)
 | some u0 =>
  obtain⟨l0,k0,c0',m0,e0,ev0⟩:=h.arc v u0 ea
  have mk:∀ {u:Nat}{l:Int}{k:Nat}{cu:Int × Int},(u,v,l,k)∈B->get cs u=some cu->get cs v=some (cu.1+l,cu.2+2^k)->∃ r S,Rt B s (r++[u]++[v]) S v (cu.1+l) (cu.2+2^k):=λ {u l k cu} m eu ev=>by
   obtain⟨ws,S,r,tp,all⟩:=h.route K _ u cu eu (c8 _)
   have nv:v∉ws:=λ z=>by
    obtain⟨cw,e1,h1⟩:=all v z
    rw[ev] at e1;cases e1
    have:=K.pos _ _ _ _ m
    simp only at h1;left
   obtain⟨q,rfl⟩:∃ q,ws=q++[u]:=by
    cases tp with
    | root=>exact⟨[],rfl⟩
    | step _ _=>exact⟨_,rfl⟩
   exact⟨q,_,.snoc r m nv⟩
  obtain⟨r1,S1,t1⟩:=mk m eu ev
  obtain⟨r2,S2,t2⟩:=mk m0 e0 ev0
  have e2:c0'.2+2^k0=cu.2+2^k:=congrArg (λ o:Option (Int × Int)=>(o.getD (0,0)).2) (ev0.symm.trans ev)
  rw[e2] at t2
  have:=(t1.unique K t2).1
  have z1:(r2++[u0])=(r1++[u]):=List.append_cancel_right this
  have z2:=congrArg List.getLast? z1
  simp at z2
  rw[z2]
end
def comb (c:Int × Int):Int:=c.1*2^61+c.2
def arcsC (B:List Arc):List (Nat × Nat × Int):=B.map λ b=>(b.1,b.2.1,b.2.2.1*2^61+2^b.2.2.2)
theorem arcsC_mem {B:List Arc}{u v:Nat}{L:Int}:(u,v,L)∈arcsC B↔∃ l k,(u,v,l,k)∈B/\L=l*2^61+2^k:=by
 unfold arcsC
 rw[ua5]
 constructor
 ·rintro ⟨⟨a,b,l,k⟩,h,e⟩
  cases e
  exact⟨l,k,h,rfl⟩
 ·rintro ⟨l,k,h,rfl⟩
  exact⟨(u,v,l,k),h,rfl⟩
section
variable {B:List Arc}{n s:Nat}{cs:List (Option (Int × Int))}{as:List (Option Nat)}
theorem gH (k:Nat):(1:Int)<=2^k:=Int.pow_pos (by decide)
theorem wD (K:Keys B):Pos (arcsC B):=λ u v L h=>by
 obtain⟨l,k,m,rfl⟩:=arcsC_mem.mp h
 have:=K.pos _ _ _ _ m
 have:=gH k
 left
theorem iL (K:Keys B):Sym (arcsC B):=λ u v L h=>by
 obtain⟨l,k,m,rfl⟩:=arcsC_mem.mp h
 exact arcsC_mem.mpr ⟨l,k,K.sym _ _ _ _ m,rfl⟩
theorem Best.dst (K:Keys B)(h:Best B n s cs as)(v:Nat):Dst (arcsC B) s v ((get cs v).map comb):=by
 refine⟨λ y e=>?_,λ L w=>?_⟩
 ·cases ec:get cs v with
  | none=>rw[ec] at e;cases e
  | some c =>
   rw[ec] at e;cases e
   obtain⟨ws,S,r,_⟩:=h.route K _ v c ec (c8 _)
   have go:∀ {ws S:List Nat}{v:Nat}{x y:Int},Rt B s ws S v x y->Walk (arcsC B) s v (comb (x,y)):=by
    intro ws S v x y r
    induction r with
    | one=>exact .nil
    | @snoc ws S u v x y l k r m nv ih =>
     have:=Walk.snoc ih (arcsC_mem.mpr ⟨l,k,m,rfl⟩)
     have e:comb (x+l,y+2^k)=comb (x,y)+(l*2^61+2^k):=by unfold comb;simp only;left
     rw[e];exact this
   exact go r
 ·have:∃ c,get cs v=some c/\comb c<=L:=by
   induction w with
   | nil=>exact⟨_,h.start,by decide⟩
   | @snoc u v l x w m ih =>
    obtain⟨c,e,hc⟩:=ih
    obtain⟨l',k,m',rfl⟩:=arcsC_mem.mp m
    obtain⟨c',e',hc'⟩:=h.stab _ _ _ _ _ m' e
    refine⟨c',e',?_⟩
    have s1:=h.small K e
    have s2:=h.small K e'
    have:=gH k
    unfold comb at *
    unfold lt2 at hc'
    simp only at hc'
    left
  obtain⟨c,e,hc⟩:=this
  exact⟨comb c,by rw[e];rfl,hc⟩
theorem gE {c d:Int × Int}(hc:0<=c.2/\c.2<2^61)(hd:0<=d.2/\d.2<2^61)(e:comb c=comb d):c=d:=by
 unfold comb at e
 exact Prod.ext (by left) (by left)
end
end Far
namespace Far
def arcsF (B:List Arc):List (Nat × Nat × Int):=B.map λ b=>(b.1,b.2.1,b.2.2.1)
theorem arcsF_mem {B:List Arc}{u v:Nat}{l:Int}:(u,v,l)∈arcsF B↔∃ k,(u,v,l,k)∈B:=by
 unfold arcsF
 rw[ua5]
 constructor
 ·rintro ⟨⟨a,b,l',k⟩,h,e⟩
  cases e
  exact⟨k,h⟩
 ·rintro ⟨k,h⟩
  exact⟨(u,v,l,k),h,rfl⟩
section
variable {B:List Arc}{n s:Nat}{cs:List (Option (Int × Int))}{as:List (Option Nat)}{a b:Nat}{ws S:List Nat}{x y:Int}
theorem uQ {v:Nat}{ws ws':List Nat}(hr:get as s=none)(t:TPw as s ws v):TPw as s ws' v->ws'=ws:=by
 induction t generalizing ws' with
 | root =>
  intro t'
  cases t' with
  | root=>rfl
  | step e _=>rw[hr] at e;cases e
 | step e t ih =>
  intro t'
  cases t' with
  | root=>rw[hr] at e;cases e
  | step e' t'=>rw[e] at e';cases e';rw[ih t']
theorem Best.rt (K:Keys B)(h:Best B n s cs as){v:Nat}{c:Int × Int}(t:TPw as s ws v)(e:get cs v=some c):∃ S,Rt B s ws S v c.1 c.2:=by
 obtain⟨w1,S1,r1,p1,_⟩:=h.route K _ v c e (c8 _)
 rw[uQ h.root p1 t]
 exact⟨S1,r1⟩
theorem Rt.walk (r:Rt B a ws S b x y):Walk (arcsF B) a b x:=by
 induction r with
 | one=>exact .nil
 | snoc r m nv ih=>exact .snoc ih (arcsF_mem.mpr ⟨_,m⟩)
theorem Rt.tr (r:Rt B a ws S b x y):Tr (arcsF B) a ws b x:=by
 induction r with
 | one=>exact .one
 | snoc r m nv ih=>exact .snoc ih (arcsF_mem.mpr ⟨_,m⟩)
theorem Best.dst1 (K:Keys B)(h:Best B n s cs as)(v:Nat):Dst (arcsF B) s v ((get cs v).map (·.1)):=by
 refine⟨λ y e=>?_,λ L w=>?_⟩
 ·cases ec:get cs v with
  | none=>rw[ec] at e;cases e
  | some c =>
   rw[ec] at e;cases e
   obtain⟨ws,S,r,_⟩:=h.route K _ v c ec (c8 _)
   exact r.walk
 ·have:∃ c,get cs v=some c/\c.1<=L:=by
   induction w with
   | nil=>exact⟨_,h.start,w6 _⟩
   | @snoc u v l x w m ih =>
    obtain⟨c,e,hc⟩:=ih
    obtain⟨k,m'⟩:=arcsF_mem.mp m
    obtain⟨c',e',hc'⟩:=h.stab _ _ _ _ _ m' e
    refine⟨c',e',?_⟩
    unfold lt2 at hc'
    simp only at hc'
    left
  obtain⟨c,e,hc⟩:=this
  exact⟨c.1,by rw[e];rfl,hc⟩
theorem Rt.len (r:Rt B a ws S b x y):ws.length=S.length+1:=by
 induction r with
 | one=>rfl
 | snoc r m nv ih=>rw[d6,d6,ih];rfl
theorem Rt.unlike (r:Rt B a ws S b x y):ws.Nodup:=by
 induction r with
 | one=>simp
 | snoc r m nv ih =>
  refine uax.mpr ⟨ih,by simp,λ p hp q hq z=>?_⟩
  rw[d8.mp hq] at z
  exact nv (z ▸ hp)
theorem Rt.head (r:Rt B a ws S b x y):∃ q,ws=a::q:=by
 induction r with
 | one=>exact⟨[],rfl⟩
 | snoc r m nv ih=>obtain⟨q,rfl⟩:=ih;exact⟨q++[_],rfl⟩
theorem Rt.foot (r:Rt B a ws S b x y):∃ q,ws=q++[b]:=by
 cases r with
 | one=>exact⟨[],rfl⟩
 | snoc r m nv=>exact⟨_,rfl⟩
theorem Rt.step (r:Rt B a ws S b x y):∀ {i k:Nat},S[i]?=some k->∃ u v l,ws[i]?=some u/\ws[i+1]?=some v/\(u,v,l,k)∈B:=by
 induction r with
 | one=>intro i k h;cases h
 | @snoc ws S u v x y l k r m nv ih =>
  intro i j h
  have len:=r.len
  by_cases c:i<S.length
  ·rw[uab c] at h
   obtain⟨p,q,l',h1,h2,h3⟩:=ih h
   exact⟨p,q,l',by rw[uab (by left)];exact h1,by rw[uab (by left)];exact h2,h3⟩
  ·have hi:i<(S++[k]).length:=(i3.mp h).1
   rw[d6,o6] at hi
   have e:i=S.length:=by left
   subst e
   rw[x9 (c8 _),Nat.sub_self] at h
   cases h
   obtain⟨q,rfl⟩:=r.foot
   rw[d6,o6] at len
   refine⟨u,v,l,?_,?_,m⟩
   ·rw[uab (by rw[d6,o6];left),x9 (by left)]
    rw[show S.length-q.length=0 by left];rfl
   ·rw[x9 (by rw[d6,o6];left),d6,o6]
    rw[show S.length+1-(q.length+1)=0 by left];rfl
theorem Rt.places (r:Rt B a ws S b x y){N:Nat}(ha:a<N)(inn:∀ u v l k,(u,v,l,k)∈B->u<N/\v<N):∀ p∈ws,p<N:=by
 induction r with
 | one=>intro p hp;rw[d8.mp hp];exact ha
 | snoc r m nv ih =>
  intro p hp
  rcases l8.mp hp with hp | hp
  ·exact ih p hp
  ·rw[d8.mp hp];exact (inn _ _ _ _ m).2
theorem Rt.lens (r:Rt B a ws S b x y){f:Nat->Int}(hf:∀ u v l k,(u,v,l,k)∈B->f k=l):(S.map f).sum=x:=by
 induction r with
 | one=>rfl
 | snoc r m nv ih =>
  rw[o3,ud2,ih,ua1,uey,ubq,List.sum_nil,hf _ _ _ _ m]
  left
structure Uni (B:List Arc)(a b:Nat)(ws S:List Nat)(x y:Int):Prop where
 rt:Rt B a ws S b x y
 least:∀ ws' S' x' y',Rt B a ws' S' b x' y'->¬ lt2 (x',y') (x,y)
theorem Uni.unique (K:Keys B){ws' S':List Nat}{x' y':Int}(h:Uni B a b ws S x y)(h':Uni B a b ws' S' x' y'):ws'=ws/\x'=x:=by
 have n1:=h.least _ _ _ _ h'.rt
 have n2:=h'.least _ _ _ _ h.rt
 have e:y'=y:=by unfold lt2 at n1 n2;simp only at n1 n2;left
 have r':=h'.rt
 rw[e] at r'
 exact h.rt.unique K r'
theorem Best.uni (K:Keys B)(h:Best B n s cs as){v:Nat}{c:Int × Int}(t:TPw as s ws.reverse v)(e:get cs v=some c):∃ S,Uni B v s ws S c.1 c.2:=by
 obtain⟨S,r⟩:=h.rt K t e
 have rb:=r.back K
 rw[List.reverse_reverse] at rb
 refine⟨_,rb,λ ws' S' x' y' r' z=>?_⟩
 obtain⟨c',e',n'⟩:=h.least (r'.back K)
 rw[e] at e';cases e'
 exact n' z
end
end Far
namespace Far
variable {A:List (Nat × Nat × Int)}{s:Nat}
theorem Walk.trans {u v:Nat}{x y:Int}(h:Walk A s u x)(k:Walk A u v y):Walk A s v (x+y):=by
 induction k with
 | nil=>rw[Int.add_zero];exact h
 | snoc _ m ih=>rw[← Int.add_assoc];exact .snoc ih m
def Con (A:List (Nat × Nat × Int))(s v:Nat):Prop:=∃ x,Walk A s v x
noncomputable def rB (A:List (Nat × Nat × Int))(s v:Nat):Bool:=@decide (Con A s v) (Classical.propDecidable _)
theorem Con.symm (S:Sym A){v:Nat}(h:Con A s v):Con A v s:=let ⟨x,w⟩:=h;⟨x,w.back S⟩
theorem Con.trans {u v:Nat}(h:Con A s u)(k:Con A u v):Con A s v:=let ⟨_,w⟩:=h;let ⟨_,z⟩:=k;⟨_,w.trans z⟩
noncomputable def rN (A:List (Nat × Nat × Int))(n s:Nat):List Nat:=(c9 n).filter (rB A s)
noncomputable def isHd (A:List (Nat × Nat × Int))(n p:Nat):Bool:=decide ((rN A n p).head?=some p)
noncomputable def pcs (A:List (Nat × Nat × Int))(n:Nat):List (List Nat):=((c9 n).filter (isHd A n)).map (rN A n)
end Far
namespace Far
section
variable {B:List Arc}{n s a b:Nat}{ws S:List Nat}{x y:Int}{cs:List (Option (Int × Int))}{as:List (Option Nat)}
theorem Rt.walkC (r:Rt B a ws S b x y):Walk (arcsC B) a b (comb (x,y)):=by
 induction r with
 | one=>exact .nil
 | @snoc ws S u v x y l k r m nv ih =>
  have:=Walk.snoc ih (arcsC_mem.mpr ⟨l,k,m,rfl⟩)
  have e:comb (x+l,y+2^k)=comb (x,y)+(l*2^61+2^k):=by unfold comb;simp only;left
  rw[e];exact this
theorem Rt.split (r:Rt B a ws S b x y):∀ {p q:List Nat}{u:Nat},ws=p++u::q->∃ S1 S2 x1 x2 y1 y2,Rt B a (p++[u]) S1 u x1 y1/\Rt B u (u::q) S2 b x2 y2/\x=x1+x2/\y=y1+y2:=by
 induction r with
 | one =>
  intro p q u e
  cases p with
  | nil =>
   injection e with e1 e2
   subst e1 e2
   exact⟨[],[],0,0,0,0,.one,.one,rfl,rfl⟩
  | cons z p=>injection e with e1 e2;cases p <;> cases e2
 | @snoc ws S u0 v x y l k r m nv ih =>
  intro p q u e
  rcases z9 q with rfl | ⟨q',v',rfl⟩
  ·have e':ws++[v]=p++[u]:=e
   obtain⟨e1,e2⟩:=uaf e' rfl
   cases e2
   subst e1
   exact⟨S++[k],[],x+l,0,y+2^k,0,r.snoc m nv,.one,by left,by left⟩
  ·have e':ws++[v]=(p++u::q')++[v']:=by rw[e,ucv];simp
   obtain⟨e1,e2⟩:=uaf e' rfl
   cases e2
   obtain⟨S1,S2,x1,x2,y1,y2,r1,r2,ex,ey⟩:=ih e1
   have nv2:v∉u::q':=λ h=>nv (by rw[e1];exact l4 _ h)
   have r3:=r2.snoc m nv2
   refine⟨S1,S2++[k],x1,x2+l,y1,y2+2^k,r1,?_,by left,by left⟩
   simpa using r3
def MinW (B:List Arc)(a b:Nat)(ws:List Nat):Prop:=∃ S x y,Rt B a ws S b x y/\∀ L,Walk (arcsC B) a b L->comb (x,y)<=L
theorem MinW.unique (K:Keys B){ws':List Nat}(h:MinW B a b ws)(h':MinW B a b ws'):ws'=ws:=by
 obtain⟨S,x,y,r,l⟩:=h
 obtain⟨S',x',y',r',l'⟩:=h'
 have e1:=l _ r'.walkC
 have e2:=l' _ r.walkC
 have b1:=r.lt K
 have b2:=r'.lt K
 have e:=gE (c:=(x,y)) (d:=(x',y')) ⟨b1.1,ue6 b1.2 (by decide)⟩ ⟨b2.1,ue6 b2.2 (by decide)⟩ (by left)
 injection e with ex ey
 subst ey
 exact (r.unique K r').1
theorem nE (x1 x2 y1 y2:Int):comb (x1+x2,y1+y2)=comb (x1,y1)+comb (x2,y2):=by unfold comb;simp only;left
theorem MinW.back (K:Keys B)(h:MinW B a b ws):MinW B b a ws.reverse:=by
 obtain⟨S,x,y,r,l⟩:=h
 exact⟨S.reverse,x,y,r.back K,λ L w=>l L (w.back (iL K))⟩
theorem Best.minw (K:Keys B)(h:Best B n s cs as){v:Nat}{c:Int × Int}(t:TPw as s ws.reverse v)(e:get cs v=some c):MinW B v s ws:=by
 obtain⟨S,r⟩:=h.rt K t e
 have rb:=r.back K
 rw[List.reverse_reverse] at rb
 refine⟨_,_,_,rb,λ L w=>?_⟩
 obtain⟨z,ez,le⟩:=(h.dst K v).2 L (w.back (iL K))
 rw[e] at ez
 cases ez
 exact le
theorem MinW.nodup (h:MinW B a b ws):ws.Nodup:=by
 obtain⟨S,x,y,r,l⟩:=h
 exact r.unlike
end
theorem kF {P:Nat->Prop}:∀ {l:List Nat},(∃ x∈l,P x)->∃ p u r,l=p++u::r/\(∀ x∈p,¬ P x)/\P u
 | [],h=>by obtain⟨x,hx,_⟩:=h;cases hx
 | z::l,h=>by
  by_cases c:P z
  ·exact⟨[],z,l,rfl,(λ x hx=>absurd hx u4),c⟩
  ·obtain⟨p,u,r,e,hp,hu⟩:=kF (P:=P) (l:=l) (by
    obtain⟨x,hx,px⟩:=h
    rcases h9.mp hx with rfl | hx
    ·exact absurd px c
    ·exact⟨x,hx,px⟩)
   refine⟨z::p,u,r,by rw[e];rfl,λ x hx=>?_,hu⟩
   rcases h9.mp hx with rfl | hx
   ·exact c
   ·exact hp x hx
end Far
namespace HT
open PySem PyProof.Rows
section
open PySem.SeqAt
open PySem.AutoSeq1 (wpAny_loadPart')
open PySem.MeetsSeq PySem.MeetsSeq2 PySem.MeetsSeq3
end
section
variable {prog:j9}{w:v9}{A:v7}{E:b9->c7->Prop}{s:c7}
end
end HT
namespace L3
open PySem PySem.Spec PyProof.Rows L2
section
variable {X:Cx}
end
def wide:Nat->uac->Prop
 | 0,_=>True
 | k+1,.tuple ds=>ds.length<=1000/\∀ d∈ds,wide k d
 | k+1,.list ds=>ds.length<=1000/\∀ d∈ds,wide k d
 | _+1,_=>True
theorem wide.mem {k:Nat}{ds:List uac}{d:uac}(h:wide (k+1) (.tuple ds))(m:d∈ds):wide k d:=(show _/\∀ d∈ds,wide k d from h).2 d m
def endsD:uac->Int × Int
 | .tuple [.int a,.int b,.int _]=>(a,b)
 | _=>(0,0)
def tiesB (n:Int):uac->Bool
 | .tuple ds=>decide (ds.length<=60)&&ds.all (tieB n)&&risingB (ds.map endsD)
 | _=>false
def Gd (H:Hp):Nat->V->Prop
 | 0,v=>flatD v=true
 | k+1,v=>flatD v=true\/(∃ p vs,v=.ref p/\(H p=some (.tup vs)\/H p=some (.lst vs))/\vs.length<=1000/\∀ u∈vs,Gd H k u)\/(∃ p,v=.ref p/\H p=some (.dK []))
theorem Gd.same {H H':Hp}(s:Same H H'):∀ {k:Nat}{v:V},Gd H k v->Gd H' k v
 | 0,_,h=>h
 | k+1,_,h=>by
  rcases h with h | ⟨p,vs,e,h1,h2,h3⟩ | ⟨p,e,h⟩
  ·exact .inl h
  ·exact .inr (.inl ⟨p,vs,e,h1.elim (λ z=>.inl (s _ _ z)) (λ z=>.inr (s _ _ z)),h2,λ u hu=>Gd.same s (h3 u hu)⟩)
  ·exact .inr (.inr ⟨p,e,s _ _ h⟩)
theorem Gd.up {H:Hp}:∀ {k:Nat}{v:V},Gd H k v->Gd H (k+1) v
 | 0,_,h=>.inl h
 | k+1,_,h=>by
  rcases h with h | ⟨p,vs,e,h1,h2,h3⟩ | h
  ·exact .inl h
  ·exact .inr (.inl ⟨p,vs,e,h1,h2,λ u hu=>Gd.up (h3 u hu)⟩)
  ·exact .inr (.inr h)
theorem Gd.tup {H:Hp}{k:Nat}{p:j8}{vs:List V}(h:H p=some (.tup vs))(hl:vs.length<=1000)(ha:∀ u∈vs,Gd H k u):Gd H (k+1) (.ref p):=.inr (.inl ⟨p,vs,rfl,.inl h,hl,ha⟩)
theorem Gd.lst {H:Hp}{k:Nat}{p:j8}{vs:List V}(h:H p=some (.lst vs))(hl:vs.length<=1000)(ha:∀ u∈vs,Gd H k u):Gd H (k+1) (.ref p):=.inr (.inl ⟨p,vs,rfl,.inr h,hl,ha⟩)
theorem iV {K:a9}{H:Hp}{k:Nat}:∀ {vs:List V},(∀ u∈vs,∃ d,Is K H d u/\wide k d)->∃ ds:List uac,IsAll K H ds vs/\∀ d∈ds,wide k d
 | [],_=>⟨[],rfl,λ d h=>by cases h⟩
 | v::vs,h=>by
  obtain⟨d,hd,hw⟩:=h v g9
  obtain⟨ds,hds,hws⟩:=iV λ u hu=>h u (j4 _ hu)
  exact⟨d::ds,⟨v,vs,rfl,hd,hds⟩,λ e he=>(h9.mp he).elim (λ z=>z ▸ hw) (hws e)⟩
def lt2 (e f:Int × Int):Prop:=e.1<f.1\/(e.1=f.1/\e.2<f.2)
theorem mU (e f:Int × Int):HT.lexLt (e2 e) (e2 f)=true↔lt2 e f:=by
 show (if e.1=f.1 then (if e.2=f.2 then false else decide (e.2<f.2)) else decide (e.1<f.1))=true↔_
 unfold lt2
 by_cases h:e.1=f.1
 ·rw[uf7 h]
  by_cases h2:e.2=f.2
  ·rw[uf7 h2];simp;left
  ·rw[uf8 h2,decide_eq_true_eq];left
 ·rw[uf8 h,decide_eq_true_eq];left
theorem lt2.trans {e f g:Int × Int}(h:lt2 e f)(k:lt2 f g):lt2 e g:=by unfold lt2 at *;left
structure PreT (n:Int)(ds:List uac)(i:Nat)(a:Int × Int):Prop where
 tie:∀ d∈ds.take i,tieB n d=true
 up:((ds.take i).map endsD).Pairwise lt2
 top:∀ x∈(ds.take i).map endsD,x=a\/lt2 x a
 at_:a=(-1,-1)\/a∈(ds.take i).map endsD
theorem PreT.zero {n:Int}{ds:List uac}:PreT n ds 0 (-1,-1):=⟨λ d h=>(by simp at h),(by simp),λ x h=>(by simp at h),.inl rfl⟩
section
variable {X:Cx}{es:List ubv}{t:TA}{pos:Pos}
def tTupG (t:TA):TE:=λ σ H Q=>t σ H λ xs H1=>xs.length<=1000/\∀ p H',Same H1 H'->H1 p=none->H' p=some (.tup xs)->Q (.ref p) H'
def tLstG (t:TA):TE:=λ σ H Q=>t σ H λ xs H1=>xs.length<=1000/\∀ p H',Same H1 H'->H1 p=none->H' p=some (.lst xs)->Q (.ref p) H'
theorem bH {x1} (h:PA X es t):PE X (.Tuple es x1 pos) (tTupG t):=by
 intro pins s σ H Q I hq
 refine wpAny_Tuple_spliced (thn (h pos pins s σ H _ I hq) λ us s1 ⟨xs,J,I1,r,z,q⟩=>?_)
 have z':xs.length<=m3:=o8 z (by decide)
 have fr:J s1.heap.objs.size=none:=I1.hok.fresh (c8 _)
 refine⟨by rw[← r.length];exact z',.ref s1.heap.objs.size,upd J s1.heap.objs.size (.tup xs),I1.laid (t':=s1.toks) (λ b u e=>b7 _ e) (c8 _) ⟨z',us,r,⟨_,i8 _ rfl,rfl,⟨_,rfl⟩,rfl⟩⟩,rfl,q _ _ (aS fr) fr aK⟩
theorem bK (h:PA X es t):PE X (.List es pos) (tLstG t):=by
 intro pins s σ H Q I hq
 refine wpAny_List_spliced (thn (h pos pins s σ H _ I hq) λ us s1 ⟨xs,J,I1,r,z,q⟩=>?_)
 have z':xs.length<=m3:=o8 z (by decide)
 have fr:J s1.heap.objs.size=none:=I1.hok.fresh (c8 _)
 refine⟨by rw[← r.length];exact z',.ref s1.heap.objs.size,upd J s1.heap.objs.size (.lst xs),I1.laid (t':=s1.toks) (λ b u e=>b7 _ e) (c8 _) ⟨z',us,0,r,i8 _ rfl⟩,rfl,q _ _ (aS fr) fr aK⟩
inductive rAppendG_i  (x:V) (vs:List V) (H:Hp) (Q:VK):Prop
 | mk:∀ l xs y,(x=.ref l)->(vs=[y])->(H l=some (.lst xs))->(xs.length<1000)->(∀ H',But l H H'->H' l=some (.lst (xs++[y]))->Q .non H')->rAppendG_i x vs H Q
def rAppendG :V->List V->Hp->VK->Prop:=λ x vs H Q=>rAppendG_i x vs H Q
theorem eZ:MtM X "list.append" rAppendG:=by
 intro pins s σ H x vs v us Q I rx rv h
 obtain⟨l,xs,y,rfl,rfl,hH,hz,q⟩:=h
 exact fW (X:=X) pins s σ H _ _ v us Q I rx rv ⟨l,xs,y,rfl,rfl,hH,m8 hz (by decide),q _ But.upd aK⟩
inductive call_listG_i  (xs:List V) (H:Hp) (Q:VK):Prop
 | mk:∀ p ys,(xs=[.ref p])->((H p=some (.lst ys)\/H p=some (.tup ys)))->(∀ l H',Same H H'->H l=none->H' l=some (.lst ys)->Q (.ref l) H')->call_listG_i xs H Q
theorem uH:CallR X (.type "list") (call_listG_i):=by
 intro pins s σ H xs us Q I r h
 obtain⟨p,ys,rfl,hp,q⟩:=h
 exact sE (X:=X) pins s σ H _ us Q I r ⟨p,ys,rfl,hp.elim (λ e=>.inl (SqL.of e)) (λ e=>.inr (SqT.of e)),λ l hl=>q l _ (aS hl) hl aK⟩
end
def Sm (H:Hp)(t:j8):Prop:=∃ vs:List V,(H t=some (.tup vs)\/H t=some (.lst vs))/\vs.length<=1000/\vs.all flatD=true
theorem Sm.same {H H':Hp}{t:j8}(h:Sm H t)(s:Same H H'):Sm H' t:=let ⟨vs,h1,h2⟩:=h;⟨vs,h1.elim (λ e=>.inl (s _ _ e)) (λ e=>.inr (s _ _ e)),h2⟩
theorem Sm.some {H:Hp}{t:j8}(h:Sm H t):H t≠none:=λ z=>by
 obtain⟨vs,h1,_⟩:=h
 rcases h1 with e | e <;> (rw[z] at e;cases e)
def GdF (H:Hp)(xs:List V):Prop:=∀ u∈xs,∃ t,u=.ref t/\Sm H t
def GdL (l:j8)(H:Hp)(xs:List V):Prop:=∀ u∈xs,∃ t,u=.ref t/\t≠l/\Sm H t
theorem GdF.nil {H:Hp}:GdF H []:=λ u h=>by cases h
theorem GdF.snoc {H H':Hp}{xs:List V}{t:j8}(h:GdF H xs)(s:Same H H')(ht:Sm H' t):GdF H' (xs++[.ref t]):=λ u hu=>by
 rcases l8.mp hu with hu | hu
 ·obtain⟨t',e,h'⟩:=h u hu;exact⟨t',e,h'.same s⟩
 ·exact⟨t,d8.mp hu,ht⟩
theorem GdL.same {l:j8}{H H':Hp}{xs:List V}(h:GdL l H xs)(s:Same H H'):GdL l H' xs:=λ u hu=>let ⟨t,e,n,h'⟩:=h u hu;⟨t,e,n,h'.same s⟩
theorem GdL.nil {l:j8}{H:Hp}:GdL l H []:=λ u h=>by cases h
theorem GdL.snoc {l:j8}{H H':Hp}{xs:List V}{t:j8}(h:GdL l H xs)(s:Same H H')(f:H t=none)(hl:H l≠none)(ht:Sm H' t):GdL l H' (xs++[.ref t]):=λ u hu=>by
 rcases l8.mp hu with hu | hu
 ·exact h.same s u hu
 ·exact⟨t,d8.mp hu,λ z=>hl (z ▸ f),ht⟩
section
variable {g:TG}{te:TE}{own:List Str}{js:List Nat}{σ:L2.St}{H1:Hp}{Q:VK}
theorem uD {lo:Int}{n:Nat}(Sg:L2.St->Prop)(R:Nat->V->Hp->Prop)(hn:n<=1000)(h0:Sg (start3 own js σ))(mono:∀ i v H H',TupKeep H H'->R i v H->R i v H')
  (step:∀ i σ' H',i<n->Same H1 H'->Sg σ'->∀ C:L2.St->V->Hp->Prop,(∀ σ3 v H5,Sg σ3->Same H' H5->R i v H5->C σ3 v H5)->g (.int (lo+i)) σ' H' λ σ3 H3=>te σ3 H3 λ v H5=>C σ3 v H5)
  (fin:∀ D ys H',H1 D=none->Same H1 H'->H' D=some (.lst ys)->ys.length=n->(∀ i v,ys[i]?=some v->R i v H')->Q (.ref D) H'):CompGo own js g tTrue te σ Q (Itr lo n) H1:=by
 refine gD n Sg R hn h0 mono (λ i H' hi s=>hi) (λ H' s=>c8 _) (λ i x σ' H' H2 hi s hy sg C hC=>?_) fin
 obtain⟨rfl,rfl⟩:=hy
 exact step i σ' _ hi s sg C hC
end
inductive call_tupleG_i  (xs:List V) (H:Hp) (Q:VK):Prop
 | mk:∀ p ys,(xs=[.ref p])->(H p=some (.lst ys))->(∀ l H',Same H H'->H l=none->H' l=some (.tup ys)->Q (.ref l) H')->call_tupleG_i xs H Q
theorem eQ {X:Cx}:CallR X (.type "tuple") (call_tupleG_i):=by
 intro pins s σ H xs us Q I r h
 obtain⟨p,ys,rfl,hp,q⟩:=h
 exact hJ (X:=X) pins s σ H _ us Q I r ⟨p,ys,rfl,.inl ⟨SqL.of hp,λ l hl=>q l _ (aS hl) hl aK⟩⟩
def Row3 (H:Hp)(v:V):Prop:=∃ (t:j8)(x y z:Int),v=.ref t/\H t=some (.tup [.int x,.int y,.int z])
section
variable {X:Cx}
end
def tieAt (ts:List Tie)(k:Nat):Tie:=ts.getD k (0,0,0)
def arcs2 (t:Tie):List (Nat × Nat × Int):=[(t.1.toNat,t.2.1.toNat,t.2.2),(t.2.1.toNat,t.1.toNat,t.2.2)]
def arcs (ts:List Tie)(ks:List Nat):List (Nat × Nat × Int):=ks.flatMap λ k=>arcs2 (tieAt ts k)
theorem arcs_mem {ts:List Tie}{ks:List Nat}{a:Nat × Nat × Int}:a∈arcs ts ks↔∃ k,k∈ks/\a∈arcs2 (tieAt ts k):=by
 unfold arcs;rw[uc3]
theorem arcs2_mem {t:Tie}{a:Nat × Nat × Int}:a∈arcs2 t↔a=(t.1.toNat,t.2.1.toNat,t.2.2)\/a=(t.2.1.toNat,t.1.toNat,t.2.2):=by
 unfold arcs2;simp
theorem aZ {ts:List Tie}{k:Nat}(h:k<ts.length):ts[k]?=some (tieAt ts k)/\tieAt ts k∈ts:=by
 have e:ts[k]?=some (tieAt ts k):=by unfold tieAt;rw[b8,b6 h];rfl
 exact⟨e,i9 e⟩
theorem yZ {a b c d:Int}(h1:0<=a)(h2:a<b)(h3:0<=c)(h4:c<d)(h:a.toNat=c.toNat/\b.toNat=d.toNat\/a.toNat=d.toNat/\b.toNat=c.toNat):a=c/\b=d:=by left
theorem nA {s t:Tie}(h:endLt s t)(e1:s.1=t.1)(e2:s.2.1=t.2.1):False:=by
 rcases h with h | h
 ·exact Int.lt_irrefl _ (e1 ▸ h)
 ·exact Int.lt_irrefl _ (e2 ▸ h.2)
theorem mF {n:Int}{ts:List Tie}(ok:WebOk n ts){k k':Nat}(hk:k<ts.length)(hk':k'<ts.length)(e1:(tieAt ts k).1=(tieAt ts k').1)(e2:(tieAt ts k).2.1=(tieAt ts k').2.1):k=k':=by
 have pw:∀ i j (hi:i<ts.length) (hj:j<ts.length),i<j->endLt (tieAt ts i) (tieAt ts j):=λ i j hi hj z=>by
  have q:=uas.mp ok.rise i j hi hj z
  have g:∀ {i:Nat}(hi:i<ts.length),ts[i]=tieAt ts i:=λ {i} hi=>j5 ((b6 hi).symm.trans (aZ hi).1)
  rwa [g hi,g hj] at q
 rcases ubb k k' with z | z | z
 ·exact (nA (pw k k' hk hk' z) e1 e2).elim
 ·exact z
 ·exact (nA (pw k' k hk' hk z) e1.symm e2.symm).elim
section
variable {n:Int}{ts:List Tie}{ks:List Nat}
theorem nK (ok:WebOk n ts)(ko:KeepOk ts.length ks):Far.Pos (arcs ts ks):=λ u v l h=>by
 obtain⟨k,hk,h⟩:=arcs_mem.mp h
 have:=ok.tie _ (aZ (ko.2 k hk)).2
 rcases arcs2_mem.mp h with h | h <;> cases h <;> left
theorem zD (ok:WebOk n ts)(ko:KeepOk ts.length ks):∀ u v l,(u,v,l)∈arcs ts ks->u<n.toNat/\v<n.toNat:=λ u v l h=>by
 obtain⟨k,hk,h⟩:=arcs_mem.mp h
 have:=ok.tie _ (aZ (ko.2 k hk)).2
 rcases arcs2_mem.mp h with h | h <;> cases h <;> left
end
def CV (H:Hp)(v:V):Option (Int × Int)->Prop
 | none=>v=.non
 | some e=>∃ t,v=.ref t/\H t=some (.tup [.int e.1,.int e.2])
theorem CV.keep {H H':Hp}(k:TupKeep H H'){v:V}:∀ {o:Option (Int × Int)},CV H v o->CV H' v o
 | none,h=>h
 | some e,⟨t,h1,h2⟩=>⟨t,h1,k _ _ h2⟩
def CostL (H:Hp)(vs:List V)(cs:List (Option (Int × Int))):Prop:=vs.length=cs.length/\∀ i v,vs[i]?=some v->CV H v (Far.get cs i)
section
variable {H H' J J':Hp}{vs cvs avs ws:List V}{cs:List (Option (Int × Int))}{lw lc la t:j8}{n k:Nat}{x y:Int}
theorem CostL.keep (h:CostL H vs cs)(k:TupKeep H H'):CostL H' vs cs:=⟨h.1,λ i v e=>(h.2 i v e).keep k⟩
theorem CostL.set {v:V}{c:Int × Int}(h:CostL H vs cs)(hk:k<vs.length)(hv:CV H v (some c)):CostL H (vs.set k v) (cs.set k (some c)):=by
 refine⟨by rw[ual,ual];exact h.1,λ i u e=>?_⟩
 rw[Far.aY (by rw[← h.1];exact hk)]
 rw[List.getElem?_set] at e
 by_cases z:k=i
 ·subst z;rw[uf7 rfl,uf7 hk] at e;cases e;rw[uf7 rfl];exact hv
 ·rw[uf8 z] at e;rw[uf8 (Ne.symm z)];exact h.2 i u e
theorem CostL.first (n:Nat):CostL H (j6 n .non) (j6 n none):=by
 refine⟨by rw[m5,m5],λ i v e=>?_⟩
 rw[Far.cD]
 rw[ucp] at e
 split at e
 ·cases e;rfl
 ·cases e
theorem fM {p:j8}{xs:List V}{o:HO}(h:J p=some (.lst xs)):TupKeep J (upd J p o):=λ a ys e=>by
 rw[aG (λ z=>by rw[z,h] at e;cases e)];exact e
theorem nN (s:Same J J'):TupKeep J J':=λ a xs e=>s _ _ e
structure RH (H J:Hp)(lw lc la:j8)(ws:List V)(n:Nat)(cs:List (Option (Int × Int))):Prop where
 same:Same H J
 fc:H lc=none
 fa:H la=none
 nwc:lw≠lc
 nwa:lw≠la
 nca:lc≠la
 wl:J lw=some (.lst ws)
 co:∃ cvs,J lc=some (.lst cvs)/\CostL J cvs cs
 ah:∃ avs,J la=some (.lst avs)/\avs.length=n
end
theorem nT {α:Type}(x:α):∀ k:Nat,(j6 k [x]).flatten=j6 k x
 | 0=>rfl
 | k+1=>by rw[ubr,ucu,nT x k];rfl
def ov:Option Int->V
 | none=>.non
 | some x=>.int x
theorem gZ {D:List (Option Int)}{i:Nat}(h:i<D.length):(D.map ov)[i]?=some (ov (Far.get D i)):=by
 rw[j3,b6 h]
 unfold Far.get
 rw[b8,b6 h];rfl
theorem bA {α:Type}{xs:List α}{i:Int}{x:α}(h0:0<=i)(h:xs[i.toNat]?=some x):atI xs i=some x:=by
 have hl:=(i3.mp h).1
 unfold atI ixN
 rw[uf7 h0,uf7 (by left)]
 exact h
theorem cR {n:Nat}{i:Int}(h0:0<=i)(h:i<n):ixN n i=some i.toNat:=by
 unfold ixN;rw[uf7 h0,uf7 h]
inductive rRep1_i  (x:V) (y:V) (H:Hp) (Q:VK):Prop
 | mk:∀ l k z,(x=.ref l)->(y=.int k)->(H l=some (.lst [z]))->(0<=k)->(k<=1000)->(∀ p H',Same H H'->H p=none->H' p=some (.lst (j6 k.toNat z))->Q (.ref p) H')->rRep1_i x y H Q
def rRep1 :R2:=λ x y H Q=>rRep1_i x y H Q
theorem gL {X:Cx}:OpR X (binaryOp .Mult) rRep1:=by
 intro pins s σ H x y v u Q I rx ry h
 obtain⟨l,k,z,rfl,rfl,hH,h1,h2,q⟩:=h
 refine zP (X:=X) pins s σ H _ _ v u Q I rx ry ⟨l,k,_,rfl,rfl,hH,by left,by left,?_,λ p hp=>q p _ (aS hp) hp (by rw[aK,nT])⟩
 exact o8 (by show 1*k.toNat<=1000;left) (by decide:1000<=m3)
theorem bR {K:a9}{H:Hp}:∀ {ts:List Tie}{ws:List V}{k:Nat},IsAll K H (ts.map tieD) ws->k<ts.length->∃ a,ws[k]?=some (.ref a)/\H a=some (.tup [.int (tieAt ts k).1,.int (tieAt ts k).2.1,.int (tieAt ts k).2.2])
 | t::r,ws,0,h,_=>by
  obtain⟨v,vs,rfl,h1,_⟩:=h
  obtain⟨a,xs,rfl,ha,hx⟩:=h1
  have e:xs=(tieI t).map V.int:=IsAll.of_ints (ns:=tieI t) hx
  subst e
  exact⟨a,rfl,ha⟩
 | t::r,ws,k+1,h,hk=>by
  obtain⟨v,vs,rfl,_,h2⟩:=h
  obtain⟨a,e,ha⟩:=bR (ts:=r) (ws:=vs) (k:=k) h2 (by simpa using hk)
  exact⟨a,e,ha⟩
theorem cL {K:a9}{H:Hp}{ks:List Nat}{v:V}(h:Is K H (keepD ks) v):∃ p,v=.ref p/\H p=some (.tup ((keepI ks).map V.int)):=by
 obtain⟨p,vs,rfl,hp,hx⟩:=h
 have e:=IsAll.of_ints hx
 subst e
 exact⟨p,rfl,hp⟩
theorem gN {ks:List Nat}{i:Nat}{x:V}(h:((keepI ks).map V.int)[i]?=some x):∃ k,ks[i]?=some k/\x=.int (k:Int):=by
 unfold keepI at h
 rw[ubd,j3] at h
 cases e:ks[i]? with
 | none=>rw[e] at h;cases h
 | some k=>rw[e] at h;cases h;exact⟨k,rfl,rfl⟩
theorem oM {H:Hp}{vs:List V}{cs:List (Option (Int × Int))}{i:Int}(h:CostL H vs cs)(h0:0<=i)(hi:i.toNat<cs.length):∃ v,atI vs i=some v/\CV H v (Far.get cs i.toNat):=by
 have hl:i.toNat<vs.length:=by rw[h.1];exact hi
 have e:vs[i.toNat]?=some vs[i.toNat]:=b6 hl
 exact⟨_,bA h0 e,h.2 _ _ e⟩
def pows (m:Nat):List V:=(c9 m).map λ i=>V.int (2^i)
theorem nW {m i:Nat}(h:i<m):(pows m)[i]?=some (.int (2^i)):=by unfold pows;rw[j3,uaw h];rfl
theorem uW (m:Nat):pows (m+1)=pows m++[.int (2^m)]:=by unfold pows;rw[ua0,o3];rfl
theorem oU {i:Nat}(h:i<60):(0:Int)<=2^i/\(2:Int)^i<=2^60:=by
 have e:((2^i:Nat):Int)=(2:Int)^i:=by norm_cast
 have:2^i<=2^60:=ub9 (by decide) (by left)
 constructor
 ·rw[← e];exact m9 _
 ·rw[← e];exact_mod_cast this
def spWeights (K:a9):Sp:=λ vs H Q _=>∃ n ts v,vs=[v]/\Is K H (webD n ts) v/\ts.length<=60/\∀ l H',Same H H'->H l=none->H' l=some (.lst (pows ts.length))->Q (.ref l) H'
def spCost (K:a9):Sp:=λ vs H Q _=>∃ c x y l w,vs=[.ref c,.int l,.int w]/\H c=some (.tup [.int x,.int y])/\∀ t H',Same H H'->H' t=some (.tup [.int (x+l),.int (y+w)])->Q (.ref t) H'
def WK (K:a9)(H:Hp)(n:Int)(ts:List Tie)(ks:List Nat)(wv kv:V):Prop:=Is K H (webD n ts) wv/\WebOk n ts/\Is K H (keepD ks) kv/\KeepOk ts.length ks
theorem WK.same {K:a9}{H H':Hp}{n:Int}{ts:List Tie}{ks:List Nat}{wv kv:V}(h:WK K H n ts ks wv kv)(s:Same H H'):WK K H' n ts ks wv kv:=⟨Is.same s _ h.1,h.2.1,Is.same s _ h.2.2.1,h.2.2.2⟩
end L3
namespace HT
open PySem PyProof.Rows
open Sem (wp)
section
variable {prog:j9}{w:v9}{A:v7}{E:b9->c7->Prop}{s:c7}
end
end HT
namespace L3
open PySem PySem.Spec PyProof.Rows L2
def capO (roof:Int):Option Int->Int
 | none=>roof
 | some x=>if roof<x then roof else x
def IntT (H:Hp)(p:j8)(hs:List Int):Prop:=H p=some (.tup (hs.map V.int))/\hs.length<=1000
theorem IntT.same {H H':Hp}{p:j8}{hs:List Int}(h:IntT H p hs)(s:Same H H'):IntT H' p hs:=⟨s _ _ h.1,h.2⟩
def AllI (xs:List V):Prop:=∃ ns:List Int,xs=ns.map V.int
theorem AllI.of {xs:List V}(h:∀ x∈xs,∃ i,x=V.int i):AllI xs:=by
 induction xs with
 | nil=>exact⟨[],rfl⟩
 | cons x r ih =>
  obtain⟨i,rfl⟩:=h x g9
  obtain⟨ns,rfl⟩:=ih λ y hy=>h y (j4 _ hy)
  exact⟨i::ns,rfl⟩
theorem AllI.mem {xs:List V}(h:AllI xs):∀ x∈xs,∃ i,x=V.int i:=by
 obtain⟨ns,rfl⟩:=h
 intro x hx
 obtain⟨i,_,rfl⟩:=ua5.mp hx
 exact⟨i,rfl⟩
theorem AllI.app {xs ys:List V}(h:AllI xs)(k:AllI ys):AllI (xs++ys):=by
 obtain⟨ns,rfl⟩:=h;obtain⟨ms,rfl⟩:=k
 exact⟨ns++ms,by rw[o3]⟩
theorem AllI.one (i:Int):AllI [V.int i]:=⟨[i],rfl⟩
theorem cH:∀ hs:List Int,uct (hs.map .int)=true
 | []=>rfl
 | t::r=>by
  show (ud8 (.int t)&&uct (r.map .int))=true
  rw[cH r]
  rfl
theorem iJ:∀ hs:List Int,ubl (hs.map .int)<=1
 | []=>v4 _
 | t::r=>by
  show max (uar (.int t)) (ubl (r.map .int))<=1
  have h1:=iJ r
  have h2:uar (.int t)<=1:=o8 (ue1 (by rfl:uar (.int t)=0)) (by decide)
  left
section
variable {g:TG}{te:TE}{own:List Str}{js:List Nat}{σ:L2.St}{H1:Hp}{Q:VK}
end
section
variable {J:It}{g:TG}{tt:TT}{te:TE}{own:List Str}{js:List Nat}{σ:L2.St}{H1:Hp}{Q:VK}
theorem nC (n:Nat)(Sg:L2.St->Prop)(sel:Nat->Option V)(hn:n<=1000)(h0:Sg (start3 own js σ))
  (go:∀ i H',i<n->Same H1 H'->J.go i H') (stop:∀ H',Same H1 H'->J.stop n H')
  (step:∀ i x σ' H' H2,i<n->Same H1 H'->J.yld i H' x H2->Sg σ'->∀ (C:L2.St->V->Hp->Prop)(L:L2.St->Hp->Prop),(∀ σ3 v H5,Sg σ3->Same H' H5->sel i=some v->C σ3 v H5)->(∀ σ3 H5,Sg σ3->Same H' H5->sel i=none->L σ3 H5) ->
   g x σ' H2 λ σ3 H3=>tt σ3 H3 λ b H4=>if b=true then te σ3 H4 λ v H5=>C σ3 v H5 else L σ3 H4)
  (fin:∀ D H',H1 D=none->Same H1 H'->H' D=some (.lst ((c9 n).filterMap sel))->Q (.ref D) H'):CompGo own js g tt te σ Q J H1:=by
 intro D hD
 refine⟨λ i m ys σ' H'=>m=n-i/\i<=n/\Sg σ'/\Same H1 H'/\ys=(c9 i).filterMap sel,⟨n,rfl,v4 _,h0,aS hD,rfl⟩,?_⟩
 rintro i m ys σ' H' ⟨rfl,hi,sg,sm,rfl⟩ hd
 have len:((c9 i).filterMap sel).length<=i:=by have:=ucl sel (c9 i);rw[p8] at this;exact this
 by_cases hlt:i<n
 ·refine .inr ⟨go i H' hlt sm,λ x H2 hy=>?_⟩
  refine step i x σ' H' H2 hlt sm hy sg
   (λ σ3 v H5=>H5 D=some (.lst ((c9 i).filterMap sel))/\((c9 i).filterMap sel).length<m3/\∃ m',m'<n-i/\(m'=n-(i+1)/\i+1<=n/\Sg σ3/\Same H1 (upd H5 D (.lst ((c9 i).filterMap sel++[v])))/\(c9 i).filterMap sel++[v]=(c9 (i+1)).filterMap sel))
   (λ σ3 H5=>H5 D=some (.lst ((c9 i).filterMap sel))/\∃ m',m'<n-i/\(m'=n-(i+1)/\i+1<=n/\Sg σ3/\Same H1 H5/\(c9 i).filterMap sel=(c9 (i+1)).filterMap sel)) (λ σ3 v H5 sg3 s5 e=>?_) (λ σ3 H5 sg3 s5 e=>?_)
  ·refine⟨s5 _ _ hd,uak (by left:((c9 i).filterMap sel).length<=1000) (by decide),n-(i+1),by left,rfl,hlt,sg3,λ b o z=>?_,?_⟩
   ·rw[aG (aV z hD)];exact s5 _ _ (sm _ _ z)
   ·rw[ua0,uan];simp [e]
  ·refine⟨s5 _ _ hd,n-(i+1),by left,rfl,hlt,sg3,sm.trans s5,?_⟩
   rw[ua0,uan];simp [e]
 ·have e:i=n:=by left
  subst e
  exact .inl ⟨stop H' sm,fin D H' hD sm hd⟩
theorem vT {t:Bool}{K:a9}{a:j8}{xs:List V}(hx:H1 a=some (if t=true then .tup xs else .lst xs))(Sg:L2.St->Prop)(sel:Nat->Option V)(hn:xs.length<=1000)(h0:Sg (start3 own js σ))
  (step:∀ i x T σ' H',xs[i]?=some x->Same H1 H'->H' T=none->Sg σ'->∀ (C:L2.St->V->Hp->Prop)(L:L2.St->Hp->Prop),(∀ σ3 v H5,Sg σ3->Same H' H5->sel i=some v->C σ3 v H5)->(∀ σ3 H5,Sg σ3->Same H' H5->sel i=none->L σ3 H5) ->
   g (.ref T) σ' (upd H' T (.tup [.int (i:Nat),x])) λ σ3 H3=>tt σ3 H3 λ b H4=>if b=true then te σ3 H4 λ v H5=>C σ3 v H5 else L σ3 H4)
  (fin:∀ D H',H1 D=none->Same H1 H'->H' D=some (.lst ((c9 xs.length).filterMap sel))->Q (.ref D) H'):CompGo own js g tt te σ Q (Itn t K a) H1:=by
 have s1:∀ H',Same H1 H'->SqX t K H' a xs:=λ H' s=>SqX.of (s _ _ hx)
 refine nC xs.length Sg sel hn h0 (λ i H' hi s=>⟨xs,xs[i],s1 H' s,by simp [hi]⟩) (λ H' s=>⟨xs,s1 H' s,c8 _⟩) (λ i x σ' H' H2 hi s hy sg C L hC hL=>?_) fin
 obtain⟨T,y,hT,rfl,rfl,e⟩:=hy
 exact step i y T σ' H' (e _ (s1 H' s)) s hT sg C L hC hL
end
def natV (ns:List Nat):List V:=ns.map λ v:Nat=>V.int (v:Int)
theorem bN (ns:List Nat):natV ns=(keepI ns).map V.int:=by unfold natV keepI;rw[ubd];rfl
theorem iP (p:Nat->Bool):∀ is:List Nat,is.filterMap (λ i=>if p i=true then some (V.int (i:Int)) else none)=natV (is.filter p)
 | []=>rfl
 | i::r=>by
  rw[uam,List.filter_cons]
  cases e:p i with
  | true=>rw[uf7 rfl,uf7 rfl,iP p r];rfl
  | false=>rw[uf8 i6,uf8 i6,iP p r]
theorem IsAll.snoc {K:a9}{H:Hp}{d:uac}{v:V}(hv:Is K H d v):∀ {ds:List uac}{vs:List V},IsAll K H ds vs->IsAll K H (ds++[d]) (vs++[v])
 | [],_,h=>by
  have e:_=[]:=h
  subst e
  exact⟨v,[],rfl,hv,rfl⟩
 | _::_,_,⟨u,r,e,h1,h2⟩=>by
  subst e
  exact⟨u,r++[v],rfl,h1,IsAll.snoc hv h2⟩
theorem oE {a:Int}(h:0<=a)(ns:List Nat):inV (.int a) (natV ns)=decide (a.toNat∈ns):=by
 unfold inV natV
 rw[List.any_map,ubm,udu,decide_eq_true_iff]
 constructor
 ·rintro ⟨v,hv,e⟩
  have e':((v:Int)==a)=true:=e
  have:(v:Int)=a:=by simpa using e'
  have e2:a.toNat=v:=by left
  rw[e2];exact hv
 ·intro m
  exact⟨_,m,show (((a.toNat:Nat):Int)==a)=true by rw[v8 h];simp⟩
theorem mY (ns:List Nat):(natV ns).all flatV=true:=by
 unfold natV;rw[List.all_map];exact uc4.mpr λ _ _=>rfl
theorem mR {q:Nat}{r:List Nat}:atI (natV (q::r)) 0=some (.int (q:Int)):=by
 refine bA (by decide) ?_
 rfl
end L3
namespace Srt
open PySem PySem.Spec PyProof.Rows PySem.W
section
variable {prog:j9}{w:v9}{A:v7}{E:b9->c7->Prop}{s:c7}
end
end Srt
namespace HT
open PySem PyProof.Rows
section
variable {prog:j9}{w:v9}{A:v7}{E:b9->c7->Prop}{s:c7}
end
section
variable {prog:j9}{w:v9}{A:v7}{E:b9->c7->Prop}{s:c7}
end
end HT
namespace L3
open PySem PySem.Spec PyProof.Rows L2
section
variable {X:Cx}
end
section
variable {g:TG}{tt:TT}{te:TE}{own:List Str}{js:List Nat}{σ:L2.St}{H1:Hp}{Q:VK}
theorem lQ {K:a9}{a:j8}{xs:List V}(hx:H1 a=some (.tup xs))(Sg:L2.St->Prop)(sel:Nat->Option V)(hn:xs.length<=1000)(h0:Sg (start3 own js σ))
  (step:∀ i x σ' H',xs[i]?=some x->Same H1 H'->Sg σ'->∀ (C:L2.St->V->Hp->Prop)(L:L2.St->Hp->Prop),(∀ σ3 v H5,Sg σ3->Same H' H5->sel i=some v->C σ3 v H5)->(∀ σ3 H5,Sg σ3->Same H' H5->sel i=none->L σ3 H5) ->
   g x σ' H' λ σ3 H3=>tt σ3 H3 λ b H4=>if b=true then te σ3 H4 λ v H5=>C σ3 v H5 else L σ3 H4)
  (fin:∀ D H',H1 D=none->Same H1 H'->H' D=some (.lst ((c9 xs.length).filterMap sel))->Q (.ref D) H'):CompGo own js g tt te σ Q (Itt K a) H1:=by
 refine nC xs.length Sg sel hn h0 (λ i H' hi s=>⟨xs,xs[i],SqT.of (s _ _ hx),by simp [hi]⟩) (λ H' s=>⟨xs,SqT.of (s _ _ hx),c8 _⟩) (λ i x σ' H' H2 hi s hy sg C L hC hL=>?_) fin
 obtain⟨rfl,hy⟩:=hy
 exact step i x σ' _ (hy xs (SqT.of (s _ _ hx))) s sg C L hC hL
end
def outs (m:Nat)(ks:List Nat):List Nat:=(c9 m).filter λ k=>decide (k∉ks)
noncomputable def gO (ts:List Tie)(ks:List Nat)(k:Nat):Option Int :=
 @dite (Option Int) (∃ o,Far.Dst (arcs ts ks) (tieAt ts k).1.toNat (tieAt ts k).2.1.toNat o) (Classical.propDecidable _) (λ h=>Classical.choose h) λ _=>none
theorem bQ {ns:List Nat}{i:Nat}{x:V}(h:(natV ns)[i]?=some x):∃ k,ns[i]?=some k/\x=.int (k:Int):=by
 rw[bN] at h;exact gN h
theorem lI (ns:List Int):∀ i,i<=ns.length->preSum (λ i=>ns.getD i 0) i=(ns.take i).sum
 | 0,_=>rfl
 | i+1,h=>by
  have e:ns[i]?=some ns[i]:=b6 (by left)
  show preSum _ i+ns.getD i 0=_
  rw[lI ns i (by left),iF e,ud2,b8,e]
  simp
inductive call_sumA_i  (xs:List V) (H:Hp) (Q:VK):Prop
 | mk:∀ (p:j8)(ns:List Int),(xs=[.ref p])->(H p=some (.lst (ns.map V.int)))->(Q (.int ns.sum) H)->call_sumA_i xs H Q
theorem vW {X:Cx}(hh:X.calm=true):CallR X (.builtin "sum") (call_sumA_i):=by
 intro pins s σ H xs us Q I r h
 obtain⟨p,ns,rfl,hq,q⟩:=h
 obtain⟨u,rfl,rx⟩:=vals1 r
 cases rx
 obtain⟨its,rv,pl,hz⟩:=I.list (SqL.of hq)
 have hl:=rv.length
 rw[c6] at hl
 have hI:IntsAre its ns:=dI rv
 have lt:p≠s.heap.objs.size:=by obtain⟨o,e,_⟩:=pl.isList;exact l9 (i7 e)
 refine call_sum_walkAnyS (ucd pl.isList ?_)
 have W:=(Walks.list (prog:=X.prog) (w:=X.w) (A:=X.A.in1) (show X.A.in1.handled=none from I.ok.hd hh) s.heap.objs.size p lt its.toArray).toS
 refine⟨s.heap.objs.size,_,_,_,_,_,_,(λ i=>ns.getD i 0),rfl,W,⟨⟨_,i8 _ rfl,rfl,rfl⟩,pl.isList.push _⟩,λ b hb=>?_,λ i v hv=>?_,λ s' t' hm=>?_⟩
 ·obtain⟨o,e,_⟩:=pl.isList
  have hlt:p<s.heap.objs.size:=i7 e
  show b<(s.heap.push _).objs.size
  rw[uao]
  simp only [h9,u4,or_false] at hb
  rcases hb with z | z
  ·rw[z];exact uch _
  ·rw[z];exact ub6 hlt
 ·exact IntsAre.int_at hI i v (by simpa using hv)
 ·rw[Moved.eq_with hm]
  refine⟨.int ns.sum,H,I.kept (t':=s'.toks) λ b o e=>hm.heap b o (λ z=>?_) (b7 _ e),⟨t',?_⟩,q⟩
  ·have:b=s.heap.objs.size:=by simpa using z
   exact absurd (i7 e) (by rw[this];exact uap _)
  ·rw[show its.toArray.size=ns.length by rw[d7,← hl],lI ns _ (c8 _),ubk]
def oa:Option Nat->V
 | none=>.non
 | some u=>.int (u:Int)
structure RA (H J:Hp)(lw lc la:j8)(ws:List V)(cs:List (Option (Int × Int)))(as:List (Option Nat)):Prop where
 same:Same H J
 fc:H lc=none
 fa:H la=none
 nwc:lw≠lc
 nwa:lw≠la
 nca:lc≠la
 wl:J lw=some (.lst ws)
 co:∃ cvs,J lc=some (.lst cvs)/\CostL J cvs cs
 ah:J la=some (.lst (as.map oa))
section
variable {H H' J J':Hp}{vs cvs ws:List V}{cs:List (Option (Int × Int))}{as:List (Option Nat)}{lw lc la t:j8}{k:Nat}{x y:Int}
theorem RA.step (h:RA H J lw lc la ws cs as)(s:Same J J'):RA H J' lw lc la ws cs as :=
 ⟨h.same.trans s,h.fc,h.fa,h.nwc,h.nwa,h.nca,s _ _ h.wl,let ⟨c,e,z⟩:=h.co;⟨c,s _ _ e,z.keep (nN s)⟩,s _ _ h.ah⟩
theorem RA.put (h:RA H J lw lc la ws cs as)(hc:J lc=some (.lst cvs))(hk:k<cvs.length)(ht:J t=some (.tup [.int x,.int y])):RA H (upd J lc (.lst (cvs.set k (.ref t)))) lw lc la ws (cs.set k (some (x,y))) as:=by
 obtain⟨c,e,z⟩:=h.co
 rw[hc] at e;cases e
 refine⟨λ b o eb=>?_,h.fc,h.fa,h.nwc,h.nwa,h.nca,?_,⟨_,aK,CostL.set (z.keep (fM hc)) hk ⟨t,rfl,fM hc _ _ ht⟩⟩,?_⟩
 ·rw[aG (aV eb h.fc)];exact h.same _ _ eb
 ·rw[aG h.nwc];exact h.wl
 ·rw[aG h.nca.symm];exact h.ah
theorem RA.mark {u:Nat}(h:RA H J lw lc la ws cs as):RA H (upd J la (.lst ((as.map oa).set k (.int (u:Int))))) lw lc la ws cs (as.set k (some u)):=by
 obtain⟨c,e,z⟩:=h.co
 refine⟨λ b o eb=>?_,h.fc,h.fa,h.nwc,h.nwa,h.nca,?_,⟨c,?_,z.keep (fM h.ah)⟩,?_⟩
 ·rw[aG (aV eb h.fa)];exact h.same _ _ eb
 ·rw[aG h.nwa];exact h.wl
 ·rw[aG h.nca];exact e
 ·rw[aK,uex];rfl
end
theorem jV {D:List (Option Nat)}{i:Nat}(h:i<D.length):(D.map oa)[i]?=some (oa (Far.get D i)):=by
 rw[j3,b6 h]
 unfold Far.get
 rw[b8,b6 h];rfl
def WayV (H:Hp)(A:List (Nat × Nat × Int))(a b:Nat)(v:V):Prop:=(v=.non/\Far.Dst A a b none)\/∃ t ws x,v=.ref t/\H t=some (.tup (natV ws))/\ws.length<=24/\Far.Tr A a ws b x/\Far.Dst A a b (some x)
def isTB (ts:List Tie)(u v:Nat)(k:Nat):Bool:=decide ((tieAt ts k).1=min (u:Int) v)&&decide ((tieAt ts k).2.1=max (u:Int) v)
def tbN (ts:List Tie)(u v:Nat):Option Nat:=(c9 ts.length).find? (isTB ts u v)
def tlen (ts:List Tie)(u v:Nat):Int:=(tieAt ts ((tbN ts u v).getD 0)).2.2
def wl (ts:List Tie):List Nat->Int
 | u::v::r=>tlen ts u v+wl ts (v::r)
 | _=>0
def linked (ts:List Tie):List Nat->Prop
 | u::v::r=>(∃ k,tbN ts u v=some k/\k<ts.length)/\linked ts (v::r)
 | _=>True
theorem fX {ts:List Tie}:∀ {ws:List Nat}{i u v:Nat},linked ts ws->ws[i]?=some u->ws[i+1]?=some v->∃ k,tbN ts u v=some k/\k<ts.length
 | a::b::r,0,u,v,h,e1,e2=>by cases e1;cases e2;exact h.1
 | a::b::r,i+1,u,v,h,e1,e2=>fX (ws:=b::r) (i:=i) h.2 (by simpa using e1) (by simpa using e2)
 | [a],0,u,v,_,_,e2=>by cases e2
 | [a],i+1,u,v,_,e1,_=>by cases e1
 | [],i,u,v,_,e1,_=>by cases e1
def alongN (ts:List Tie)(ws:List Nat):List Nat:=(c9 (ws.length-1)).map λ i=>(tbN ts (ws.getD i 0) (ws.getD (i+1) 0)).getD 0
def spTB (K:a9):Sp:=λ vs H Q _=>∃ (n:Int)(ts:List Tie)(wv:V)(u v:Nat),vs=[wv,.int (u:Int),.int (v:Int)]/\Is K H (webD n ts) wv/\ts.length<=60/\∀ H',Same H H'->Q (oa (tbN ts u v)) H'
theorem xS {ts:List Tie}{ws:List Nat}(h:linked ts ws):∀ k∈alongN ts ws,k<ts.length:=λ k hk=>by
 unfold alongN at hk
 obtain⟨i,hi,rfl⟩:=ua5.mp hk
 have hi':=o9.mp hi
 have e1:ws[i]?=some (ws.getD i 0):=by rw[b8,b6 (by left)];rfl
 have e2:ws[i+1]?=some (ws.getD (i+1) 0):=by rw[b8,b6 (by left)];rfl
 obtain⟨k,e,hk⟩:=fX h e1 e2
 rw[e];exact hk
theorem iR (a b x y:Int):uav (.tuple (([a,b]:List Int).map .int)) (.tuple (([x,y]:List Int).map .int))=(decide (a=x)&&decide (b=y)):=by
 show (_&&(_&&true))=_
 rw[Bool.and_true]
 rfl
def but (ks:List Nat)(k:Nat):List Nat:=ks.filter λ j=>decide (j≠k)
theorem bI {m:Nat}{ks:List Nat}{k:Nat}(h:KeepOk m ks):KeepOk m (but ks k):=⟨h.1.sublist ucj,λ j hj=>h.2 j (w8.mp hj).1⟩
theorem mK (p:Nat->Bool)(ks:List Nat):(c9 ks.length).filterMap (λ i=>if p (ks.getD i 0)=true then some (V.int ((ks.getD i 0:Nat):Int)) else none)=natV (ks.filter p):=by
 have e:=congrArg (List.filterMap λ j:Nat=>if p j=true then some (V.int (j:Int)) else none) (iB ks 0)
 rw[ucr] at e
 exact e.trans (iP p ks)
def withinB (t l:Int):Option Int->Bool
 | none=>false
 | some x=>decide (x<=t*l)
def spWithout (K:a9):Sp:=λ vs H Q _=>∃ (m:Nat)(ks:List Nat)(kv:V)(k:Nat),vs=[kv,.int (k:Int)]/\Is K H (keepD ks) kv/\KeepOk m ks/\m<=60/\∀ p H',Same H H'->H' p=some (.tup (natV (but ks k)))->Q (.ref p) H'
end L3
namespace Far
variable {B:List Arc}{A:List (Nat × Nat × Int)}{n s:Nat}
structure Run (B:List Arc)(s:Nat)(cs:List (Option (Int × Int)))(as:List (Option Nat)):Prop where
 len:as.length=cs.length
 start:get cs s=some (0,0)
 root:get as s=none
 has:∀ v c,get cs v=some c->v≠s->get as v≠none
 arc:∀ v u,get as v=some u->∃ l k cu cv,(u,v,l,k)∈B/\get cs u=some cu/\get cs v=some cv/\¬ lt2 cv (cu.1+l,cu.2+2^k)
theorem Run.step {u v:Nat}{l:Int}{k:Nat}{cs:List (Option (Int × Int))}{as:List (Option Nat)}{c:Int × Int}(P:Pos A)(g:Good A n s cs)(a:Run B s cs as)(m:(u,v,l)∈A)(mB:(u,v,l,k)∈B)(hv:v<n)(hu:get cs u=some c)
  (h:get cs v=none\/∃ c',get cs v=some c'/\lt2 (c.1+l,c.2+2^k) c'):Run B s (cs.set v (some (c.1+l,c.2+2^k))) (as.set v (some u)):=by
 have hc:v<cs.length:=by rw[g.len];exact hv
 have ha:v<as.length:=by rw[a.len];exact hc
 have l1:=P _ _ _ m
 have c0:=(g.walk _ _ hu).nonneg P
 have vs:v≠s:=λ z=>by
  rw[z] at h
  rcases h with h | ⟨c',h,hl⟩
  ·rw[a.start] at h;cases h
  ·rw[a.start] at h;cases h
   unfold lt2 at hl;simp only at hl;left
 have uv:u≠v:=λ z=>by
  rcases h with h | ⟨c',h,hl⟩
  ·rw[← z,hu] at h;cases h
  ·rw[← z,hu] at h;cases h
   unfold lt2 at hl;simp only at hl;left
 refine⟨by rw[ual,ual];exact a.len,by rw[aY hc,uf8 (Ne.symm vs)];exact a.start,?_,λ x d e hx=>?_,λ x y e=>?_⟩
 ·rw[aY ha,uf8 (Ne.symm vs)];exact a.root
 ·rw[aY ha]
  split
  ·exact λ z=>by cases z
  ·rename_i xv
   rw[aY hc,uf8 xv] at e
   exact a.has x d e hx
 ·rw[aY ha] at e
  split at e
  ·rename_i z;subst z;cases e
   refine⟨l,k,c,_,mB,by rw[aY hc,uf8 uv];exact hu,by rw[aY hc,uf7 rfl],λ z=>?_⟩
   unfold lt2 at z;left
  ·rename_i xv
   obtain⟨l',k',cu,cv,m',e1,e2,hle⟩:=a.arc x y e
   by_cases yv:y=v
   ·subst yv
    refine⟨l',k',_,cv,m',by rw[aY hc,uf7 rfl],by rw[aY hc,uf8 xv];exact e2,λ z=>?_⟩
    rcases h with h | ⟨c',h,hl⟩
    ·rw[h] at e1;cases e1
    ·rw[h] at e1;cases e1
     unfold lt2 at hl hle z
     simp only at hl hle z
     left
   ·exact⟨l',k',cu,cv,m',by rw[aY hc,uf8 yv];exact e1,by rw[aY hc,uf8 xv];exact e2,hle⟩
theorem Run.first (hs:s<n):Run B s ((j6 n none).set s (some (0,0))) (j6 n none):=by
 have hl:s<(j6 n (none:Option (Int × Int))).length:=by rw[m5];exact hs
 refine⟨by rw[ual,m5,m5],by rw[aY hl,uf7 rfl],cD _ _,λ v c e hv=>?_,λ v u e=>?_⟩
 ·rw[aY hl,uf8 hv,cD] at e;cases e
 ·rw[cD] at e;cases e
def Stab2 (B:List Arc)(cs:List (Option (Int × Int))):Prop:=∀ u v l k c,(u,v,l,k)∈B->get cs u=some c->∃ c',get cs v=some c'/\¬ lt2 (c.1+l,c.2+2^k) c'
def PS2 (c0:List (Option (Int × Int)))(R:Arc->Prop)(cs:List (Option (Int × Int)))(ag:Bool):Prop :=
 (ag=false/\cs=c0/\∀ u v l k c,R (u,v,l,k)->get c0 u=some c->∃ c',get c0 v=some c'/\¬ lt2 (c.1+l,c.2+2^k) c')\/(ag=true/\mu cs<mu c0)
def plusA (R:Arc->Prop)(a:Arc):Arc->Prop:=λ b=>R b\/b=a
section
variable {c0 cs:List (Option (Int × Int))}{R R':Arc->Prop}{ag:Bool}{u v k:Nat}{l:Int}
theorem PS2.less (h:PS2 c0 R cs ag)(z:∀ a,R' a->R a):PS2 c0 R' cs ag:=h.elim (λ ⟨a,b,c⟩=>.inl ⟨a,b,λ u v l k c' y=>c u v l k c' (z _ y)⟩) .inr
theorem PS2.no (h:PS2 c0 R cs ag)(hu:get cs u=none):PS2 c0 (plusA R (u,v,l,k)) cs ag:=by
 rcases h with ⟨a,b,c⟩ | h
 ·refine .inl ⟨a,b,λ u' v' l' k' c' z e=>?_⟩
  rcases z with z | z
  ·exact c _ _ _ _ _ z e
  ·cases z;rw[← b,hu] at e;cases e
 ·exact .inr h
theorem PS2.old (h:PS2 c0 R cs ag){c d:Int × Int}(hu:get cs u=some c)(hv:get cs v=some d)(hn:¬ lt2 (c.1+l,c.2+2^k) d):PS2 c0 (plusA R (u,v,l,k)) cs ag:=by
 rcases h with ⟨a,b,z⟩ | h
 ·refine .inl ⟨a,b,λ u' v' l' k' c' y e=>?_⟩
  rcases y with y | y
  ·exact z _ _ _ _ _ y e
  ·cases y
   subst b
   rw[hu] at e;cases e
   exact⟨d,hv,hn⟩
 ·exact .inr h
theorem PS2.put (h:PS2 c0 R cs ag){cs':List (Option (Int × Int))}(hm:mu cs'<mu cs):PS2 c0 (plusA R (u,v,l,k)) cs' true:=by
 rcases h with ⟨a,b,c⟩ | h
 ·exact .inr ⟨rfl,by rw[← b];exact hm⟩
 ·exact .inr ⟨rfl,Nat.lt_trans hm h.2⟩
end
theorem Run.best {cs:List (Option (Int × Int))}{as:List (Option Nat)}(P:Pos A)(g:Good A n s cs)(r:Run B s cs as)(st:Stab2 B cs):Best B n s cs as:=by
 refine⟨g.len,by rw[r.len];exact g.len,r.start,r.root,r.has,λ v c e=>(g.walk v c e).nonneg P,st,λ v u e=>?_⟩
 obtain⟨l,k,cu,cv,m,e1,e2,n1⟩:=r.arc v u e
 obtain⟨c',e3,n2⟩:=st _ _ _ _ _ m e1
 rw[e2] at e3;cases e3
 refine⟨l,k,cu,m,e1,?_⟩
 rw[e2]
 congr 1
 unfold lt2 at n1 n2
 simp only at n1 n2
 exact Prod.ext (by show cv.1=cu.1+l;left) (by show cv.2=cu.2+2^k;left)
def nearer (n:Nat)(cs:List (Option (Int × Int)))(d:Int):Nat:=(c9 n).countP λ v=>match get cs v with | none=>false | some c=>decide (c.1<d)
theorem lK {u:Nat}{cs:List (Option (Int × Int))}{cu:Int × Int}{d:Int}(hu:u<n)(e:get cs u=some cu)(h:cu.1<d):nearer n cs cu.1<nearer n cs d:=by
 refine dM (λ v _ hv=>?_) ⟨u,o9.mpr hu,?_,?_⟩
 ·cases e2:get cs v with
  | none=>rw[e2] at hv;cases hv
  | some c=>rw[e2] at hv;have:=uf4 hv;exact uf3 (by left)
 ·rw[e];exact uf3 h
 ·rw[e];exact uf5 (by left)
theorem vH (n:Nat)(cs:List (Option (Int × Int)))(d:Int):nearer n cs d<=n:=by
 have:=ud5 (p:=λ v=>match get cs v with | none=>false | some c=>decide (c.1<d)) (l:=c9 n)
 rw[p8] at this;exact this
theorem sV {u:Nat}{cs:List (Option (Int × Int))}{cu:Int × Int}(hu:u<n)(e:get cs u=some cu):nearer n cs cu.1<n:=by
 have h1:nearer n cs cu.1<nearer n cs (cu.1+1):=lK hu e (by left)
 have:=vH n cs (cu.1+1)
 left
end Far
namespace L3
open PySem PySem.Spec PyProof.Rows L2
def arcs2B (t:Tie)(k:Nat):List Far.Arc:=[(t.1.toNat,t.2.1.toNat,t.2.2,k),(t.2.1.toNat,t.1.toNat,t.2.2,k)]
def arcsB (ts:List Tie)(ks:List Nat):List Far.Arc:=ks.flatMap λ k=>arcs2B (tieAt ts k) k
theorem arcsB_mem {ts:List Tie}{ks:List Nat}{a:Far.Arc}:a∈arcsB ts ks↔∃ k,k∈ks/\a∈arcs2B (tieAt ts k) k:=by
 unfold arcsB;rw[uc3]
theorem arcs2B_mem {t:Tie}{k:Nat}{a:Far.Arc}:a∈arcs2B t k↔a=(t.1.toNat,t.2.1.toNat,t.2.2,k)\/a=(t.2.1.toNat,t.1.toNat,t.2.2,k):=by
 unfold arcs2B;simp
theorem kX {ts:List Tie}{ks:List Nat}{i k:Nat}(h:ks[i]?=some k){a:Far.Arc}(m:a∈arcsB ts (ks.take (i+1))):a∈arcsB ts (ks.take i)\/a∈arcs2B (tieAt ts k) k:=by
 obtain⟨j,hj,m⟩:=arcsB_mem.mp m
 rw[iF h] at hj
 rcases l8.mp hj with hj | hj
 ·exact .inl (arcsB_mem.mpr ⟨j,hj,m⟩)
 ·rw[d8.mp hj] at m;exact .inr m
theorem bB {n:Int}{ts:List Tie}{ks:List Nat}(ok:WebOk n ts)(ko:KeepOk ts.length ks):Far.Keys (arcsB ts ks):=by
 have at_:∀ {u v l k},(u,v,l,k)∈arcsB ts ks->k<ts.length/\((u=(tieAt ts k).1.toNat/\v=(tieAt ts k).2.1.toNat)\/(u=(tieAt ts k).2.1.toNat/\v=(tieAt ts k).1.toNat))/\l=(tieAt ts k).2.2/\k∈ks:=λ {u v l k} h=>by
  obtain⟨j,hj,m⟩:=arcsB_mem.mp h
  rcases arcs2B_mem.mp m with e | e <;> cases e
  ·exact⟨ko.2 _ hj,.inl ⟨rfl,rfl⟩,rfl,hj⟩
  ·exact⟨ko.2 _ hj,.inr ⟨rfl,rfl⟩,rfl,hj⟩
 refine⟨λ u v l k h=>?_,λ u v l u' v' l' k h h'=>?_,λ u v l k h=>?_,λ u v l k h=>?_,λ u v l k h=>?_⟩
 ·obtain⟨_,e,rfl,hk⟩:=at_ h
  refine arcsB_mem.mpr ⟨k,hk,arcs2B_mem.mpr ?_⟩
  rcases e with ⟨rfl,rfl⟩ | ⟨rfl,rfl⟩
  ·exact .inr rfl
  ·exact .inl rfl
 ·obtain⟨_,e,rfl,_⟩:=at_ h
  obtain⟨_,e',rfl,_⟩:=at_ h'
  refine⟨rfl,?_⟩
  rcases e with ⟨rfl,rfl⟩ | ⟨rfl,rfl⟩ <;> rcases e' with ⟨rfl,rfl⟩ | ⟨rfl,rfl⟩
  ·exact .inl ⟨rfl,rfl⟩
  ·exact .inr ⟨rfl,rfl⟩
  ·exact .inr ⟨rfl,rfl⟩
  ·exact .inl ⟨rfl,rfl⟩
 ·obtain⟨hk,e,_,_⟩:=at_ h
  have:=ok.tie _ (aZ hk).2
  rcases e with ⟨rfl,rfl⟩ | ⟨rfl,rfl⟩ <;> left
 ·obtain⟨hk,_,e,_⟩:=at_ h
  have:=ok.tie _ (aZ hk).2
  left
 ·obtain⟨hk,_⟩:=at_ h
  have:=ok.few
  left
theorem eH {n:Int}{ts:List Tie}{ks:List Nat}(ok:WebOk n ts)(ko:KeepOk ts.length ks){u v k:Nat}{l:Int}(h:(u,v,l,k)∈arcsB ts ks):u<n.toNat/\v<n.toNat:=by
 obtain⟨j,hj,m⟩:=arcsB_mem.mp h
 have:=ok.tie _ (aZ (ko.2 j hj)).2
 rcases arcs2B_mem.mp m with e | e <;> cases e <;> left
def wOf (ts:List Tie)(k:Nat):Int:=(tieAt ts k).2.2*2^61+2^k
def arcs2W (ts:List Tie)(k:Nat):List (Nat × Nat × Int):=[((tieAt ts k).1.toNat,(tieAt ts k).2.1.toNat,wOf ts k),((tieAt ts k).2.1.toNat,(tieAt ts k).1.toNat,wOf ts k)]
def arcsW (ts:List Tie)(ks:List Nat):List (Nat × Nat × Int):=ks.flatMap λ k=>arcs2W ts k
theorem jB (ts:List Tie)(ks:List Nat):arcsW ts ks=Far.arcsC (arcsB ts ks):=by
 unfold arcsW Far.arcsC arcsB
 rw[List.map_flatMap]
 rfl
theorem arcsW_mem {ts:List Tie}{ks:List Nat}{a:Nat × Nat × Int}:a∈arcsW ts ks↔∃ k,k∈ks/\a∈arcs2W ts k:=by
 unfold arcsW;rw[uc3]
theorem uL {ts:List Tie}{ks:List Nat}{i k:Nat}(h:ks[i]?=some k){a:Nat × Nat × Int}(m:a∈arcsW ts (ks.take (i+1))):a∈arcsW ts (ks.take i)\/a∈arcs2W ts k:=by
 obtain⟨j,hj,m⟩:=arcsW_mem.mp m
 rw[iF h] at hj
 rcases l8.mp hj with hj | hj
 ·exact .inl (arcsW_mem.mpr ⟨j,hj,m⟩)
 ·rw[d8.mp hj] at m;exact .inr m
def wts (ts:List Tie)(m:Nat):List V:=(c9 m).map λ k=>V.int (wOf ts k)
theorem zF {ts:List Tie}{m i:Nat}(h:i<m):(wts ts m)[i]?=some (.int (wOf ts i)):=by unfold wts;rw[j3,uaw h];rfl
theorem nL {ts:List Tie}{m k:Nat}(h:k<m):atI (wts ts m) (k:Int)=some (.int (wOf ts k)):=bA (m9 _) (by rw[uaq];exact zF h)
theorem wI (ts:List Tie)(m:Nat):wts ts (m+1)=wts ts m++[.int (wOf ts m)]:=by unfold wts;rw[ua0,o3];rfl
def spReachedB (K:a9):Sp:=λ vs H Q _=>∃ n ts ks wv kv r,vs=[wv,kv,.int r]/\WK K H n ts ks wv kv/\0<=r/\r<n /\
 ∀ (p lc la:j8)(cvs:List V)(as:List (Option Nat))(cs:List (Option (Int × Int)))(H':Hp),Same H H'->H' p=some (.tup [.ref lc,.ref la])->H' lc=some (.lst cvs)->H' la=some (.lst (as.map oa))->CostL H' cvs cs->Far.Best (arcsB ts ks) n.toNat r.toNat cs as->Q (.ref p) H'
def spTreeB (K:a9):Sp:=λ vs H Q _=>∃ n ts ks wv kv r,vs=[wv,kv,.int r]/\WK K H n ts ks wv kv/\0<=r/\r<n /\
 ∀ (p:j8)(as:List (Option Nat))(cs:List (Option (Int × Int)))(H':Hp),Same H H'->H' p=some (.tup (as.map oa))->Far.Best (arcsB ts ks) n.toNat r.toNat cs as->Q (.ref p) H'
def WayB (H:Hp)(B:List Far.Arc)(n a b:Nat)(v:V):Prop:=∃ cs as,Far.Best B n b cs as/\((v=.non/\Far.get cs a=none)\/∃ t ws c,v=.ref t/\H t=some (.tup (natV ws))/\ws.length<=24/\Far.get cs a=some c/\Far.TPw as b ws.reverse a)
def spWayB (K:a9):Sp:=λ vs H Q _=>∃ n ts ks wv kv a b,vs=[wv,kv,.int a,.int b]/\WK K H n ts ks wv kv/\0<=a/\a<n/\0<=b/\b<n/\∀ v H',Same H H'->WayB H' (arcsB ts ks) n.toNat a.toNat b.toNat v->Q v H'
def spLWeights (K:a9):Sp:=λ vs H Q _=>∃ n ts v,vs=[v]/\Is K H (webD n ts) v/\WebOk n ts/\∀ l H',Same H H'->H l=none->H' l=some (.lst (wts ts ts.length))->Q (.ref l) H'
def spWayBy:Sp:=λ vs H Q _=>∃ (t:j8)(B:List Far.Arc)(n r pl:Nat)(cs:List (Option (Int × Int)))(as:List (Option Nat))(c:Int × Int),vs=[.ref t,.int (r:Int),.int (pl:Int)]/\H t=some (.tup (as.map oa))/\Far.Best B n r cs as/\Far.Keys B/\n<=24/\r<n/\pl<n/\(∀ u v l k,(u,v,l,k)∈B->u<n/\v<n)/\Far.get cs pl=some c /\
 ∀ p ws H',Same H H'->H' p=some (.tup (natV ws))->ws.length<=60->Far.TPw as r ws pl->Q (.ref p) H'
end L3
namespace HT
open PySem PyProof.Rows
section
variable {prog:j9}{w:v9}{A:v7}{E:b9->c7->Prop}{s:c7}
end
end HT
namespace L3
open PySem PySem.Spec PyProof.Rows L2
section
variable {X:Cx}
end
theorem kW (val:Nat->Int):∀ k,argBest (λ i j=>decide (val i<val j)) k<=k/\∀ i,i<=k->val (argBest (λ i j=>decide (val i<val j)) k)<=val i
 | 0=>⟨c8 _,λ i hi=>by rw[show i=0 by left];exact w6 _⟩
 | k+1=>by
  obtain⟨h1,h2⟩:=kW val k
  show (if decide (val (k+1)<val (argBest _ k))=true then k+1 else argBest _ k)<=k+1/\∀ i,i<=k+1->val (if decide (val (k+1)<val (argBest _ k))=true then k+1 else argBest _ k)<=val i
  by_cases c:val (k+1)<val (argBest (λ i j=>decide (val i<val j)) k)
  ·rw[uf7 (uf3 c)]
   refine⟨c8 _,λ i hi=>?_⟩
   rcases ubp i (k+1) with z | z
   ·have:=h2 i (by left);left
   ·rw[show i=k+1 by left];exact w6 _
  ·rw[uf8 (λ z=>c (uf4 z))]
   refine⟨by left,λ i hi=>?_⟩
   rcases ubp i (k+1) with z | z
   ·exact h2 i (by left)
   ·rw[show i=k+1 by left];left
theorem cZ (ts:List Tie)(ks:List Nat):Far.arcsF (arcsB ts ks)=arcs ts ks:=by
 unfold arcs Far.arcsF arcsB
 rw[List.map_flatMap]
 rfl
theorem iK {n:Int}{ts:List Tie}{ks:List Nat}(ok:WebOk n ts)(ko:KeepOk ts.length ks):Far.Sym (arcs ts ks):=λ u v l h=>by
 rw[← cZ] at h ⊢
 obtain⟨k,m⟩:=Far.arcsF_mem.mp h
 exact Far.arcsF_mem.mpr ⟨k,(bB ok ko).sym _ _ _ _ m⟩
theorem yB {n:Int}{ts:List Tie}{ks:List Nat}(ok:WebOk n ts)(ko:KeepOk ts.length ks){u v k:Nat}{l:Int}(h:(u,v,l,k)∈arcsB ts ks):ks.filter (isTB ts u v)=[k]:=by
 have hk:k∈ks/\isTB ts u v k=true:=by
  obtain⟨j,hj,m⟩:=arcsB_mem.mp h
  have tk:=ok.tie _ (aZ (ko.2 j hj)).2
  unfold isTB
  rcases arcs2B_mem.mp m with e | e <;> cases e
  ·exact⟨hj,by rw[uf3 (by left),uf3 (by left)];rfl⟩
  ·exact⟨hj,by rw[uf3 (by left),uf3 (by left)];rfl⟩
 have one:∀ j∈ks,isTB ts u v j=true->j=k:=λ j hj p=>by
  have q:=hk.2
  have hjl:=ko.2 j hj
  have hkl:=ko.2 k hk.1
  unfold isTB at p q
  rw[r6] at p q
  have a1:=uf4 p.1
  have a2:=uf4 p.2
  have b1:=uf4 q.1
  have b2:=uf4 q.2
  exact mF ok hjl hkl (a1.trans b1.symm) (a2.trans b2.symm)
 have nd:ks.Nodup:=ko.1.imp λ h=>l9 h
 have nf:(ks.filter (isTB ts u v)).Nodup:=nd.sublist ucj
 have mk:k∈ks.filter (isTB ts u v):=w8.mpr hk
 have all:∀ j∈ks.filter (isTB ts u v),j=k:=λ j hj=>one j (w8.mp hj).1 (w8.mp hj).2
 match e:ks.filter (isTB ts u v) with
 | []=>rw[e] at mk;cases mk
 | [j]=>rw[all j (by rw[e];exact g9)]
 | i::j::r =>
  rw[e] at nf all
  have h1:=all i g9
  have h2:=all j (j4 _ g9)
  exact absurd (h1.trans h2.symm) (λ z=>(j0.mp nf).1 (by rw[z];exact g9))
theorem cW {ts:List Tie}{ks:List Nat}{u v k:Nat}{l:Int}(h:(u,v,l,k)∈arcsB ts ks):(tieAt ts k).2.2=l/\k∈ks:=by
 obtain⟨j,hj,m⟩:=arcsB_mem.mp h
 rcases arcs2B_mem.mp m with e | e <;> cases e
 ·exact⟨rfl,hj⟩
 ·exact⟨rfl,hj⟩
section
variable {own:List Str}{js:List Nat}{g:TG}{te:TE}{σ:L2.St}{Q:VK}{H1:Hp}
end
theorem wW {ws:List Nat}{i u:Nat}(h:ws[i]?=some u):(natV ws)[i]?=some (.int (u:Int)):=by unfold natV;rw[j3,h];rfl
end L3
namespace HT
open PySem PyProof.Rows
section
variable {prog:j9}{w:v9}{A:v7}{R:Result->c7->Prop}{I:j8}{fp wr:List j8}{G:Array GenState->Array GenState->Prop}{St:Nat->c7->Prop}{its:List b9}{ns:List Int}
end
section
variable {prog:j9}{w:v9}{A:v7}{E:b9->c7->Prop}{s:c7}
end
end HT
namespace L3
open PySem PySem.Spec PyProof.Rows L2
theorem IsAll.at_ {K:a9}{H:Hp}:∀ {ds:List uac}{vs:List V}{i:Nat}{d:uac},IsAll K H ds vs->ds[i]?=some d->∃ v,vs[i]?=some v/\Is K H d v
 | [],vs,i,d,_,h=>by cases h
 | d0::ds,vs,0,d,⟨v,r,e,h1,_⟩,h=>by
  cases h
  exact⟨v,by rw[e];rfl,h1⟩
 | d0::ds,vs,i+1,d,⟨v,r,e,_,h2⟩,h=>by
  obtain⟨u,e1,e2⟩:=IsAll.at_ (i:=i) h2 h
  exact⟨u,by rw[e];exact e1,e2⟩
theorem IsAll.from_ {K:a9}{H:Hp}:∀ {ds:List uac}{vs:List V}{i:Nat}{v:V},IsAll K H ds vs->vs[i]?=some v->∃ d,ds[i]?=some d/\Is K H d v
 | [],vs,i,v,h,e=>by
  have:vs=[]:=h
  rw[this] at e;cases e
 | d0::ds,vs,0,v,⟨u,r,e0,h1,_⟩,e=>by
  rw[e0] at e;cases e
  exact⟨d0,rfl,h1⟩
 | d0::ds,vs,i+1,v,⟨u,r,e0,_,h2⟩,e=>by
  rw[e0] at e
  exact IsAll.from_ (i:=i) h2 e
section
variable {own:List Str}{js:List Nat}{g:TG}{tt:TT}{te:TE}{σ:L2.St}{Q:VK}{H1:Hp}
end
def lvl (ls:List (List Nat))(i:Nat):List Nat:=ls.getD i []
structure LevOk (n:Nat)(ls:List (List Nat)):Prop where
 one:1<=ls.length
 six:ls.length<=6
 first:lvl ls 0=c9 n
 rise:∀ i,(lvl ls i).Pairwise (·<·)
 inn:∀ i,∀ p∈lvl ls i,p<n
 down:∀ i,∀ p∈lvl ls (i+1),p∈lvl ls i
theorem oC {ls:List (List Nat)}{i:Nat}(h:ls.length<=i):lvl ls i=[]:=by unfold lvl;rw[b8,o7 h];rfl
theorem LevOk.len {n:Nat}{ls:List (List Nat)}(h:LevOk n ls)(i:Nat):(lvl ls i).length<=n:=KeepOk.len (m:=n) (ks:=lvl ls i) ⟨h.rise i,h.inn i⟩
def IsTop (ls:List (List Nat))(w b:Nat):Prop:=b<ls.length/\w∈lvl ls b/\∀ i,i<ls.length->w∈lvl ls i->i<=b
theorem IsTop.unique {ls:List (List Nat)}{w b b':Nat}(h:IsTop ls w b)(h':IsTop ls w b'):b'=b:=by
 have:=h.2.2 b' h'.1 h'.2.1
 have:=h'.2.2 b h.1 h.2.1
 left
def Bun (ls:List (List Nat))(D:List (Option Int))(w:Nat):Prop:=∃ x,Far.get D w=some x/\∀ b p y,IsTop ls w b->p∈lvl ls (b+1)->Far.get D p=some y->x<y
noncomputable def bunB (ls:List (List Nat))(D:List (Option Int))(w:Nat):Bool:=@decide (Bun ls D w) (Classical.propDecidable _)
theorem bunB_iff {ls:List (List Nat)}{D:List (Option Int)}{w:Nat}:bunB ls D w=true↔Bun ls D w:=by unfold bunB;exact @decide_eq_true_iff _ (Classical.propDecidable _)
def FarsOf (ts:List Tie)(n s:Nat)(D:List (Option Int)):Prop:=D.length=n/\∀ u,u<n->Far.Dst (arcs ts (c9 ts.length)) s u (Far.get D u)
theorem FarsOf.unique {ts:List Tie}{n s:Nat}{D D':List (Option Int)}(h:FarsOf ts n s D)(h':FarsOf ts n s D'):D'=D:=uba λ i=>by
 by_cases hi:i<n
 ·have z:=(h'.2 i hi).unique (h.2 i hi)
  have l1:=h.1
  have l2:=h'.1
  unfold Far.get at z
  rw[b8,b6 (by left),b8,b6 (by left)] at z
  rw[b6 (by left),b6 (by left)]
  exact congrArg some z
 ·have l1:=h.1
  have l2:=h'.1
  rw[o7 (by left),o7 (by left)]
def FarsT (H:Hp)(p lf:j8)(n:Nat)(ts:List Tie):Prop:=∃ ys,H lf=some (.lst ys)/\lf≠p/\ys.length=n/\∀ i v,ys[i]?=some v->∃ l D,v=.ref l/\l≠p/\H l=some (.lst (D.map ov))/\FarsOf ts n i D
def spMost:Sp:=λ vs H Q _=>∃ (p:j8)(k:Int),vs=[.ref p,.int k]/\Pot H p/\∀ m H',But p H H'->Pot H' p->1<=m->m<=24->Q (.int m) H'
theorem FarsT.same {H H':Hp}{p lf:j8}{n:Nat}{ts:List Tie}(S:Same H H')(h:FarsT H p lf n ts):FarsT H' p lf n ts:=by
 obtain⟨ys,e,ne,ly,hy⟩:=h
 exact⟨ys,S _ _ e,ne,ly,λ i v ev=>let ⟨l,D,e1,e2,e3,e4⟩:=hy i v ev;⟨l,D,e1,e2,S _ _ e3,e4⟩⟩
theorem xP {n:Int}{ts:List Tie}{ls:List (List Nat)}{D:List (Option Int)}{s:Nat}(ok:WebOk n ts)(hs:s<n.toNat)(F:FarsOf ts n.toNat s D)(lo:LevOk n.toNat ls):bunB ls D s=true/\Far.get D s=some 0:=by
 have P:=nK ok (⟨udy,λ k hk=>o9.mp hk⟩:KeepOk ts.length (c9 ts.length))
 have e0:Far.get D s=some 0:=by
  obtain⟨y,e,le⟩:=(F.2 s hs).2 0 .nil
  have:=((F.2 s hs).1 y e).nonneg P
  rw[e,show y=0 by left]
 refine⟨bunB_iff.mpr ⟨0,e0,λ b p y t hp ep=>?_⟩,e0⟩
 have hpn:=lo.inn _ p hp
 have w:=(F.2 p hpn).1 y ep
 cases hw:w with
 | nil =>
  have bl:b+1<ls.length:=by
   rcases ubp (b+1) ls.length with z | z
   ·exact z
   ·rw[oC z] at hp;cases hp
  have:=t.2.2 (b+1) bl hp
  left
 | @snoc u _ l x w' m =>
  have:=P _ _ _ m
  have:=w'.nonneg P
  left
end L3
namespace HT
open PySem PyProof.Rows
theorem hX:∀ {a b c:List Int},lexLt a b=true->lexLt b c=true->lexLt a c=true
 | [],[],_,h,_=>by cases h
 | [],_::_,[],_,h=>by cases h
 | [],_::_,_::_,_,_=>rfl
 | _::_,[],_,h,_=>by cases h
 | _::_,_::_,[],_,h=>by cases h
 | x::xs,y::ys,z::zs,h1,h2=>by
  rw[dX] at h1 h2 ⊢
  by_cases e1:x=y
  ·subst e1
   rw[uf7 rfl] at h1
   by_cases e2:x=z
   ·rw[uf7 e2] at h2 ⊢;exact hX h1 h2
   ·rw[uf8 e2] at h2 ⊢;exact h2
  ·rw[uf8 e1] at h1
   have l1:=uf4 h1
   by_cases e2:y=z
   ·subst e2
    rw[uf8 e1];exact h1
   ·rw[uf8 e2] at h2
    have l2:=uf4 h2
    rw[uf8 (by left)];exact uf3 (by left)
section
variable {prog:j9}{w:v9}{A:v7}{R:Result->c7->Prop}{I:j8}{fp wr:List j8}{G:Array GenState->Array GenState->Prop}{St:Nat->c7->Prop}{its:List b9}{ks:List (List Int)}
abbrev twoV (v:b9)(c:Nat):Obj:={ cls:=.type "list",dict:=none,data:=.seq #[v,v] c,slots:=#[] }
end
section
variable {prog:j9}{w:v9}{A:v7}{E:b9->c7->Prop}{s:c7}
end
end HT
namespace L3
open PySem PySem.Spec PyProof.Rows L2
theorem fB {xs:List V}{us:List b9}(r:Vals xs us):∀ {i:Nat}{u:b9},us[i]?=some u->∃ x,xs[i]?=some x/\RelV x u:=by
 induction r with
 | nil=>intro i u e;cases e
 | cons r _ ih =>
  intro i u e
  cases i with
  | zero=>cases e;exact⟨_,rfl,r⟩
  | succ i=>exact ih (i:=i) e
noncomputable def topN (ls:List (List Nat))(w:Nat):Nat:=@dite _ (∃ b,IsTop ls w b) (Classical.propDecidable _) (λ h=>Classical.choose h) (λ _=>0)
theorem xZ {ls:List (List Nat)}{w b:Nat}(h:IsTop ls w b):topN ls w=b:=by
 unfold topN
 rw[dif_pos ⟨b,h⟩]
 exact h.unique (Classical.choose_spec (⟨b,h⟩:∃ b,IsTop ls w b))
structure IsPiv (ls:List (List Nat))(m:Nat)(D:List (Option Int))(o:Option Nat):Prop where
 no:o=none->∀ q∈lvl ls m,Far.get D q=none
 yes:∀ p,o=some p->p∈lvl ls m/\∃ x,Far.get D p=some x/\∀ q∈lvl ls m,∀ y,Far.get D q=some y->x<=y/\(y=x->topN ls q<=topN ls p/\(topN ls q=topN ls p->p<=q))
theorem IsPiv.unique {ls:List (List Nat)}{m:Nat}{D:List (Option Int)}{o o':Option Nat}(h:IsPiv ls m D o)(h':IsPiv ls m D o'):o'=o:=by
 cases o with
 | none =>
  cases o' with
  | none=>rfl
  | some p =>
   obtain⟨hp,x,ex,_⟩:=h'.yes p rfl
   rw[h.no rfl p hp] at ex;cases ex
 | some p =>
  obtain⟨hp,x,ex,a⟩:=h.yes p rfl
  cases o' with
  | none=>rw[h'.no rfl p hp] at ex;cases ex
  | some p' =>
   obtain⟨hp',x',ex',a'⟩:=h'.yes p' rfl
   have h1:=a p' hp' x' ex'
   have h2:=a' p hp x ex
   have e:x'=x:=by left
   obtain⟨t1,l1⟩:=h1.2 e
   obtain⟨t2,l2⟩:=h2.2 e.symm
   have e2:topN ls p'=topN ls p:=by left
   have:=l1 e2
   have:=l2 e2.symm
   rw[show p'=p by left]
def tupI (k:List Int):uac:=.tuple (k.map .int)
section
variable {own:List Str}{js:List Nat}{g:TG}{tt:TT}{te:TE}{σ:L2.St}{Q:VK}{H1:Hp}
end
noncomputable def pivN (ls:List (List Nat))(m:Nat)(D:List (Option Int)):Nat:=@dite _ (∃ p,IsPiv ls m D (some p)) (Classical.propDecidable _) (λ h=>Classical.choose h) (λ _=>0)
noncomputable def clN (ls:List (List Nat)):Nat->Nat->Nat->Nat->List (Option Int)->List (Option Int)->Int->List (List Int)
 | 0,w,a,b,_,_,x=>[[(w:Int),(a:Int),(b:Int),x]]
 | f+1,w,a,b,Da,Db,x=>[(w:Int),(a:Int),(b:Int),x]::(if bunB ls Db w=true then [] else clN ls f (pivN ls (topN ls w+1) Db) b a Db Da ((Far.get Db (pivN ls (topN ls w+1) Db)).getD 0))
structure Cs (ts:List Tie)(n:Nat)(ls:List (List Nat))(d:Int)(j w a b:Nat)(Da Db:List (Option Int))(x:Int):Prop where
 fa:FarsOf ts n a Da
 fb:FarsOf ts n b Db
 wn:w<n
 an:a<n
 bn:b<n
 xa:Far.get Da w=some x
 lim:x<=j*d
 ab:Far.get Da b=some d
 ba:Far.get Db a=some d
 yb:∃ y,Far.get Db w=some y
 tp:j<=topN ls w
 bu:bunB ls Da w=true
section
variable {n:Int}{ts:List Tie}{ls:List (List Nat)}{d x:Int}{j w a b:Nat}{Da Db:List (Option Int)}
theorem allOk (ts:List Tie):KeepOk ts.length (c9 ts.length):=⟨udy,λ k hk=>o9.mp hk⟩
theorem Cs.start (ok:WebOk n ts)(lo:LevOk n.toNat ls)(fa:FarsOf ts n.toNat a Da)(fb:FarsOf ts n.toNat b Db)(an:a<n.toNat)(bn:b<n.toNat)(ab:Far.get Da b=some d):Cs ts n.toNat ls d 0 a a b Da Db 0:=by
 obtain⟨bs,e0⟩:=xP ok an fa lo
 have ba:Far.get Db a=some d:=by
  have h1:=(fa.2 b bn).back (iK ok (allOk ts))
  rw[ab] at h1
  exact (fb.2 a an).unique h1
 exact⟨fa,fb,an,an,bn,e0,by simp,ab,ba,⟨d,ba⟩,v4 _,bs⟩
theorem Cs.more (lo:LevOk n.toNat ls)(h:Cs ts n.toNat ls d j w a b Da Db x)(nb:bunB ls Db w=false):topN ls w+1<ls.length/\∃ q y y',q∈lvl ls (topN ls w+1)/\Far.get Db w=some y/\Far.get Db q=some y'/\y'<=y:=by
 obtain⟨y,ey⟩:=h.yb
 have ex:∃ b' p z,IsTop ls w b'/\p∈lvl ls (b'+1)/\Far.get Db p=some z/\z<=y:=by
  apply Classical.byContradiction
  intro c
  have:bunB ls Db w=true:=bunB_iff.mpr ⟨y,ey,λ b' p z t hp ez=>by
   rcases Int.lt_or_le y z with l | l
   ·exact l
   ·exact absurd ⟨b',p,z,t,hp,ez,l⟩ c⟩
  rw[nb] at this;cases this
 obtain⟨b',p,z,t,hp,ez,le⟩:=ex
 rw[← xZ t] at hp
 refine⟨?_,p,y,z,hp,ey,ez,le⟩
 rcases ubp (topN ls w+1) ls.length with z | z
 ·exact z
 ·rw[oC z] at hp;cases hp
end
structure RowsOk (ls:List (List Nat))(n:Nat)(d:Int)(Du Dv:List (Option Int))(rows:List (List Int)):Prop where
 few:rows.length<=ls.length
 lim:∀ (i:Nat)(r:List Int),rows[i]?=some r->∃ p a b x:Int,r=[p,a,b,x]/\x<=i*d
 last:∃ (pre:List (List Int))(w:Nat)(a b x:Int),rows=pre++[[(w:Int),a,b,x]]/\w<n/\bunB ls Du w=true/\bunB ls Dv w=true
def ClimbV (K:a9)(H:Hp)(ls:List (List Nat))(n u v:Nat)(Du Dv:List (Option Int))(r:V):Prop:=(r=.non/\Far.get Du v=none)\/∃ t ys d,r=.ref t/\Far.get Du v=some d/\H t=some (.tup ys)/\IsAll K H ((clN ls ls.length u u v Du Dv 0).map tupI) ys/\RowsOk ls n d Du Dv (clN ls ls.length u u v Du Dv 0)
def FarsM (H:Hp)(lf:j8)(n:Nat)(ts:List Tie):Prop:=∃ ys,H lf=some (.lst ys)/\ys.length=n/\∀ i v,ys[i]?=some v->∃ l D,v=.ref l/\H l=some (.lst (D.map ov))/\FarsOf ts n i D
theorem FarsM.same {H H':Hp}{lf:j8}{n:Nat}{ts:List Tie}(S:Same H H')(h:FarsM H lf n ts):FarsM H' lf n ts:=by
 obtain⟨ys,e,ly,hy⟩:=h
 exact⟨ys,S _ _ e,ly,λ i v ev=>let ⟨l,D,e1,e3,e4⟩:=hy i v ev;⟨l,D,e1,S _ _ e3,e4⟩⟩
structure Clb (ts:List Tie)(n:Int)(ls:List (List Nat))(d:Int)(u v:Nat)(Du Dv:List (Option Int))(pre:List (List Int))(w a b:Nat)(Da Db:List (Option Int))(x:Int):Prop where
 cs:Cs ts n.toNat ls d pre.length w a b Da Db x
 sides:(Da=Du/\Db=Dv)\/(Da=Dv/\Db=Du)
 lim:∀ (i:Nat)(r:List Int),(pre++[[(w:Int),(a:Int),(b:Int),x]])[i]?=some r->∃ p a b x:Int,r=[p,a,b,x]/\x<=i*d
 rest:pre++clN ls (ls.length-pre.length) w a b Da Db x=clN ls ls.length u u v Du Dv 0
section
variable {n:Int}{ts:List Tie}{ls:List (List Nat)}{d x:Int}{u v w a b:Nat}{Du Dv Da Db:List (Option Int)}{pre:List (List Int)}
theorem Clb.first (ok:WebOk n ts)(lo:LevOk n.toNat ls)(fa:FarsOf ts n.toNat u Du)(fb:FarsOf ts n.toNat v Dv)(an:u<n.toNat)(bn:v<n.toNat)(ab:Far.get Du v=some d):Clb ts n ls d u v Du Dv [] u u v Du Dv 0:=by
 refine⟨Cs.start ok lo fa fb an bn ab,.inl ⟨rfl,rfl⟩,λ i r e=>?_,rfl⟩
 cases i with
 | zero=>cases e;exact⟨_,_,_,_,rfl,by simp⟩
 | succ i=>cases e
end
section
variable {K:a9}{J J':Hp}{ls:List (List Nat)}{n u v:Nat}{Du Dv:List (Option Int)}{r r1 r2:V}
theorem ClimbV.same (S:Same J J')(h:ClimbV K J ls n u v Du Dv r):ClimbV K J' ls n u v Du Dv r:=by
 rcases h with h | ⟨t,ys,d,e,ed,ht,ia,ro⟩
 ·exact .inl h
 ·exact .inr ⟨t,ys,d,e,ed,S _ _ ht,IsAll.same S _ ia,ro⟩
end
end L3
namespace PySem.SeqAt
open PySem.Spec PySem.MeetsSeq PySem.MeetsSeq2 PySem.MeetsSeq3 PySem.SeqRoads2
open AutoSeq1 (wpAny_loadPart')
theorem qB {M:Model}{A:v7}{E:b9->c7->Prop}{s:c7}{β:Type}(f:Nat->β->Sem (ForInStep β))(I:List Nat->β->c7->Prop)(Q:β->c7->Prop)
  (turn:∀ x rest b s,I (x::rest) b s->k8 M A (f x b) (λ r s'=>match r with | .yield b'=>I rest b' s' | .done b'=>Q b' s') E s)
  (fin:∀ b s,I [] b s->Q b s) (m:Nat) (b:β) (h:I (ueg 0 m) b s):k8 M A (forIn [:m] b f) Q E s:=by
 rw[Std.Legacy.Range.forIn_eq_forIn_range']
 have e:ueg [:m].start [:m].size [:m].step=ueg 0 m:=by simp [Std.Legacy.Range.size]
 rw[e]
 exact ufv f I Q turn fin _ b h
theorem tuple_indexAt (l:j8)(items:Array b9)(n:Nat)(dd:Option j8)(sl:Array (Option b9))(x:b9)(e:b9->Bool)(j:Nat)(hj:j<items.size)(hit:e items[j]=true)(hno:∀ m (hm:m<items.size),m<j->e items[m]=false) :
  Meets (Builtin.«tuple.index» ⟨[.ref l,x],[]⟩)
   (λ A R s=>s.heap.get? l=some { cls:=.type "tuple",dict:=dd,data:=.seq items n,slots:=sl }/\(∀ y,y∈items->EqAt A.in1 s y x (e y))/\R (.ok (.ret (.int (j:Nat) s.toks))) { s with toks:=s.toks+1 }) :=
 .of_wp λ prog w A R s h=>by
  obtain⟨hp,g,d,tk,os⟩:=s;obtain⟨hl,he,h⟩:=h
  wp_walk using ubf hl,qB _ (λ rest b s'=>b.1=none/\s'=⟨hp,g,d,tk,os⟩/\∃ i,i<=j/\rest=ueg i (items.size-i)) _
  case turn =>
   rintro i0 rest b s' ⟨hb,rfl,i,hi,hr⟩
   have hlt:i<items.size:=by left
   rw[show items.size-i=(items.size-(i+1))+1 by left,ue2] at hr
   injection hr with e1 e2
   subst e1
   rw[udg hlt]
   show k8 _ _ (eqBool items[i0] x >>= _) _ _ _
   refine a8 (he items[i0] (Array.getElem_mem hlt) prog w _ _ ?_)
   by_cases hij:i0=j
   ·subst hij
    rw[hit]
    wp_walk
    exact⟨_,rfl,h⟩
   ·rw[hno i0 hlt (by left)]
    wp_walk
    exact⟨rfl,rfl,i0+1,by left,e2⟩
  case fin =>
   rintro ⟨b1,b2⟩ s' ⟨hb,rfl,i,hi,hr⟩
   rw[show items.size-i=(items.size-(i+1))+1 by left,ue2] at hr
   cases hr
  case h =>
   exact⟨rfl,rfl,0,v4 _,by rw[Nat.min_self,ud9]⟩
end PySem.SeqAt
namespace L3
open PySem PySem.Spec PyProof.Rows L2
inductive rTIndex_i  (x:V) (vs:List V) (H:Hp) (Q:VK):Prop
 | mk:∀ (p:j8)(ns:List Int)(i:Int)(k:Nat),(x=.ref p)->(vs=[.int i])->(H p=some (.tup (ns.map V.int)))->(ns[k]?=some i)->((∀ m,m<k->ns[m]?≠some i))->(Q (.int (k:Int)) H)->rTIndex_i x vs H Q
def rTIndex :V->List V->Hp->VK->Prop:=λ x vs H Q=>rTIndex_i x vs H Q
theorem vI {X:Cx}:MtM X "tuple.index" rTIndex:=by
 intro pins s σ H x vs v us Q I rx rv h
 obtain⟨p,ns,i,k,rfl,rfl,hH,hk,hno,q⟩:=h
 cases rx
 obtain⟨u1,rfl,ru1⟩:=vals1 rv
 obtain⟨t,rfl⟩:=ru1
 obtain⟨its,r,ht,hz⟩:=I.tuple (SqT.of hH)
 obtain⟨⟨cls,dd,data,sl⟩,ho,hc,n,hd⟩:=id ht
 simp only at hc hd
 subst hc hd
 have hl:=r.length
 rw[c6] at hl
 let e:b9->Bool:=λ w=>match w with | .int a _=>a==i | _=>false
 have rd:∀ m (hm:m<its.toArray.size),∃ (a:Int)(t':Tok),its.toArray[m]=.int a t'/\ns[m]?=some a:=λ m hm=>by
  rw[d7] at hm
  obtain⟨x',hx,rel⟩:=fB r (b6 hm)
  rw[j3,uad] at hx
  obtain⟨a,ha,rfl⟩:=hx
  obtain⟨t',et⟩:=rel
  exact⟨a,t',by rw[List.getElem_toArray];exact et,ha⟩
 have hkl:k<its.toArray.size:=by
  rw[d7,← hl]
  exact (i3.mp hk).1
 refine uel F.slot_tuple_index ⟨_,ho,rfl⟩ F.entry_tuple_index (F.args_tuple_index_2 _ _) (PySem.SeqAt.tuple_indexAt p its.toArray n dd sl (.int i t) e k hkl ?_ ?_) ⟨ho,?_,?_⟩
 ·obtain⟨a,t',e1,e2⟩:=rd k hkl
  rw[e1]
  rw[hk] at e2
  cases e2
  show (i==i)=true
  exact beq_self_eq_true i
 ·intro m hm hmk
  obtain⟨a,t',e1,e2⟩:=rd m hm
  rw[e1]
  show (a==i)=false
  refine beq_eq_false_iff_ne.mpr λ z=>hno m hmk ?_
  rw[e2,z]
 ·intro y hy
  obtain⟨m,hm,rfl⟩:=Array.getElem_of_mem hy
  obtain⟨a,t',e1,e2⟩:=rd m hm
  rw[e1]
  exact PySem.SeqAt.EqAt.int_int a t' i t
 ·exact⟨.int (k:Int),H,I.tok _,⟨_,rfl⟩,q⟩
def tBT (r:V->List V->Hp->VK->Prop)(to:TE)(t:TA):TE:=λ σ H Q=>to σ H λ x H1=>(∃ p ys,x=.ref p/\H1 p=some (.tup ys))/\t σ H1 λ xs H2=>r x xs H2 Q
section
variable {X:Cx}{o e:ubv}{es:List ubv}{to:TE}{t:TA}{name:Str}{apos cpos:Pos}{id:String}{r:V->List V->Hp->VK->Prop}
theorem zO (slot:Slot "tuple" name id)(hty:typeOf (.builtin id)=pure (.type "method_descriptor"))(hm:MtM X id r)(ho:PE X o to)(ha:PA X (e::es) t)
  (hbase:attributeBase o name X.env (eval o X.env)=eval o X.env:=by rfl)
  (hfew:((backTo cpos (uae (e::es) X.env)).all (λ x=>!x.1)&&(backToKw cpos (keywordEach [] X.env)).all (λ x=>x.1.isSome)
  &&decide ((e::es).length+([]:List Keyword).length+(if ([]:List Keyword).isEmpty then 0 else 1)<30))=true:=by rfl)
  (hline:(apos.endLine==cpos.line)=true:=by rfl) (hs:uae (e::es) X.env=(false,eval e X.env)::uae es X.env:=by rfl) (hplain:(backTo cpos (uae es X.env)).any (·.1)=false:=by rfl) :
  PE X (.Call (.Attribute o name apos) (e::es) [] cpos) (tBT r to t):=by
 intro pins s σ H Q I h
 refine wpAny_Call_method_late hbase hfew hline rfl (thn (ho pins s σ H _ I h) λ v s1 ⟨x,H1,I1,r1,ty,q1⟩=>?_)
 obtain⟨p,ys,rfl,hp⟩:=ty
 cases r1
 obtain⟨_,_,_,o1,g1,g2,_,g3⟩:=(show ObjOk X.prog X.w H1 s1.heap p (.tup ys) from I1.hok p _ hp)
 refine⟨"tuple",id,PySem.F.plainAttrs_tuple,slot,hty,⟨o1,g1,g2⟩,λ a e2=>by cases e2;exact⟨o1,g1,g3⟩,?_⟩
 have hA:=ha cpos pins s1 σ H1 _ I1 q1
 rw[hs] at hA ⊢
 refine Calls.callWith_builtin (by show (false||(backTo cpos (uae es X.env)).any (·.1))=false;rw[hplain] <;> rfl) (Calls.evalArgs_plain ?_)
 exact thn hA λ us s2 ⟨vs,H2,I2,r2,q2⟩=>hm pins s2 σ H2 (.ref p) vs (.ref p) us Q I2 rfl r2 q2
end
theorem kM {α:Type}(f:Nat->Option α):∀ (m:Nat)(L:List α),L.length=m->(∀ k,k<m->f k=L[k]?)->(c9 m).filterMap f=L
 | 0,L,hl,_=>by rw[ue5 hl];rfl
 | m+1,L,hl,h=>by
  have hm:m<L.length:=by left
  have e:L=L.take m++[L[m]]:=by rw[List.take_append_getElem hm,ua7 (by left)]
  rw[ua0,uan,kM f m (L.take m) (by rw[uag];left) (λ k hk=>by rw[h k (by left),List.getElem?_take,uf7 hk])]
  rw[show [m].filterMap f=[L[m]] by rw[uam,h m (by left),b6 hm];rfl]
  exact e.symm
theorem fV (its:List b9)(j:Nat):((c9 (its.length-j)).filterMap λ (m:Nat)=>its.toArray[(((its.length:Nat):Int)-1+(m:Int)*(-1)).toNat]?)=(its.drop j).reverse:=by
 refine kM _ _ _ (by rw[u7,p9]) λ k hk=>?_
 rw[List.getElem?_reverse (by rw[p9];exact hk),ueq,p9]
 rw[List.getElem?_toArray]
 congr 1
 left
def bk (hi:Option Int)(n j:Nat):Prop:=(hi=none/\j=0)\/(hi=some 0/\j=1/\1<=n)
theorem tK {hi:Option Int}{n j:Nat}(h:bk hi n j):Builtin.Slice.sliceAdjust none hi (-1) (n:Int)=((n:Int)-1,(j:Int)-1):=by
 unfold Builtin.Slice.sliceAdjust
 simp only [show ((-1:Int)<0) by left,if_true]
 rcases h with ⟨rfl,rfl⟩ | ⟨rfl,rfl,h1⟩
 ·rfl
 ·refine Prod.ext rfl ?_
  show (if (0:Int)<0 then max (0+(n:Int)) (-1) else min 0 ((n:Int)-1))=((1:Nat):Int)-1
  rw[uf8 (by left)]
  left
theorem sP {n j:Nat}(h:j<=n):Builtin.Slice.slicePlaces ((n:Int)-1) ((j:Int)-1) (-1)=n-j:=by
 unfold Builtin.Slice.slicePlaces
 rw[uf8 (by left)]
 split
 ·rw[show -(-1:Int)=1 by rfl,ue9];left
 ·left
theorem pR {hi:Option Int}{n j:Nat}(h:bk hi n j):j<=n:=by
 rcases h with ⟨_,rfl⟩ | ⟨_,rfl,h1⟩
 ·exact v4 _
 ·exact h1
section
variable {prog:j9}{w:v9}{A:v7}{E:b9->c7->Prop}{s:c7}
theorem pT {sl:j8}{vl vu vs:b9}{hi:Option Int}{n j:Nat}{Q:Int × Int × Nat->c7->Prop}(hs:s.heap.IsSliceOf sl vl vu vs)(pl:IsPart vl none)(pu:IsPart vu hi)(ps:IsPart vs (some (-1)))(hb:bk hi n j)
  (h:Q ((n:Int)-1,-1,n-j) s):k8 (v5 prog w) A (Builtin.Slice.sliceApplied (.ref sl) (pure (n:Int))) Q E s:=by
 obtain⟨os,hos,hcs,hds⟩:=id hs
 unfold Builtin.Slice.sliceApplied Builtin.Slice.sliceFields
 refine a8 (a8 (p7 hos hds (x:=vl) rfl (a8 (p7 hos hds (x:=vu) rfl (a8 (p7 hos hds (x:=vs) rfl (d3 ?_)))))))
 refine a8 (HT.eV ps ?_)
 show k8 _ _ (if ((-1:Int)==0)=true then _ else _) _ _ s
 rw[uf8 (by decide)]
 refine a8 (HT.eV pl (a8 (HT.eV pu (a8 (d3 ?_)))))
 show k8 _ _ (match Builtin.Slice.sliceAdjust none hi (-1) (n:Int) with | (lo,hi)=>pure (lo,(-1:Int),Builtin.Slice.slicePlaces lo hi (-1))) _ _ s
 rw[tK hb]
 show k8 _ _ (pure ((n:Int)-1,(-1:Int),Builtin.Slice.slicePlaces ((n:Int)-1) ((j:Int)-1) (-1))) _ _ s
 rw[sP (pR hb)]
 exact d3 h
theorem jZ {t sl:j8}{its:List b9}{vl vu vs:b9}{hi:Option Int}{j:Nat}{Q:b9->c7->Prop}(ht:IsTup s.heap t its.toArray)(hs:s.heap.IsSliceOf sl vl vu vs)(pl:IsPart vl none)(pu:IsPart vu hi)(ps:IsPart vs (some (-1)))(hb:bk hi its.length j)
  (h:Q (.ref s.heap.objs.size) { s with heap:=s.heap.push { cls:=.type "tuple",data:=.seq (its.drop j).reverse.toArray } })
  (hsz:its.length<=m3):k8 (v5 prog w) A (getItem (.ref t) (.ref sl)) Q E s:=by
 have htake:sizeOk (.seq (its.drop j).reverse.toArray):=by
  show (its.drop j).reverse.toArray.size<=m3
  rw[d7,u7,p9]
  left
 obtain⟨os,hos,hcs,hds⟩:=id hs
 have hTs:s.TypeIs (.ref sl) "slice":=⟨os,hos,hcs⟩
 unfold getItem
 try with_reducible refine uah ?_
 first | refine a8 (d3 ?_) | skip
 refine a8 (ud0 ht.typeIs (by decide) ?_)
 refine a8 (v6 (name:=u6 "__getitem__") ht.typeIs o0
  (uaa o0 ht.typeIs entry_tuple_getitem ?_ (args_tuple_getitem _ _)))
 show k8 _ _ (Builtin.Tuple.tupleItemsOf (.ref t) >>= _) _ _ s
 refine a8 (tupleItemsOf_ ht ?_)
 refine a8 (ucs hTs ?_)
 rw[uf7 (by decide)]
 refine a8 (pT (n:=its.toArray.size) (j:=j) hs pl pu ps (by rw[d7];exact hb) ?_)
 rw[d7]
 show k8 _ _ (if ((((its.length:Nat):Int)-1==0)&&((-1:Int)==1)&&((its.length-j)==its.length))=true then _ else _) _ _ s
 rw[uf8 (by rw[show ((-1:Int)==1)=false by decide,uee,udj];decide),fV]
 first
  | exact a8 (m:=Builtin.Tuple.tupleExact _) (u5 (d3 ⟨_,rfl,d3 h⟩) htake)
  | exact a8 (m:=Builtin.Tuple.tupleExact _) (u5 (a8 (d3 (d3 ⟨_,rfl,d3 h⟩))) htake)
  | exact a8 (a8 (m:=Builtin.Tuple.tupleExact _) (u5 (d3 (d3 ⟨_,rfl,d3 h⟩)) htake))
  | exact a8 (a8 (m:=Builtin.Tuple.tupleExact _) (u5 (d3 ⟨_,rfl,d3 h⟩) htake))
end
def SlB (X:Cx)(r:V->Option Int->Hp->VK->Prop):Prop :=
 ∀ (pins:List (j8 × Obj))(s:c7)(σ:L2.St)(H:Hp)(x:V)(v vl vu vs:b9)(hi:Option Int)(sl:j8)(Q:VK),Inv X pins σ H s->RelV x v->s.heap.IsSliceOf sl vl vu vs->IsPart vl none->IsPart vu hi->IsPart vs (some (-1))->r x hi H Q ->
  ∃ T id,typeLookup (.type T) "__getitem__"=pure (some (.builtin id))/\s.TypeIs v T/\k8 (v5 X.prog X.w) X.A (getItem v (.ref sl)) (EP X pins σ Q) X.xe s
def tSlB (r:V->Option Int->Hp->VK->Prop)(te:TE)(th:TO)(ts:TE):TE:=λ σ H Q=>te σ H λ x H1=>th σ H1 λ u H3=>ts σ H3 λ z H4=>z=.int (-1)/\r x u H4 Q
section
variable {X:Cx}{e st:ubv}{te ts:TE}{lo hi:Option ubv}{th:TO}{pos p2:Pos}
theorem lJ {r:V->Option Int->Hp->VK->Prop}(hr:SlB X r)(he:PE X e te)(hu:PO X hi th)(hs:PE X st ts):PE X (.Subscript e (.Slice none hi (some st) p2) pos) (tSlB r te th ts):=by
 intro pins s σ H Q I h
 refine Subscript_ (thn (he pins s σ H _ I h) λ v s1 ⟨x,H1,I1,r1,q1⟩=>?_)
 refine wpAny_Slice ?_
 rw[evalPart_none]
 refine d3 (thn (hu pins s1 σ H1 _ I1 q1) λ vu s3 ⟨u,H3,I3,pu,q3⟩=>?_)
 rw[evalPart_some]
 refine thn (hs pins s3 σ H3 _ I3 q3) λ vz s4 ⟨z,H4,I4',rz,ez,q4⟩=>?_
 subst ez
 obtain⟨t,rfl⟩:=rz
 have I4:Inv X pins σ H4 { s4 with heap:=s4.heap.push { cls:=.type "slice",data:=.fields #[.none,vu,.int (-1) t] } }:=I4'.kept (t':=s4.toks) λ b ob q=>b7 _ q
 obtain⟨T,id,hT,ht,hg⟩:=hr pins { s4 with heap:=s4.heap.push { cls:=.type "slice",data:=.fields #[.none,vu,.int (-1) t] } } σ H4 x v .none vu (.int (-1) t) u s4.heap.objs.size Q I4 r1 (uff ..) .none pu (.int _ _) q4
 show k8 (v5 X.prog X.w) X.A (subscriptTail e (.Slice none hi (some st) p2) v (.ref s4.heap.objs.size)) (EP X pins σ Q) X.xe { s4 with heap:=s4.heap.push { cls:=.type "slice",data:=.fields #[.none,vu,.int (-1) t] } }
 exact tail_any (ops:=[v,.ref s4.heap.objs.size]) ht hT hg (by with_unfolding_all rfl)
inductive rBkT_i (K:a9)(x:V)(hi:Option Int)(H:Hp)(Q:VK):Prop
 | mk:∀ a xs j,(x=.ref a)->(H a=some (.tup xs))->(bk hi xs.length j)->(∀ p H',Same H H'->H p=none->H' p=some (.tup (xs.drop j).reverse)->Q (.ref p) H')->rBkT_i K x hi H Q
def rBkT (K:a9):V->Option Int->Hp->VK->Prop:=λ x hi H Q=>rBkT_i K x hi H Q
theorem zJ:SlB X (rBkT X.K):=by
 intro pins s σ H x v vl vu vs hi sl Q I rx hs pl pu ps h
 obtain⟨a,xs,j,rfl,hx,hb,q⟩:=h
 cases rx
 obtain⟨its,r,ht,hz⟩:=I.tuple (SqT.of hx)
 have hlen:its.length=xs.length:=r.length.symm
 refine⟨"tuple",_,o0.lookup,ht.typeIs,?_⟩
 refine jZ ht hs pl pu ps (j:=j) (by rw[hlen];exact hb) ?_ (by rw[hlen];exact hz)
 refine⟨.ref s.heap.objs.size,_,I.laid (t':=s.toks) (o:=.tup (xs.drop j).reverse) (λ b ob q=>b7 _ q) (c8 _) ?_,rfl,q _ _ (aS (I.hok.fresh (c8 _))) (I.hok.fresh (c8 _)) aK⟩
 exact⟨by rw[u7,p9];left,_,(r.drop j).reverse,TupN.new _ _⟩
inductive rBkL_i (K:a9)(x:V)(hi:Option Int)(H:Hp)(Q:VK):Prop
 | mk:∀ a xs j,(x=.ref a)->(H a=some (.lst xs))->(bk hi xs.length j)->(∀ p H',Same H H'->H p=none->H' p=some (.lst (xs.drop j).reverse)->Q (.ref p) H')->rBkL_i K x hi H Q
def rBkL (K:a9):V->Option Int->Hp->VK->Prop:=λ x hi H Q=>rBkL_i K x hi H Q
theorem tG {hi:Option Int}{n j:Nat}(h:bk hi n j):sliceBounds none hi (some (-1)) n=((n:Int)-1,(j:Int)-1,-1):=by
 rcases h with ⟨rfl,rfl⟩ | ⟨rfl,rfl,h1⟩
 ·simp [sliceBounds]
 ·simp [sliceBounds]
  left
theorem qM (its:List b9){hi:Option Int}{j:Nat}(h:bk hi its.length j):slicePick its.toArray none hi (some (-1))=(its.drop j).reverse.toArray:=by
 have hj:=pR h
 unfold slicePick
 rw[d7,tG h]
 show ((sliceRange ((its.length:Int)-1) ((j:Int)-1) (-1)).filterMap (its.toArray[·]?)).toArray=_
 have e:sliceRange ((its.length:Int)-1) ((j:Int)-1) (-1)=(c9 (its.length-j)).map λ (k:Nat)=>((its.length:Int)-1+(-1)*(k:Int)).toNat:=by
  unfold sliceRange
  have c:(if (-1:Int)>0 then (if (its.length:Int)-1<(j:Int)-1 then ((j:Int)-1-((its.length:Int)-1)+(-1)-1) / (-1) else 0) else (if (its.length:Int)-1>(j:Int)-1 then ((its.length:Int)-1-((j:Int)-1)-(-1)-1) / (-(-1)) else 0)).toNat=its.length-j:=by
   rw[uf8 (by left)]
   split
   ·rw[show -(-1:Int)=1 by rfl,ue9];left
   ·left
  dsimp only
  rw[c]
 rw[e,ucr]
 have:=fV its j
 rw[← this]
 congr 1
 congr 1
 funext k
 show its.toArray[((its.length:Int)-1+(-1)*(k:Int)).toNat]?=_
 rw[Int.mul_comm]
theorem yG:SlB X (rBkL X.K):=by
 intro pins s σ H x v vl vu vs hi sl Q I rx hs pl pu ps h
 obtain⟨a,xs,j,rfl,hx,hb,q⟩:=h
 cases rx
 obtain⟨its,r,ht,hz⟩:=I.list (SqL.of hx)
 have hlen:its.length=xs.length:=r.length.symm
 refine⟨"list",_,slot_list_getitem.lookup,ht.isList.typeIs,?_⟩
 refine wpAny_getItem_list_slice ht.isList hs pl pu ps (by simp) ?_ (by rw[d7] <;> left)
 rw[qM its (by rw[hlen];exact hb)]
 refine⟨.ref s.heap.objs.size,_,I.laid (t':=s.toks) (o:=.lst (xs.drop j).reverse) (λ b ob q=>b7 _ q) (c8 _) ?_,rfl,q _ _ (aS (I.hok.fresh (c8 _))) (I.hok.fresh (c8 _)) aK⟩
 exact⟨by rw[u7,p9];left,_,0,(r.drop j).reverse,i8 _ rfl⟩
end
def WayM (H:Hp)(ts:List Tie)(ks:List Nat)(a b:Nat)(v:V):Prop:=(v=.non/\Far.Dst (arcs ts ks) a b none)\/∃ t ws x,v=.ref t/\H t=some (.tup (natV ws))/\ws.length<=24/\Far.MinW (arcsB ts ks) a b ws/\Far.Tr (arcs ts ks) a ws b x/\Far.Dst (arcs ts ks) a b (some x)
theorem zG {H:Hp}{n:Int}{m:Nat}{ts:List Tie}{ks:List Nat}{a b:Nat}{v:V}(ok:WebOk n ts)(ko:KeepOk ts.length ks)(h:WayB H (arcsB ts ks) m a b v):WayM H ts ks a b v:=by
 obtain⟨cs,as,B,h⟩:=h
 have KB:=bB ok ko
 have d:=B.dst1 KB a
 rw[cZ] at d
 rcases h with ⟨rfl,e⟩ | ⟨t,ws,c,rfl,ht,l24,e,tp⟩
 ·rw[e] at d
  exact .inl ⟨rfl,d.back (iK ok ko)⟩
 ·rw[e] at d
  obtain⟨S,u⟩:=B.uni KB tp e
  have tr:=u.rt.tr
  rw[cZ] at tr
  exact .inr ⟨t,ws,c.1,rfl,ht,l24,B.minw KB tp e,tr,d.back (iK ok ko)⟩
def spWayM (K:a9):Sp:=λ vs H Q _=>∃ n ts ks wv kv a b,vs=[wv,kv,.int a,.int b]/\WK K H n ts ks wv kv/\0<=a/\a<n/\0<=b/\b<n/\∀ v H',Same H H'->WayM H' ts ks a.toNat b.toNat v->Q v H'
theorem zad {K:a9}(vs:List V)(H:Hp)(Q:VK)(E:XK)(h:spWayM K vs H Q E):spWayB K vs H Q E:=by
 obtain⟨n,ts,ks,wv,kv,a,b,e,wk,a0,a1,b0,b1,q⟩:=h
 exact⟨n,ts,ks,wv,kv,a,b,e,wk,a0,a1,b0,b1,λ v H' S h=>q v H' S (zG wk.2.1 wk.2.2.2 h)⟩
theorem bS {n:Int}{ts:List Tie}{ks:List Nat}(ok:WebOk n ts)(ko:KeepOk ts.length ks){u v k:Nat}{l:Int}(h:(u,v,l,k)∈arcsB ts ks):tbN ts u v=some k:=by
 have h2:(u,v,l,k)∈arcsB ts (c9 ts.length):=by
  obtain⟨k',hk',m⟩:=arcsB_mem.mp h
  exact arcsB_mem.mpr ⟨k',o9.mpr (ko.2 k' hk'),m⟩
 have e:=yB ok (allOk ts) h2
 unfold tbN
 rw[← List.head?_filter,e];rfl
inductive op_inL_i (K:a9)(uu:Nat)(x:V)(y:V)(H:Hp)(Q:VK):Prop
 | mk:∀ (p:j8)(ds:List uac)(vs:List V)(dx:uac),(y=.ref p)->(H p=some (.lst vs))->(IsAll K H ds vs)->(Is K H dx x)->((∀ d∈ds,d.canLay0=true))->(dx.canLay0=true)->(uu+1+dx.depth<cLine)->(Q (.bl (ds.any λ d=>uav d dx)) H)->op_inL_i K uu x y H Q
theorem zQ {X:Cx}:OpR X (compareOp .In) (op_inL_i X.K X.A.units):=by
 intro pins s σ H x y v u Q I rx ry h
 obtain⟨p,ds,vs,dx,rfl,hp,hA,hx,lay,layx,hu,q⟩:=h
 cases ry
 obtain⟨its,r,pl,hz⟩:=I.list (SqL.of hp)
 obtain⟨xs,rdx⟩:=dN I dx hx rx
 have room:∀ d:uac,X.A.in1.units+min d.depth dx.depth<cLine:=λ d=>by
  have:X.A.in1.units=X.A.units+1:=rfl
  have:=Nat.min_le_right d.depth dx.depth
  left
 have rd:∀ {i:Nat}{w:b9},its[i]?=some w->∃ d as,ds[i]?=some d/\Reads s.heap w d as/\d.canLay0=true:=λ {i w} e=>by
  obtain⟨x',hi,rel⟩:=fB r e
  obtain⟨d,hd,hI⟩:=IsAll.from_ hA hi
  obtain⟨as,ra⟩:=dN I d hI rel
  exact⟨d,as,hd,ra,lay d (i9 hd)⟩
 let e:b9->Bool:=λ w=>@decide (∃ (i:Nat)(d:uac),its[i]?=some w/\ds[i]?=some d/\uav d dx=true) (Classical.propDecidable _)
 refine SeqAt.in_listAt e pl.isList (λ w hw=>?_) ⟨.bl _,H,I,rfl,?_⟩
 ·have hw':w∈its:=by simpa using hw
  by_cases c:∃ (i:Nat)(d:uac),its[i]?=some w/\ds[i]?=some d/\uav d dx=true
  ·have ec:e w=true:=@uf3 _ (Classical.propDecidable _) c
   obtain⟨i,d,ei,ed,eq⟩:=c
   obtain⟨d',as,ed',ra,ld⟩:=rd ei
   rw[ed] at ed';cases ed'
   rw[ec,← eq]
   exact SeqAt.eqAt_reads d dx _ s _ _ _ _ ra rdx ld layx (room d)
  ·have ec:e w=false:=@uf5 _ (Classical.propDecidable _) c
   obtain⟨i,ei⟩:=List.getElem?_of_mem hw'
   obtain⟨d,as,ed,ra,ld⟩:=rd ei
   have eq:uav d dx=false:=ub4.mpr λ z=>c ⟨i,d,ei,ed,z⟩
   rw[ec,← eq]
   exact SeqAt.eqAt_reads d dx _ s _ _ _ _ ra rdx ld layx (room d)
 ·have any:its.toArray.any e=ds.any λ d=>uav d dx:=by
   rw[ubm]
   simp only [List.any_toArray]
   rw[udu,udu]
   constructor
   ·rintro ⟨w,hw,ew⟩
    obtain⟨i,d,_,ed,eq⟩:=(@decide_eq_true_iff _ (Classical.propDecidable _)).mp ew
    exact⟨d,i9 ed,eq⟩
   ·rintro ⟨d,hd,eq⟩
    obtain⟨i,hi⟩:=List.getElem?_of_mem hd
    obtain⟨v',hv',hI⟩:=IsAll.at_ hA hi
    have hil:i<its.length:=by
     have:=(i3.mp hv').1
     have:=r.length
     left
    exact⟨its[i],ucg hil,@uf3 _ (Classical.propDecidable _) ⟨i,d,b6 hil,hi,eq⟩⟩
  rw[any];exact q
theorem yM {X:Cx}{own fr:List Str}{scope:Scope}{fp:List j8}{pins:List (j8 × Obj)}{s3:c7}{H3:Hp}:OpR (cxComp X own fr scope fp pins s3 H3) (compareOp .In) (op_inL_i X.K X.A.units):=zQ (X:=cxComp X own fr scope fp pins s3 H3)
def WaysL (J:Hp)(ts:List Tie)(ks:List Nat)(ys:List V):Prop:=∀ v∈ys,∃ t W a b,v=.ref t/\J t=some (.tup (natV W))/\W.length<=24/\Far.MinW (arcsB ts ks) a b W
theorem WaysL.same {J J':Hp}{ts:List Tie}{ks:List Nat}{ys:List V}(h:WaysL J ts ks ys)(s:Same J J'):WaysL J' ts ks ys:=λ v hv=>by
 obtain⟨t,W,a,b',e1,e2,r⟩:=h v hv
 exact⟨t,W,a,b',e1,s _ _ e2,r⟩
theorem WaysL.snoc {J:Hp}{ts:List Tie}{ks:List Nat}{ys:List V}{t:j8}{W:List Nat}{a b:Nat}(h:WaysL J ts ks ys)(e:J t=some (.tup (natV W)))(l:W.length<=24)(m:Far.MinW (arcsB ts ks) a b W):WaysL J ts ks (ys++[.ref t]):=λ v hv=>by
 rcases l8.mp hv with z | z
 ·exact h v z
 ·rw[d8.mp z];exact⟨t,W,a,b,rfl,e,l,m⟩
end L3
namespace Far
inductive W2 (B:List Arc)(s:Nat):Nat->Int->Int->Prop
 | nil:W2 B s s 0 0
 | snoc {u v:Nat} {x y l:Int} {k:Nat}:W2 B s u x y->(u,v,l,k)∈B->W2 B s v (x+l) (y+2^k)
theorem W2.nonneg {B:List Arc}(K:Keys B){s v:Nat}{x y:Int}(h:W2 B s v x y):0<=x/\0<=y:=by
 induction h with
 | nil=>exact⟨w6 _,w6 _⟩
 | @snoc u v x y l k h m ih =>
  have h1:=K.pos _ _ _ _ m
  have h2:=gH k
  left
theorem lN {P:Nat->Prop}:∀ n,P n->∃ m,P m/\∀ i,P i->m<=i:=by
 intro n
 induction n using udb with
 | ind n ih =>
  intro h
  by_cases c:∃ i,P i/\i<n
  ·obtain⟨i,hi,lt⟩:=c
   exact ih i lt hi
  ·exact⟨n,h,λ i hi=>udw λ z=>c ⟨i,hi,z⟩⟩
theorem vN {P:Int->Int->Prop}(nn:∀ x y,P x y->0<=x/\0<=y){x y:Int}(h:P x y):∃ x y,P x y/\∀ x' y',P x' y'->¬ lt2 (x',y') (x,y):=by
 obtain⟨m,⟨y0,hm⟩,lm⟩:=lN (P:=λ m=>∃ y,P (m:Int) y) x.toNat ⟨y,by rw[v8 (nn x y h).1];exact h⟩
 obtain⟨k,hk,lk⟩:=lN (P:=λ k=>P (m:Int) (k:Int)) y0.toNat (by rw[v8 (nn _ _ hm).2];exact hm)
 refine⟨m,k,hk,λ x' y' h' z=>?_⟩
 have n':=nn x' y' h'
 have h1:=lm x'.toNat ⟨y',by rw[v8 n'.1];exact h'⟩
 unfold lt2 at z
 simp only at z
 rcases z with z | ⟨z1,z2⟩
 ·left
 ·have h2:=lk y'.toNat (by rw[← z1,v8 n'.2];exact h')
  left
theorem kJ {B:List Arc}(K:Keys B){n s:Nat}(inn:∀ u v l k,(u,v,l,k)∈B->u<n/\v<n)(hs:s<n):∃ cs as,Best B n s cs as:=by
 have ex:∀ v,∃ o:Option (Int × Int),(o=none->∀ x y,¬ W2 B s v x y)/\∀ c,o=some c->W2 B s v c.1 c.2/\∀ x' y',W2 B s v x' y'->¬ lt2 (x',y') c:=λ v=>by
  by_cases c:∃ x y,W2 B s v x y
  ·obtain⟨x,y,h⟩:=c
   obtain⟨x,y,h,l⟩:=vN (P:=W2 B s v) (λ x y h=>h.nonneg K) h
   exact⟨some (x,y),(λ e=>by cases e),λ c e=>by cases e;exact⟨h,l⟩⟩
  ·exact⟨none,λ _ x y h=>c ⟨x,y,h⟩,λ c e=>by cases e⟩
 let f:Nat->Option (Int × Int):=λ v=>Classical.choose (ex v)
 have hf:∀ v,(f v=none->∀ x y,¬ W2 B s v x y)/\∀ c,f v=some c->W2 B s v c.1 c.2/\∀ x' y',W2 B s v x' y'->¬ lt2 (x',y') c:=λ v=>Classical.choose_spec (ex v)
 have eA:∀ v,∃ o:Option Nat,(v=s->o=none)/\(v≠s->f v≠none->o≠none)/\∀ u,o=some u->∃ l k cu,(u,v,l,k)∈B/\f u=some cu/\f v=some (cu.1+l,cu.2+2^k):=λ v=>by
  by_cases c1:v=s
  ·exact⟨none,λ _=>rfl,λ z=>absurd c1 z,λ u e=>by cases e⟩
  ·cases ev:f v with
   | none=>exact⟨none,λ z=>absurd z c1,λ _ z=>absurd rfl z,λ u e=>by cases e⟩
   | some c =>
    obtain⟨w,lw⟩:=(hf v).2 c ev
    obtain⟨cx,cy⟩:=c
    have w':W2 B s v cx cy:=w
    cases w' with
    | nil=>exact absurd rfl c1
    | @snoc u _ x y l k w1 m =>
     cases eu:f u with
     | none=>exact absurd w1 ((hf u).1 eu x y)
     | some cu =>
      obtain⟨wu,lu⟩:=(hf u).2 cu eu
      have n1:=lu x y w1
      have n2:=lw _ _ (wu.snoc m)
      refine⟨some u,λ z=>absurd z c1,(λ _ _ z=>by cases z),λ u' e=>?_⟩
      cases e
      refine⟨l,k,cu,m,eu,?_⟩
      unfold lt2 at n1 n2
      simp only at n1 n2
      have:cu=(x,y):=Prod.ext (by simp only;left) (by simp only;left)
      rw[this]
 let g:Nat->Option Nat:=λ v=>Classical.choose (eA v)
 have hg:∀ v,(v=s->g v=none)/\(v≠s->f v≠none->g v≠none)/\∀ u,g v=some u->∃ l k cu,(u,v,l,k)∈B/\f u=some cu/\f v=some (cu.1+l,cu.2+2^k):=λ v=>Classical.choose_spec (eA v)
 have wn:∀ {v x y},W2 B s v x y->v<n:=λ {v x y} h=>by
  cases h with
  | nil=>exact hs
  | snoc _ m=>exact (inn _ _ _ _ m).2
 have fo:∀ v,n<=v->f v=none:=λ v hv=>by
  cases e:f v with
  | none=>rfl
  | some c=>exact absurd (wn ((hf v).2 c e).1) (by left)
 have getf:∀ v,get ((c9 n).map f) v=f v:=λ v=>by
  unfold get
  by_cases hv:v<n
  ·simp [hv]
  ·rw[fo v (by left)]
   simp [hv]
 have go:∀ v,n<=v->g v=none:=λ v hv=>by
  cases e:g v with
  | none=>rfl
  | some u =>
   obtain⟨l,k,cu,m,_⟩:=(hg v).2.2 u e
   exact absurd (inn _ _ _ _ m).2 (by left)
 have getg:∀ v,get ((c9 n).map g) v=g v:=λ v=>by
  unfold get
  by_cases hv:v<n
  ·simp [hv]
  ·rw[go v (by left)]
   simp [hv]
 refine⟨(c9 n).map f,(c9 n).map g,by simp,by simp,?_,?_,?_,?_,?_,?_⟩
 ·rw[getf]
  cases e:f s with
  | none=>exact absurd W2.nil ((hf s).1 e 0 0)
  | some c =>
   obtain⟨w,l⟩:=(hf s).2 c e
   have nn:=w.nonneg K
   have:=l 0 0 .nil
   unfold lt2 at this
   simp only at this
   have:c=(0,0):=Prod.ext (by simp only;left) (by simp only;left)
   rw[this]
 ·rw[getg];exact (hg s).1 rfl
 ·intro v c e ne
  rw[getf] at e
  rw[getg]
  exact (hg v).2.1 ne (by rw[e];exact λ z=>by cases z)
 ·intro v c e
  rw[getf] at e
  exact (((hf v).2 c e).1.nonneg K).1
 ·intro u v l k c m e
  rw[getf] at e
  have w:=((hf u).2 c e).1.snoc m
  cases ev:f v with
  | none=>exact absurd w ((hf v).1 ev _ _)
  | some c' =>
   refine⟨c',by rw[getf,ev],((hf v).2 c' ev).2 _ _ w⟩
 ·intro v u e
  rw[getg] at e
  obtain⟨l,k,cu,m,e1,e2⟩:=(hg v).2.2 u e
  exact⟨l,k,cu,m,by rw[getf];exact e1,by rw[getf];exact e2⟩
end Far
namespace L3
open PySem PySem.Spec PyProof.Rows L2
def WKL (K:a9)(H:Hp)(n:Int)(ts:List Tie)(ks:List Nat)(wv:V)(kp:j8):Prop:=Is K H (webD n ts) wv/\WebOk n ts/\H kp=some (.lst ((keepI ks).map V.int))/\KeepOk ts.length ks
theorem WKL.same {K:a9}{H H':Hp}{n:Int}{ts:List Tie}{ks:List Nat}{wv:V}{kp:j8}(h:WKL K H n ts ks wv kp)(s:Same H H'):WKL K H' n ts ks wv kp:=⟨Is.same s _ h.1,h.2.1,s _ _ h.2.2.1,h.2.2.2⟩
def spWeighedL (K:a9):Sp:=λ vs H Q _=>∃ n ts ks wv kp r,vs=[wv,.ref kp,.int r]/\WKL K H n ts ks wv kp/\0<=r/\r<n /\
 ∀ l D H',Same H H'->H l=none->H' l=some (.lst (D.map ov))->D.length=n.toNat->(∀ v,v<n.toNat->Far.Dst (arcsW ts ks) r.toNat v (Far.get D v))->Q (.ref l) H'
def spLTreeL (K:a9):Sp:=λ vs H Q _=>∃ n ts ks wv kp r,vs=[wv,.ref kp,.int r]/\WKL K H n ts ks wv kp/\0<=r/\r<n /\
 ∀ (p:j8)(F:List (Option Nat))(H':Hp),Same H H'->H' p=some (.tup (F.map oa))->(∀ cs as,Far.Best (arcsB ts ks) n.toNat r.toNat cs as->F=as)->Q (.ref p) H'
def ovD:Option Int->uac
 | none=>.none
 | some x=>.int x
theorem jR {K:a9}{H:Hp}:∀ D:List (Option Int),IsAll K H (D.map ovD) (D.map ov)
 | []=>rfl
 | none::r=>⟨_,_,rfl,rfl,jR r⟩
 | some x::r=>⟨_,_,rfl,rfl,jR r⟩
theorem pB {K:a9}{H:Hp}{l:j8}{D:List (Option Int)}(h:H l=some (.lst (D.map ov))):Is K H (.list (D.map ovD)) (.ref l):=⟨l,_,rfl,h,jR D⟩
theorem gM:∀ D:List (Option Int),uct (D.map ovD)=true
 | []=>rfl
 | none::r=>by show (true&&uct (r.map ovD))=true;rw[gM r];rfl
 | some x::r=>by show (true&&uct (r.map ovD))=true;rw[gM r];rfl
theorem iY:∀ D:List (Option Int),ubl (D.map ovD)<=1
 | []=>v4 _
 | none::r=>by
  show max (uar .none) (ubl (r.map ovD))<=1
  have:=iY r
  have e:uar .none=0:=rfl
  left
 | some x::r=>by
  show max (uar (.int x)) (ubl (r.map ovD))<=1
  have:=iY r
  have e:uar (.int x)=0:=rfl
  left
theorem oG:∀ {D E:List (Option Int)},ucm (D.map ovD) (E.map ovD)=true->D=E
 | [],[],_=>rfl
 | [],_::_,h=>by cases h
 | _::_,[],h=>by cases h
 | a::r,b::s,h=>by
  have h':(uav (ovD a) (ovD b)&&ucm (r.map ovD) (s.map ovD))=true:=h
  rw[r6] at h'
  rw[oG h'.2]
  congr 1
  cases a with
  | none=>cases b with
   | none=>rfl
   | some y=>cases h'.1
  | some x=>cases b with
   | none=>cases h'.1
   | some y =>
    have:(x==y)=true:=h'.1
    rw[eq_of_beq this]
end L3
namespace Far
def chn (R:Nat->Nat->Prop):List Nat->Prop
 | []=>True
 | [_]=>True
 | a::b::r=>R a b/\chn R (b::r)
section
variable {R:Nat->Nat->Prop}
theorem cA:∀ {l m:List Nat}{x y:Nat},chn R (l++[x])->R x y->chn R (y::m)->chn R (l++[x]++y::m)
 | [],m,x,y,_,r,h=>⟨r,h⟩
 | [a],m,x,y,h1,r,h=>⟨h1.1,cA (l:=[]) (x:=x) (y:=y) h1.2 r h⟩
 | a::b::l,m,x,y,h1,r,h=>⟨h1.1,cA (l:=b::l) (x:=x) (y:=y) h1.2 r h⟩
theorem bO:∀ {l m:List Nat}{x:Nat},chn R (l++x::m)->chn R (l++[x])/\chn R (x::m)
 | [],m,x,h=>⟨trivial,h⟩
 | [a],m,x,h=>⟨⟨h.1,trivial⟩,h.2⟩
 | a::b::l,m,x,h=>⟨⟨h.1,(bO (l:=b::l) (x:=x) h.2).1⟩,(bO (l:=b::l) (x:=x) h.2).2⟩
theorem dC (sy:∀ u v,R u v->R v u):∀ {l:List Nat},chn R l->chn R l.reverse
 | [],_=>trivial
 | [_],_=>trivial
 | a::b::r,h=>by
  have ih:=dC sy h.2
  rw[ua8] at ih
  rw[ua8,ua8]
  exact cA (l:=r.reverse) (m:=[]) ih (sy _ _ h.1) trivial
theorem gX:∀ {l:List Nat}{i u v:Nat},chn R l->l[i]?=some u->l[i+1]?=some v->R u v
 | [],i,u,v,_,e,_=>by cases e
 | [a],i,u,v,_,_,e=>by cases e
 | a::b::r,0,u,v,h,e1,e2=>by cases e1;cases e2;exact h.1
 | a::b::r,i+1,u,v,h,e1,e2=>gX (l:=b::r) h.2 e1 e2
theorem Rt.chn {B:List Arc}{a b:Nat}{ws S:List Nat}{x y:Int}(hR:∀ u v l k,(u,v,l,k)∈B->R u v)(r:Rt B a ws S b x y):chn R ws:=by
 induction r with
 | one=>exact trivial
 | @snoc ws S u v x y l k r m nv ih =>
  obtain⟨q,e⟩:=r.foot
  rw[e] at ih ⊢
  exact cA (m:=[]) ih (hR _ _ _ _ m) trivial
def RingOf (ws:List Nat)(h:Nat)(tl:List Nat):Prop:=∃ p q,ws=p++h::q/\(tl=q++p\/tl=(q++p).reverse)
theorem RingOf.mem {ws tl:List Nat}{h:Nat}(r:RingOf ws h tl){x:Nat}:x∈h::tl↔x∈ws:=by
 obtain⟨p,q,e,t⟩:=r
 rw[e]
 rcases t with t | t
 ·rw[t];simp only [h9,l8];constructor
  ·rintro (z | z | z)
   ·exact .inr (.inl z)
   ·exact .inr (.inr z)
   ·exact .inl z
  ·rintro (z | z | z)
   ·exact .inr (.inr z)
   ·exact .inl z
   ·exact .inr (.inl z)
 ·rw[t];simp only [h9,l8,ua4];constructor
  ·rintro (z | z | z)
   ·exact .inr (.inl z)
   ·exact .inr (.inr z)
   ·exact .inl z
  ·rintro (z | z | z)
   ·exact .inr (.inr z)
   ·exact .inl z
   ·exact .inr (.inl z)
theorem RingOf.len {ws tl:List Nat}{h:Nat}(r:RingOf ws h tl):tl.length+1=ws.length:=by
 obtain⟨p,q,e,t⟩:=r
 rw[e]
 rcases t with t | t
 ·rw[t];simp only [d6,k9];left
 ·rw[t];simp only [d6,k9,u7];left
theorem RingOf.nodup {ws tl:List Nat}{h:Nat}(r:RingOf ws h tl)(nd:ws.Nodup):(h::tl).Nodup:=by
 obtain⟨p,q,e,t⟩:=r
 rw[e] at nd
 have n1:(h::(q++p)).Nodup:=by
  have:(h::q++p).Nodup:=(List.perm_append_comm.nodup_iff).mp nd
  simpa using this
 rcases t with t | t
 ·rw[t];exact n1
 ·rw[t]
  rw[j0] at n1 ⊢
  exact⟨λ z=>n1.1 (ua4.mp z),(ub3 _).nodup_iff.mpr n1.2⟩
theorem RingOf.chn (sy:∀ u v,R u v->R v u){ws tl:List Nat}{h a b:Nat}{w1 w2:List Nat}(r:RingOf ws h tl)(c:chn R ws)(e1:ws=a::w1)(e2:ws=w2++[b])(l:R b a):Far.chn R (h::tl++[h]):=by
 obtain⟨p,q,e,t⟩:=r
 have key:Far.chn R (h::(q++p)++[h]):=by
  obtain⟨c1,c2⟩:=bO (l:=p) (x:=h) (m:=q) (by rw[← e];exact c)
  obtain⟨q2,eq⟩:∃ q2,h::q=q2++[b]:=by
   rcases z9 q with rfl | ⟨q',z,rfl⟩
   ·have:w2++[b]=p++[h]:=by rw[← e2,e]
    obtain⟨_,z⟩:=uaf this rfl
    cases z
    exact⟨[],rfl⟩
   ·have:w2++[b]=(p++h::q')++[z]:=by rw[← e2,e];simp
    obtain⟨_,y⟩:=uaf this rfl
    cases y
    exact⟨h::q',by simp⟩
  cases p with
  | nil =>
   have:a=h:=by rw[e] at e1;injection e1 with z _;exact z.symm
   subst this
   rw[ubz,eq]
   rw[eq] at c2
   exact cA (m:=[]) c2 l trivial
  | cons a' p' =>
   have:a=a':=by rw[e] at e1;injection e1 with z _;exact z.symm
   subst this
   have e3:h::(q++a::p')++[h]=(h::q)++(a::(p'++[h])):=by simp
   rw[e3,eq]
   rw[eq] at c2
   exact cA c2 l c1
 rcases t with t | t
 ·rw[t];exact key
 ·have e4:h::tl++[h]=(h::(q++p)++[h]).reverse:=by rw[t];simp
  rw[e4]
  exact dC sy key
end
end Far
namespace L3
open PySem PySem.Spec PyProof.Rows L2
inductive call_minTu_i  (xs:List V) (H:Hp) (Q:VK):Prop
 | mk:∀ (p:j8)(ns:List Int),(xs=[.ref p])->(H p=some (.tup (ns.map V.int)))->(ns≠[])->(∀ b,b∈ns->(∀ x∈ns,b<=x)->Q (.int b) H)->call_minTu_i xs H Q
theorem uG {X:Cx}(hh:X.calm=true):CallR X (.builtin "min") (call_minTu_i):=by
 intro pins s σ H xs us Q I r h
 obtain⟨p,ns,rfl,hq,hne,q⟩:=h
 obtain⟨u,rfl,rx⟩:=vals1 r
 cases rx
 obtain⟨its,rv,pl,hz⟩:=I.tuple (SqT.of hq)
 have it:s.heap.IsTuple p its.toArray:=pl
 have hl:=rv.length
 rw[c6] at hl
 have hI:IntsAre its ns:=dI rv
 have lt:p≠s.heap.objs.size:=by obtain⟨o,e,_⟩:=it;exact l9 (i7 e)
 refine call_min_walkS (ufb it ?_)
 have W:=(Walks.tuple (prog:=X.prog) (w:=X.w) (A:=X.A.in1) (show X.A.in1.handled=none from I.ok.hd hh) s.heap.objs.size p lt its.toArray).toS
 have npos:0<ns.length:=uc9.mpr hne
 have esz:its.toArray.size=ns.length:=by rw[d7,← hl]
 have hv:∀ (i:Nat)(v:b9),its.toArray[i]?=some v->∃ t,v=Value.int (ns.getD i 0) t:=λ i v hv=>IntsAre.int_at hI i v (by simpa using hv)
 refine⟨s.heap.objs.size,_,_,_,_,_,_,(λ i j=>decide (ns.getD i 0<ns.getD j 0)),rfl,W,⟨⟨_,i8 _ rfl,rfl,rfl⟩,it.push _⟩,λ b hb=>?_,by rw[esz];exact npos,CmpOf.ints_lt (λ i=>ns.getD i 0) hv,λ v s' hP hm=>?_⟩
 ·obtain⟨o,e,_⟩:=it
  have hlt:p<s.heap.objs.size:=i7 e
  show b<(s.heap.push _).objs.size
  rw[uao]
  simp only [h9,u4,or_false] at hb
  rcases hb with z | z
  ·rw[z];exact uch _
  ·rw[z];exact ub6 hlt
 ·obtain⟨t,rfl⟩:=hv _ _ hP
  obtain⟨b1,b2⟩:=kW (λ i=>ns.getD i 0) (its.toArray.size-1)
  rw[Moved.eq_with hm]
  refine⟨.int _,H,I.kept (t':=s'.toks) λ b o e=>hm.heap b o (λ z=>?_) (b7 _ e),⟨t,rfl⟩,q _ ?_ λ x hx=>?_⟩
  ·have:b=s.heap.objs.size:=by simpa using z
   exact absurd (i7 e) (by rw[this];exact uap _)
  ·have:argBest (λ i j=>decide (ns.getD i 0<ns.getD j 0)) (its.toArray.size-1)<ns.length:=by left
   rw[b8,b6 this];exact ucg this
  ·obtain⟨i,hi,e⟩:=ua9 hx
   have:=b2 i (by left)
   have g:ns.getD i 0=ns[i]:=by rw[b8,b6 hi];rfl
   rw[← e,← g];exact this
theorem iC:∀ (n:Nat){ws:List Nat},ws.Nodup->(∀ x∈ws,x<n)->ws.length<=n
 | 0,[],_,_=>c8 _
 | 0,x::r,_,h=>absurd (h x (g9 ..)) (ub0 _)
 | n+1,ws,nd,h=>by
  by_cases c:n∈ws
  ·have:=iC n (ws:=ws.erase n) (nd.erase n) λ x hx=>by
    have:=(nd.mem_erase_iff).mp hx
    have:=h x this.2
    left
   rw[ufz c] at this
   left
  ·have:=iC n nd λ x hx=>by
    have:=h x hx
    have:x≠n:=λ z=>c (z ▸ hx)
    left
   left
theorem vE {ws:List Nat}{n:Nat}(nd:ws.Nodup)(h:∀ x∈ws,x<n):ws.length<=n:=iC n nd h
theorem wC {B:List Far.Arc}{n s:Nat}{cs:List (Option (Int × Int))}{as:List (Option Nat)}{ws:List Nat}(K:Far.Keys B)(h:Far.Best B n s cs as){v:Nat}{c:Int × Int}(t:Far.TPw as s ws v)(e:Far.get cs v=some c):Far.MinW B s v ws:=by
 obtain⟨S,r⟩:=h.rt K t e
 refine⟨_,_,_,r,λ L w=>?_⟩
 obtain⟨z,ez,le⟩:=(h.dst K v).2 L w
 rw[e] at ez
 cases ez
 exact le
def spSpareM (K:a9):Sp:=λ vs H Q _=>∃ (n:Int)(ts:List Tie)(ks:List Nat)(wv kv:V)(k:Nat),vs=[wv,kv,.int (k:Int)]/\WK K H n ts ks wv kv/\k<ts.length/\∀ v H',Same H H'->WayM H' ts (but ks k) (tieAt ts k).1.toNat (tieAt ts k).2.1.toNat v->Q v H'
def adjK (ts:List Tie)(ks:List Nat)(u v:Nat):Prop:=∃ k,k∈ks/\tbN ts u v=some k
theorem yE (ts:List Tie)(u v:Nat):tbN ts u v=tbN ts v u:=by
 unfold tbN
 congr 1
 funext k
 unfold isTB
 rw[Int.min_comm,Int.max_comm]
theorem adjK.sym {ts:List Tie}{ks:List Nat}(u v:Nat)(h:adjK ts ks u v):adjK ts ks v u:=by
 obtain⟨k,hk,e⟩:=h
 exact⟨k,hk,by rw[yE];exact e⟩
theorem jL {n:Int}{ts:List Tie}{ks ks':List Nat}(ok:WebOk n ts)(ko:KeepOk ts.length ks)(sub:∀ k∈ks',k∈ks)(ko':KeepOk ts.length ks'){u v k:Nat}{l:Int}(h:(u,v,l,k)∈arcsB ts ks'):adjK ts ks u v:=⟨k,sub k (cW h).2,bS ok ko' h⟩
theorem cO {ts:List Tie}{ks:List Nat}{k:Nat}(hk:k∈ks):((tieAt ts k).1.toNat,(tieAt ts k).2.1.toNat,(tieAt ts k).2.2,k)∈arcsB ts ks:=arcsB_mem.mpr ⟨k,hk,arcs2B_mem.mpr (.inl rfl)⟩
theorem eU {n:Int}{ts:List Tie}{ks:List Nat}{k:Nat}(ok:WebOk n ts)(ko:KeepOk ts.length ks)(hk:k∈ks){ws:List Nat}(mw:Far.MinW (arcsB ts (but ks k)) (tieAt ts k).1.toNat (tieAt ts k).2.1.toNat ws):3<=ws.length:=by
 obtain⟨S,x,y,r,_⟩:=mw
 have KB:=bB ok ko
 have ne:=KB.ne _ _ _ _ (cO hk)
 have hl:=r.len
 obtain⟨q,e1⟩:=r.head
 obtain⟨p,e2⟩:=r.foot
 rcases ubp 2 ws.length with z | z
 ·exact z
 exfalso
 cases q with
 | nil =>
  rw[e1] at e2
  cases p with
  | nil=>injection e2 with z1 _;exact ne z1
  | cons _ p=>injection e2 with _ z2;cases p <;> cases z2
 | cons w q =>
  have hq:q=[]:=by
   cases q with
   | nil=>rfl
   | cons a q=>rw[e1] at z;simp only [k9] at z;left
  subst hq
  have hS:S.length=1:=by rw[e1] at hl;simp only [k9,uby] at hl;left
  obtain⟨k',eS⟩:∃ k',S[0]?=some k':=⟨_,b6 (by left)⟩
  obtain⟨u,v,l,eu,ev,m⟩:=r.step eS
  rw[e1] at eu ev
  have eu':(tieAt ts k).1.toNat=u:=j5 eu
  have ev':w=v:=j5 ev
  have ew:w=(tieAt ts k).2.1.toNat:=by
   rw[e1] at e2
   have:[(tieAt ts k).1.toNat]++[w]=p++[(tieAt ts k).2.1.toNat]:=e2
   obtain⟨_,y⟩:=uaf this rfl
   cases y;rfl
  have t1:=bS ok (bI ko) m
  have t2:=bS ok ko (cO hk)
  rw[← eu',← ev',ew,t2] at t1
  have:k=k':=j5 t1
  have h2:=(cW m).2
  exact uf4 (w8.mp h2).2 this.symm
theorem tU {n:Int}{ts:List Tie}{ks:List Nat}{k:Nat}(ok:WebOk n ts)(ko:KeepOk ts.length ks)(hk:k∈ks){ws:List Nat}(mw:Far.MinW (arcsB ts (but ks k)) (tieAt ts k).1.toNat (tieAt ts k).2.1.toNat ws){h:Nat}{tl:List Nat}(ro:Far.RingOf ws h tl):Far.chn (adjK ts ks) (h::tl++[h]):=by
 obtain⟨S,x,y,r,_⟩:=mw
 obtain⟨q,e1⟩:=r.head
 obtain⟨p,e2⟩:=r.foot
 exact ro.chn adjK.sym (r.chn λ u v l k' m=>jL ok ko (λ j hj=>(w8.mp hj).1) (bI ko) m) e1 e2 (adjK.sym _ _ ⟨k,hk,bS ok ko (cO hk)⟩)
theorem kU {ts:List Tie}{ks:List Nat}(ko:KeepOk ts.length ks):∀ {l:List Nat},Far.chn (adjK ts ks) l->linked ts l
 | [],_=>trivial
 | [_],_=>trivial
 | a::b::r,h=>⟨let ⟨k,hk,e⟩:=h.1;⟨k,e,ko.2 k hk⟩,kU ko h.2⟩
def spAlongW (K:a9):Sp:=λ vs H Q _=>∃ (n:Int)(ts:List Tie)(wv:V)(t:j8)(ws:List Nat),vs=[wv,.ref t]/\Is K H (webD n ts) wv/\ts.length<=60/\H t=some (.tup (natV ws))/\ws.length<=25/\linked ts ws/\∀ l H',Same H H'->H' l=some (.lst (natV (alongN ts ws)))->Q (.ref l) H'
def Turn (h:Nat)(tl:List Nat):Prop:=(∀ x∈tl,h<=x)/\∀ u v p q,tl=u::p->tl=q++[v]->u<=v
def spAsRing (K:a9):Sp:=λ vs H Q _=>∃ (t:j8)(ws:List Nat),vs=[.ref t]/\H t=some (.tup (natV ws))/\3<=ws.length/\ws.length<=24/\ws.Nodup/\∀ p h tl H',Same H H'->H' p=some (.tup (natV (h::tl)))->Far.RingOf ws h tl->Turn h tl->Q (.ref p) H'
section
variable {P:j9}{w:v9}{K:a9}{mg:Str->Option b9}{base:Heap}
end
section
variable {X:Cx}{pins:List (j8 × Obj)}{σ:L2.St}{A:v7}{E:b9->c7->Prop}
def KeyV (H:Hp)(v:V)(k:List Int):Prop:=∃ t,v=.ref t/\H t=some (.tup (k.map V.int))
theorem KeyV.same {H H':Hp}{v:V}{k:List Int}(h:KeyV H v k)(S:Same H H'):KeyV H' v k:=let ⟨t,e,q⟩:=h;⟨t,e,S _ _ q⟩
abbrev still (a:j8)(e1:Nat):HO:=.ext λ h=>h.get? a=some (seqObj "list" #[] e1)
end
section
variable {X:Cx}{pins:List (j8 × Obj)}{σ:L2.St}{H:Hp}{s:c7}
def Tb (Pt:j8)(lpos:Pos)(qual:Str)(H:Hp):Prop:=∃ ps,H Pt=some (.tbl ps)/\(ps=#[]\/∃ c',ps=#[rawInt lpos.line,rawInt lpos.col,.ref c']/\H c'=some (.ext λ h=>h.CodeRec (.ref c') qual))
def Tf (Pt:j8)(lpos:Pos)(qual:Str)(H:Hp):Prop:=∃ c',H Pt=some (.tbl #[rawInt lpos.line,rawInt lpos.col,.ref c'])/\H c'=some (.ext λ h=>h.CodeRec (.ref c') qual)
theorem Tf.same {Pt:j8}{lpos:Pos}{qual:Str}{H':Hp}(h:Tf Pt lpos qual H)(S:Same H H'):Tf Pt lpos qual H':=let ⟨c',e,r⟩:=h;⟨c',S _ _ e,S _ _ r⟩
theorem Tb.same {Pt:j8}{lpos:Pos}{qual:Str}{H':Hp}(h:Tb Pt lpos qual H)(S:Same H H'):Tb Pt lpos qual H' :=
 let ⟨ps,e,r⟩:=h;⟨ps,S _ _ e,r.imp id λ ⟨c',e1,e2⟩=>⟨c',e1,S _ _ e2⟩⟩
end
section
variable {P:j9}{w:v9}{K:a9}{mg:Str->Option b9}{base:Heap}{x:Str}{ps N:List Str}{sp:Sp}{k:Nat}{st:ucy}{c:j8}
end
def okey (ts:List Tie)(k:Nat):List Int:=[(tieAt ts k).2.2,(k:Int)]
def OrdOk (ts:List Tie)(os:List Nat):Prop:=os.Perm (c9 ts.length)/\os.Pairwise λ a b=>Srt.lexI (okey ts b) (okey ts a)=false
theorem OrdOk.one {ts:List Tie}{os os':List Nat}(a:OrdOk ts os)(b:OrdOk ts os'):os=os':=by
 refine udm.eq_of_pairwise (le:=λ x y=>Srt.lexI (okey ts y) (okey ts x)=false) (λ x y _ _ h1 h2=>?_) a.2 b.2 (a.1.trans b.1.symm)
 have:=Srt.mV _ _ h2 h1
 unfold okey at this
 injection this with _ h
 injection h with h
 left
end L3
namespace Frs
abbrev T2:=Nat × Nat
inductive Cn (E:List T2)(u:Nat):Nat->Prop
 | nil:Cn E u u
 | snoc {v w:Nat}:Cn E u v->((v,w)∈E\/(w,v)∈E)->Cn E u w
section
variable {E F:List T2}{u v w a b:Nat}
theorem Cn.app (h:Cn E u v)(k:Cn E v w):Cn E u w:=by
 induction k with
 | nil=>exact h
 | snoc _ m ih=>exact .snoc ih m
theorem Cn.back (h:Cn E u v):Cn E v u:=by
 induction h with
 | nil=>exact .nil
 | snoc _ m ih=>exact (Cn.snoc .nil m.symm).app ih
theorem Cn.more (h:Cn E u v)(k:∀ t∈E,t∈F):Cn F u v:=by
 induction h with
 | nil=>exact .nil
 | snoc _ m ih=>exact .snoc ih (m.imp (k _) (k _))
theorem Cn.one (m:(a,b)∈E):Cn E a b:=.snoc .nil (.inl m)
theorem cn_more:Cn (E++[(a,b)]) u v↔Cn E u v\/(Cn E u a/\Cn E b v)\/(Cn E u b/\Cn E a v):=by
 have up:∀ {x y},Cn E x y->Cn (E++[(a,b)]) x y:=λ h=>h.more λ t m=>r8 _ m
 have ab:Cn (E++[(a,b)]) a b:=.one (l4 _ g9)
 constructor
 ·intro h
  induction h with
  | nil=>exact .inl .nil
  | @snoc v w _ m ih =>
   have split:((v,w)∈E\/(w,v)∈E)\/(v=a/\w=b)\/(v=b/\w=a):=by
    rcases m with m | m
    ·rcases l8.mp m with m | m
     ·exact .inl (.inl m)
     ·have:=d8.mp m;cases this;exact .inr (.inl ⟨rfl,rfl⟩)
    ·rcases l8.mp m with m | m
     ·exact .inl (.inr m)
     ·have:=d8.mp m;cases this;exact .inr (.inr ⟨rfl,rfl⟩)
   rcases split with m | ⟨rfl,rfl⟩ | ⟨rfl,rfl⟩
   ·rcases ih with h | ⟨h1,h2⟩ | ⟨h1,h2⟩
    ·exact .inl (.snoc h m)
    ·exact .inr (.inl ⟨h1,.snoc h2 m⟩)
    ·exact .inr (.inr ⟨h1,.snoc h2 m⟩)
   ·rcases ih with h | ⟨h1,h2⟩ | ⟨h1,h2⟩
    ·exact .inr (.inl ⟨h,.nil⟩)
    ·exact .inr (.inl ⟨h1,.nil⟩)
    ·exact .inl h1
   ·rcases ih with h | ⟨h1,h2⟩ | ⟨h1,h2⟩
    ·exact .inr (.inr ⟨h,.nil⟩)
    ·exact .inl h1
    ·exact .inr (.inr ⟨h1,.nil⟩)
 ·rintro (h | ⟨h1,h2⟩ | ⟨h1,h2⟩)
  ·exact up h
  ·exact (up h1).app (ab.app (up h2))
  ·exact (up h1).app (ab.back.app (up h2))
end
def Mk (n:Nat)(E:List T2)(M:List Nat):Prop:=M.length=n/\∀ u v,u<n->v<n->(M.getD u 0=M.getD v 0↔Cn E u v)
def join (M:List Nat)(p q:Nat):List Nat:=M.map λ m=>if m=q then p else m
section
variable {n:Nat}{E:List T2}{M:List Nat}{a b:Nat}
theorem Mk.first:Mk n [] (c9 n):=by
 refine⟨p8,λ u v hu hv=>?_⟩
 have e:∀ {x},x<n->(c9 n).getD x 0=x:=λ h=>by rw[b8,uaw h];rfl
 rw[e hu,e hv]
 constructor
 ·rintro rfl;exact .nil
 ·intro h
  cases h with
  | nil=>rfl
  | snoc _ m=>rcases m with m | m <;> cases m
theorem Mk.same (h:Mk n E M)(ha:a<n)(hb:b<n)(e:M.getD a 0=M.getD b 0):Mk n (E++[(a,b)]) M:=by
 refine⟨h.1,λ u v hu hv=>(h.2 u v hu hv).trans ?_⟩
 rw[cn_more]
 have ab:=(h.2 a b ha hb).mp e
 exact⟨.inl,λ z=>z.elim id λ z=>z.elim (λ z=>z.1.app (ab.app z.2)) λ z=>z.1.app (ab.back.app z.2)⟩
end
end Frs
namespace Peel
abbrev T2:=Nat × Nat
def hit (gone:List Nat)(p:Nat)(t:T2):Bool:=(t.1==p&&!gone.contains t.2)||(t.2==p&&!gone.contains t.1)
def deg (ts:List T2)(gone:List Nat)(p:Nat):Nat:=ts.countP (hit gone p)
def may (ts:List T2)(d:Int)(gone:List Nat)(p:Nat):Bool:=!gone.contains p&&decide ((deg ts gone p:Int)<=d)
def next (n:Nat)(ts:List T2)(d:Int)(gone:List Nat):Option Nat:=(c9 n).find? (may ts d gone)
def run (n:Nat)(ts:List T2)(d:Int):Nat->List Nat->List Nat
 | 0,g=>g
 | f+1,g=>match next n ts d g with
  | none=>g
  | some p=>run n ts d f (g++[p])
section
variable {n:Nat}{ts:List T2}{d:Int}{g:List Nat}{p:Nat}
def Good (n:Nat)(g:List Nat):Prop:=g.Nodup/\∀ p∈g,p<n
theorem dZ:∀ (n:Nat)(g:List Nat),g.Nodup->(∀ p∈g,p<n)->g.length<=n
 | 0,[],_,_=>c8 _
 | 0,p::_,_,h=>absurd (h p g9) (ub0 _)
 | n+1,g,nd,h=>by
  have h1:=dZ n (g.filter λ p=>p != n) (nd.filter _) λ p hp=>by
   have:=w8.mp hp
   have a:=h p this.1
   have b:p≠n:=by simpa using this.2
   left
  have e:g.length=(g.filter λ p=>p != n).length+g.countP (λ p=>p==n):=by
   rw[← List.countP_eq_length_filter]
   have:=List.length_eq_countP_add_countP (λ p=>p==n) (l:=g)
   have e2:g.countP (λ p=>decide ¬(p==n)=true)=g.countP λ p=>p != n:=List.countP_congr λ x _=>by simp
   rw[e2] at this
   left
  have c:g.countP (λ p=>p==n)<=1:=by
   have:=List.nodup_iff_count.mp nd n
   exact this
  left
theorem Good.len (h:Good n g):g.length<=n:=dZ n g h.1 h.2
theorem Good.nil:Good n []:=⟨udi,λ p h=>by cases h⟩
theorem Good.snoc (h:Good n g)(hp:p<n)(np:p∉g):Good n (g++[p]):=by
 refine⟨uax.mpr ⟨h.1,by simp,λ a ha b hb e=>np ?_⟩,λ q hq=>?_⟩
 ·have:b=p:=by simpa using hb
  subst this;subst e;exact ha
 ·rcases l8.mp hq with hq | hq
  ·exact h.2 q hq
  ·have:q=p:=by simpa using hq
   subst this;exact hp
def gone (n:Nat)(ts:List T2)(d:Int):List Nat:=run n ts d n []
end
end Peel
namespace L3
open PySem PySem.Spec PyProof.Rows L2
section
variable {g:TG}{tt:TT}{te:TE}{own:List Str}{js:List Nat}{σ:L2.St}{H1:Hp}{Q:VK}
end
theorem lH {α β:Type}(f:α->Option β)(d:α):∀ ks:List α,(c9 ks.length).filterMap (λ i=>f (ks.getD i d))=ks.filterMap f:=λ ks=>by
 have e:=congrArg (List.filterMap f) (iB ks d)
 rw[ucr] at e
 exact e
def t2 (ts:List Tie)(k:Nat):Frs.T2:=((tieAt ts k).1.toNat,(tieAt ts k).2.1.toNat)
theorem OrdOk.nodup {ts:List Tie}{os:List Nat}(h:OrdOk ts os):os.Nodup:=h.1.nodup_iff.mpr udr
def ahd (ts:List Tie)(j k:Nat):Prop:=Srt.lexI (okey ts j) (okey ts k)=true
theorem ahd.trans {ts:List Tie}{i j k:Nat}(h:ahd ts i j)(h':ahd ts j k):ahd ts i k:=Srt.fT _ _ _ h h'
end L3
namespace HT
open PySem PyProof.Rows
section
open PySem.SeqAt
open PySem.AutoSeq1 (wpAny_loadPart')
open PySem.MeetsSeq PySem.MeetsSeq2 PySem.MeetsSeq3
end
section
variable {prog:j9}{w:v9}{A:v7}{E:b9->c7->Prop}{s:c7}
end
end HT
namespace L3
open PySem PySem.Spec PyProof.Rows L2
section
variable {X:Cx}
end
theorem jC {n:Int}{ts:List Tie}{ks:List Nat}(ok:WebOk n ts)(ko:KeepOk ts.length ks){a b:Nat}{ws S:List Nat}{x y:Int}(r:Far.Rt (arcsB ts ks) a ws S b x y):alongN ts ws=S:=by
 have hl:=r.len
 refine uba λ i=>?_
 unfold alongN
 rw[j3]
 by_cases hi:i<S.length
 ·obtain⟨u,v,l,eu,ev,m⟩:=r.step (i:=i) (k:=S[i]) (b6 hi)
  rw[uaw (by left),b6 hi]
  show some ((tbN ts (ws.getD i 0) (ws.getD (i+1) 0)).getD 0)=some S[i]
  rw[b8,eu,b8,ev]
  show some ((tbN ts u v).getD 0)=some S[i]
  rw[bS ok ko m];rfl
 ·rw[o7 (l:=c9 (ws.length-1)) (by rw[p8];left),o7 (by left)];rfl
end L3
namespace Stb
open PySem
def Asc (xs:Array Nat):Prop:=∀ i j,i<j->j<xs.size->xs.getD i 0<xs.getD j 0
theorem Asc.list {xs:Array Nat}:Asc xs↔xs.toList.Pairwise (·<·):=by
 rw[uas]
 have g:∀ i (h:i<xs.toList.length),xs.getD i 0=xs.toList[i]:=λ i h=>by
  have h':i<xs.size:=by simpa using h
  rw[Array.getD_eq_getD_getElem?,udg h'];simp
 constructor
 ·intro a i j hi hj ij
  have:=a i j ij (by simpa using hj)
  rw[g i hi,g j hj] at this
  exact this
 ·intro a i j ij hj
  have hj':j<xs.toList.length:=by simpa using hj
  have:=a i j (by left) hj' ij
  rw[g i (by left),g j hj']
  exact this
def TI (b:Bool)(t:SetTable):Prop:=Asc t.place/\t.led=b
end Stb
namespace Stb
open PySem PyProof.Rows
def ledOf (w:v9):Bool:=!w.params.followText "set-order"
def TIat (w:v9)(h:Heap)(a:j8):Prop:=∃ o es ep t,h.get? a=some o/\o.data=.set es ep t/\TI (ledOf w) t
abbrev SetT (P:j9)(w:v9)(h:Heap)(a:j8)(S:Int->Bool)(n:Nat):Prop:=h.SetOf (intKind P w) a S n/\TIat w h a
section
variable {prog:j9}{w:v9}{A:v7}{E:b9->c7->Prop}{s:c7}
end
end Stb
namespace Stb
open PySem PyProof.Rows
section
variable {prog:j9}{w:v9}{A:v7}{E:b9->c7->Prop}{s:c7}
end
end Stb
namespace Stb
open PySem PyProof.Rows
theorem sl_next:Slot "set_iterator" "__next__" "set_iterator.__next__":=.of (owner:="set_iterator") (n:="__next__") (by rw[ubt,uaz];kernel_rfl) (by symm) (by symm) (by symm) (by first | exact .inl (by symm) | exact .inr (by symm)) (by rw[ubn];kernel_rfl)
theorem jJ:entryFor table "set_iterator.__next__"=some Builtin.«set_iterator.__next__»:=ueb (by kernel_rfl)
theorem nY:Manifest.owners.lookup (String.ofList ['r','o','t','a','r','e','t','i','_','t','e','s'].reverse)=some Manifest.sig_set_iterator:=by kernel_rfl
theorem jK (a:b9):argsOk "set_iterator.__next__" ⟨[a],[]⟩:=by
 unfold argsOk;rw[ud7 (id:="set_iterator.__next__") (n:=['_','_','t','x','e','n','_','_']) (o:=['r','o','t','a','r','e','t','i','_','t','e','s']) (by kernel_rfl) nY];kernel_rfl
theorem oH:entryFor table "set.__iter__"=some Builtin.«frozenset.__iter__»:=entryFor_alias (id':="frozenset.__iter__") (by kernel_rfl) rfl (by symm) (by kernel_rfl)
section
variable {prog:j9}{w:v9}{A:v7}{E:b9->c7->Prop}{s:c7}
end
end Stb
namespace Stb
open PySem PyProof.Rows
section
variable {prog:j9}{w:v9}{A:v7}{E:b9->c7->Prop}{s:c7}{a I:j8}{es:Array (Int × b9)}{ep:Nat}{t:SetTable}
section
variable {Q:Option b9->c7->Prop}{i:Nat}
end
end
end Stb
namespace Stb
open PySem PyProof.Rows
theorem jF:Slot "set_iterator" "__iter__" "set_iterator.__iter__":=.of (owner:="set_iterator") (n:="__iter__") (by rw[ubt,uaz];kernel_rfl) (by symm) (by symm) (by symm) (by first | exact .inl (by symm) | exact .inr (by symm)) (by rw[ubn];kernel_rfl)
theorem oR (a:b9):argsOk "set_iterator.__iter__" ⟨[a],[]⟩:=by
 unfold argsOk;rw[ud7 (id:="set_iterator.__iter__") (n:=['_','_','r','e','t','i','_','_']) (o:=['r','o','t','a','r','e','t','i','_','t','e','s']) (by kernel_rfl) nY];kernel_rfl
section
variable {prog:j9}{w:v9}{A:v7}{E:b9->c7->Prop}{s:c7}{a I:j8}{es:Array (Int × b9)}{ep:Nat}{t:SetTable}
end
end Stb
namespace Stb
open PySem PyProof.Rows
section
variable {prog:j9}{w:v9}{A:v7}{E:b9->c7->Prop}{s:c7}{a:j8}{es:Array (Int × b9)}{ep:Nat}{t:SetTable}
end
end Stb
namespace Srt
open PySem PySem.Spec PyProof.Rows PySem.W
section
variable {prog:j9}{w:v9}{A:v7}{E:b9->c7->Prop}{s:c7}
end
end Srt
namespace L3
open PySem PySem.Spec PyProof.Rows L2
def SetO (P:j9)(w:v9)(a:j8)(S:Int->Bool)(n:Nat):HO:=.ext λ h=>Stb.SetT P w h a S n
section
variable {X:Cx}
end
theorem gC:∀ a b:List Int,ucm (a.map .int) (b.map .int)=decide (a=b)
 | [],[]=>rfl
 | [],_::_=>rfl
 | _::_,[]=>rfl
 | x::a,y::b=>by
  show (uav (.int x) (.int y)&&ucm (a.map .int) (b.map .int))=_
  rw[gC a b,show uav (.int x) (.int y)=decide (x=y) from rfl]
  by_cases e:x=y
  ·subst e;simp
  ·simp [e]
section
variable {g:TG}{tt:TT}{te:TE}{own:List Str}{js:List Nat}{σ:L2.St}{H1:Hp}{Q:VK}
end
def RowV (lo hi:Nat)(J:Hp)(v:V):Prop:=∃ (p:j8)(ns:List Int),v=.ref p/\J p=some (.tup (ns.map V.int))/\lo<=ns.length/\ns.length<=hi
theorem RowV.tk {lo hi:Nat}{J J':Hp}{v:V}(k:TupKeep J J')(h:RowV lo hi J v):RowV lo hi J' v:=let ⟨p,ns,e,e1,r⟩:=h;⟨p,ns,e,k _ _ e1,r⟩
mutual
theorem Is.tk {K:a9}{H H':Hp}(e:TupKeep H H'):∀ (d:uac){v:V},tupD d=true->Is K H d v->Is K H' d v
 | .none,_,_,h=>h
 | .bool _,_,_,h=>h
 | .int _,_,_,h=>h
 | .str _,_,_,h=>h
 | .tuple ds,_,t,h=>let ⟨q,vs,q1,q2,q3⟩:=h;⟨q,vs,q1,e _ _ q2,IsAll.tk e ds t q3⟩
 | .list ds,_,t,h=>by cases t
 | .dict _,_,t,h=>by cases t
theorem IsAll.tk {K:a9}{H H':Hp}(e:TupKeep H H'):∀ (ds:List uac){vs:List V},tupAll ds=true->IsAll K H ds vs->IsAll K H' ds vs
 | [],_,_,h=>h
 | d::ds,_,t,h=>by
  have t':(tupD d&&tupAll ds)=true:=t
  rw[r6] at t'
  obtain⟨v,r,q1,q2,q3⟩:=h
  exact⟨v,r,q1,Is.tk e d t'.1 q2,IsAll.tk e ds t'.2 q3⟩
end
end L3
namespace Stb
open PySem PyProof.Rows
section
variable {prog:j9}{w:v9}{A:v7}{E:b9->c7->Prop}{s:c7}
end
end Stb
namespace L3
open PySem PySem.Spec PyProof.Rows L2
section
variable {X:Cx}
end
end L3
namespace Far
variable {A:List (Nat × Nat × Int)}{s:Nat}
def Unit1 (A:List (Nat × Nat × Int)):Prop:=∀ u v l,(u,v,l)∈A->l=1
def AtK (A:List (Nat × Nat × Int))(s k v:Nat):Prop:=Walk A s v (k:Int)/\∀ x,Walk A s v x->(k:Int)<=x
theorem Unit1.pos (U:Unit1 A):Pos A:=λ u v l h=>by rw[U u v l h];exact w6 1
theorem Walk.nat (U:Unit1 A){v:Nat}{x:Int}(h:Walk A s v x):∃ k:Nat,x=k:=⟨x.toNat,(v8 (h.nonneg U.pos)).symm⟩
theorem AtK.one {j k v:Nat}(h:AtK A s j v)(h':AtK A s k v):j=k:=by
 have a:=h.2 _ h'.1
 have b:=h'.2 _ h.1
 left
theorem AtK.ex (U:Unit1 A){v:Nat}:∀ (k:Nat),Walk A s v (k:Int)->∃ j,j<=k/\AtK A s j v:=λ k=>by
 induction k using udb with
 | _ k ih =>
  intro h
  by_cases c:∃ x,Walk A s v x/\x<(k:Int)
  ·obtain⟨x,hx,lt⟩:=c
   obtain⟨j,rfl⟩:=hx.nat U
   obtain⟨i,hi,a⟩:=ih j (by left) hx
   exact⟨i,by left,a⟩
  ·exact⟨k,c8 _,h,λ x hx=>by
    rcases Int.lt_or_le x k with z | z
    ·exact absurd ⟨x,hx,z⟩ c
    ·exact z⟩
theorem Walk.last (U:Unit1 A){v:Nat}{x:Int}(h:Walk A s v x):(v=s/\x=0)\/∃ u,Walk A s u (x-1)/\(u,v,1)∈A:=by
 cases h with
 | nil=>exact .inl ⟨rfl,rfl⟩
 | @snoc u v l x h m =>
  have e:=U _ _ _ m
  subst e
  exact .inr ⟨u,by rw[Int.add_sub_cancel];exact h,m⟩
theorem AtK.zero (U:Unit1 A){v:Nat}:AtK A s 0 v↔v=s:=by
 constructor
 ·intro h
  rcases h.1.last U with ⟨e,_⟩ | ⟨u,h',_⟩
  ·exact e
  ·have:=h'.nonneg U.pos
   have:((0:Nat):Int)=0:=rfl
   left
 ·rintro rfl
  exact⟨Walk.nil,λ x hx=>hx.nonneg U.pos⟩
theorem AtK.dst {k v:Nat}(h:AtK A s k v):Dst A s v (some (k:Int)):=⟨λ y e=>(by cases e;exact h.1),λ L hL=>⟨_,rfl,h.2 L hL⟩⟩
theorem AtK.none (U:Unit1 A){v:Nat}(h:∀ k,¬ AtK A s k v):Dst A s v Option.none:=by
 refine⟨λ y e=>(by cases e),λ L hL=>?_⟩
 obtain⟨k,rfl⟩:=hL.nat U
 obtain⟨j,_,a⟩:=AtK.ex U k hL
 exact absurd a (h j)
structure Bfs (A:List (Nat × Nat × Int))(s i:Nat)(D:Nat->Option Nat)(ring:List Nat):Prop where
 found:∀ v d,D v=some d↔AtK A s d v/\d<i
 ring:∀ v,v∈ring↔AtK A s i v
theorem Bfs.start (U:Unit1 A):Bfs A s 0 (λ _=>none) [s]:=⟨λ v d=>by simp,λ v=>by rw[AtK.zero U];simp⟩
end Far
namespace Lr
open Far (chn cA bO dC gX RingOf)
section
variable {R:Nat->Nat->Prop}
theorem gG {R':Nat->Nat->Prop}(h:∀ u v,R u v->R' u v):∀ {l:List Nat},chn R l->chn R' l
 | [],_=>trivial
 | [_],_=>trivial
 | _::_::_,c=>⟨h _ _ c.1,gG h c.2⟩
structure Rg (R:Nat->Nat->Prop)(h:Nat)(tl:List Nat):Prop where
 len:2<=tl.length
 nd:(h::tl).Nodup
 ch:chn R (h::tl++[h])
def Cano (h:Nat)(tl:List Nat):Prop:=(∀ v∈tl,h<v)/\∃ x m y,tl=x::(m++[y])/\x<y
theorem eE {tl:List Nat}(h:2<=tl.length):∃ x m y,tl=x::(m++[y]):=by
 match tl,h with
 | x::y::r,_ =>
  rcases z9 (y::r) with e | ⟨m,z,e⟩
  ·cases e
  ·exact⟨x,m,z,by rw[e,uc0]⟩
theorem iU:∀ {l:List Nat},l≠[]->∃ m∈l,∀ v∈l,m<=v
 | [],h=>absurd rfl h
 | [a],_=>⟨a,g9,λ v hv=>by rw[d8.mp hv];exact c8 _⟩
 | a::b::r,_=>by
  obtain⟨m,hm,h⟩:=iU (l:=b::r) (by simp)
  by_cases c:a<=m
  ·refine⟨a,g9,λ v hv=>?_⟩
   rcases h9.mp hv with z | z
   ·rw[z];exact c8 _
   ·exact o8 c (h v z)
  ·refine⟨m,j4 _ hm,λ v hv=>?_⟩
   rcases h9.mp hv with z | z
   ·rw[z];left
   ·exact h v z
theorem Rg.turn (sy:∀ u v,R u v->R v u){a:Nat}{w:List Nat}(r:Rg R a w){h:Nat}{tl:List Nat}(o:RingOf (a::w) h tl):Rg R h tl:=by
 obtain⟨x,m,y,e⟩:=eE r.len
 have c:=r.ch
 have c0:chn R (a::w):=(bO (l:=a::w) (m:=[]) (x:=a) c |>.1 |> λ _=>by
  rcases z9 w with z | ⟨w',z,ez⟩
  ·rw[z];trivial
  ·rw[ez,uc0] at c ⊢
   have:=(bO (l:=a::w') (x:=z) (m:=[a]) (by simpa using c)).1
   simpa using this)
 have cl:R y a:=by
  rw[e] at c
  have:=(bO (l:=a::x::m) (x:=y) (m:=[a]) (by simpa using c)).2
  exact this.1
 refine⟨?_,o.nodup r.nd,o.chn sy c0 (a:=a) (b:=y) (w1:=w) (w2:=a::x::m) rfl (by rw[e];simp) cl⟩
 have:=o.len
 have:=r.len
 simp at *
 left
theorem Rg.cano (sy:∀ u v,R u v->R v u){a:Nat}{w:List Nat}(r:Rg R a w):∃ h tl,Rg R h tl/\Cano h tl/\tl.length=w.length/\∀ v,v∈h::tl↔v∈a::w:=by
 obtain⟨h,hm,hl⟩:=iU (l:=a::w) (by simp)
 obtain⟨p,q,e⟩:=udf hm
 have fin:∀ tl,RingOf (a::w) h tl->(∀ v∈tl,h<v)/\tl.length=w.length/\∀ v,v∈h::tl↔v∈a::w:=λ tl o=>by
  have nd:=o.nodup r.nd
  refine⟨λ v hv=>?_,?_,λ v=>o.mem⟩
  ·have:=hl v (o.mem.mp (j4 _ hv))
   have ne:h≠v:=λ z=>(j0.mp nd).1 (z ▸ hv)
   left
  ·have:=o.len
   simp at this;left
 have o1:RingOf (a::w) h (q++p):=⟨p,q,e,.inl rfl⟩
 have o2:RingOf (a::w) h (q++p).reverse:=⟨p,q,e,.inr rfl⟩
 have r1:=r.turn sy o1
 obtain⟨x,m,y,e1⟩:=eE r1.len
 have ne:x≠y:=λ z=>by
  have nd:=(j0.mp r1.nd).2
  rw[e1] at nd
  exact (j0.mp nd).1 (by rw[z];simp)
 obtain⟨f1,f2,f3⟩:=fin _ o1
 obtain⟨g1,g2,g3⟩:=fin _ o2
 by_cases lt:x<y
 ·exact⟨h,_,r1,⟨f1,x,m,y,e1,lt⟩,f2,f3⟩
 ·refine⟨h,_,r.turn sy o2,⟨g1,y,m.reverse,x,?_,by left⟩,g2,g3⟩
  rw[e1];simp
theorem jA:∀ {l m:List Nat},chn R (l++m)->chn R l
 | [],_,_=>trivial
 | [_],_,_=>trivial
 | a::b::l,m,h=>⟨h.1,jA (l:=b::l) h.2⟩
def stepW (rows:Nat->List Nat)(w:List Nat):List (List Nat):=((rows (w.getLast?.getD 0)).filter λ o=>decide (w.headD 0<o)&&!decide (o∈w)).map λ o=>w++[o]
def ways (rows:Nat->List Nat)(n:Nat):Nat->List (List Nat)
 | 0=>(c9 n).map λ v=>[v]
 | s+1=>(ways rows n s).flatMap (stepW rows)
structure PW (R:Nat->Nat->Prop)(n:Nat)(w:List Nat):Prop where
 ne:w≠[]
 nd:w.Nodup
 ch:chn R w
 lt:∀ v∈w,v<n
 up:∀ h t,w=h::t->∀ v∈t,h<v
theorem iA {w:List Nat}(h:w≠[]):∃ p x,w=p++[x]:=by
 rcases z9 w with z | ⟨p,x,e⟩
 ·exact absurd z h
 ·exact⟨p,x,by rw[e,uc0]⟩
section
variable {rows:Nat->List Nat}{n:Nat}
theorem mI {w w':List Nat}(hr:∀ u c,c∈rows u↔R u c)(hn:∀ u c,R u c->c<n)(h:PW R n w):w'∈stepW rows w↔∃ o,w'=w++[o]/\PW R n (w++[o]):=by
 obtain⟨p,x,e⟩:=iA h.ne
 have el:w.getLast?.getD 0=x:=by rw[e];simp
 obtain⟨h0,t,e0⟩:∃ h0 t,w=h0::t:=by cases w with
  | nil=>exact absurd rfl h.ne
  | cons a b=>exact⟨a,b,rfl⟩
 have eh:w.headD 0=h0:=by rw[e0];rfl
 unfold stepW
 rw[ua5,el,eh]
 constructor
 ·rintro ⟨o,ho,rfl⟩
  obtain⟨h1,h2⟩:=w8.mp ho
  rw[r6,decide_eq_true_iff,Bool.not_eq_true',decide_eq_false_iff_not] at h2
  have ro:=(hr x o).mp h1
  refine⟨o,rfl,by simp,?_,?_,λ v hv=>?_,λ a b eab v hv=>?_⟩
  ·refine uax.mpr ⟨h.nd,by simp,λ a ha b hb=>?_⟩
   rw[d8.mp hb]
   exact λ z=>h2.2 (z ▸ ha)
  ·have c:=h.ch
   rw[e] at c ⊢
   exact cA (m:=[]) c ro trivial
  ·rcases l8.mp hv with z | z
   ·exact h.lt v z
   ·rw[d8.mp z];exact hn _ _ ro
  ·rw[e0] at eab
   injection eab with q1 q2
   subst q1;subst q2
   rcases l8.mp hv with z | z
   ·exact h.up _ _ e0 v z
   ·rw[d8.mp z];exact h2.1
 ·rintro ⟨o,rfl,k⟩
  refine⟨o,w8.mpr ⟨(hr x o).mpr ?_,?_⟩,rfl⟩
  ·have c:=k.ch
   rw[e] at c
   exact (bO (l:=p) (x:=x) (m:=[o]) (by simpa using c)).2.1
  ·rw[r6,decide_eq_true_iff,Bool.not_eq_true',decide_eq_false_iff_not]
   refine⟨k.up h0 (t++[o]) (by rw[e0];rfl) o (by simp),λ z=>?_⟩
   exact (uax.mp k.nd).2.2 o z o (by simp) rfl
theorem PW.init {w:List Nat}{o:Nat}(hw:w≠[])(h:PW R n (w++[o])):PW R n w :=
 ⟨hw,(uax.mp h.nd).1,jA h.ch,λ v hv=>h.lt v (r8 _ hv),λ a b e v hv=>h.up a (b++[o]) (by rw[e];rfl) v (r8 _ hv)⟩
theorem eC (hr:∀ u c,c∈rows u↔R u c)(hn:∀ u c,R u c->c<n):∀ (s:Nat)(w:List Nat),w∈ways rows n s↔w.length=s+1/\PW R n w
 | 0,w=>by
  unfold ways
  rw[ua5]
  constructor
  ·rintro ⟨v,hv,rfl⟩
   exact⟨rfl,by simp,by simp,trivial,λ u hu=>by rw[d8.mp hu];exact o9.mp hv,λ a b e u hu=>by injection e with _ e;subst e;cases hu⟩
  ·rintro ⟨l,h⟩
   match w,l with
   | [v],_=>exact⟨v,o9.mpr (h.lt v g9),rfl⟩
 | s+1,w=>by
  show w∈(ways rows n s).flatMap (stepW rows)↔_
  rw[uc3]
  constructor
  ·rintro ⟨u,hu,hw⟩
   obtain⟨lu,pu⟩:=(eC hr hn s u).mp hu
   obtain⟨o,rfl,k⟩:=(mI hr hn pu).mp hw
   exact⟨by rw[d6,lu];rfl,k⟩
  ·rintro ⟨l,h⟩
   obtain⟨u,o,rfl⟩:=iA h.ne
   rw[d6,o6] at l
   have hu:u≠[]:=λ z=>by rw[z] at l;cases l
   have pu:=h.init hu
   exact⟨u,(eC hr hn s u).mpr ⟨by left,pu⟩,(mI hr hn pu).mpr ⟨o,rfl,h⟩⟩
end
end
end Lr
namespace Lr
open Far (chn cA bO dC gX RingOf)
def lle:List Nat->List Nat->Prop
 | [],_=>True
 | _::_,[]=>False
 | a::l,b::m=>a<b\/(a=b/\lle l m)
theorem mS:∀ {l m:List Nat}{x y:Nat},l.length=m.length->lle (l++[x]) (m++[y])->lle l m
 | [],_,_,_,_,_=>trivial
 | a::l,[],_,_,e,_=>by cases e
 | a::l,b::m,x,y,e,h=>h.imp id λ z=>⟨z.1,mS (by simpa using e) z.2⟩
section
variable {R:Nat->Nat->Prop}
structure Sh (R:Nat->Nat->Prop)(z v:Nat)(l:List Nat):Prop where
 ch:chn R (v::l)
 last:(v::l).getLast?=some z
 min:∀ l',chn R (v::l')->(v::l').getLast?=some z->l.length<=l'.length
theorem iH {u v:Nat}{l:List Nat}:(v::u::l).getLast?=(u::l).getLast?:=by simp
theorem Sh.tail {z v u:Nat}{l:List Nat}(h:Sh R z v (u::l)):Sh R z u l :=
 ⟨h.ch.2,by rw[← iH (v:=v)];exact h.last,λ l' c e=>by
  have:=h.min (u::l') ⟨h.ch.1,c⟩ (by rw[iH];exact e)
  simpa using this⟩
theorem Sh.nodup {z:Nat}:∀ {l:List Nat}{v:Nat},Sh R z v l->(v::l).Nodup
 | [],v,_=>by simp
 | u::l,v,h=>by
  refine j0.mpr ⟨λ m=>?_,h.tail.nodup⟩
  obtain⟨p,q,e⟩:=udf m
  have c:=h.ch
  have la:=h.last
  rw[e] at c la
  have c2:chn R (v::q):=(bO (l:=v::p) (x:=v) (m:=q) (by simpa using c)).2
  have l2:(v::q).getLast?=some z:=by
   rw[← la,← List.cons_append,List.getLast?_append]
   have:(v::q).getLast?=some ((v::q).getLast (by simp)):=ue3 (by simp)
   rw[this];rfl
  have:=h.min q c2 l2
  have le:=congrArg List.length e
  simp only [d6,k9] at this le
  left
def Ds (R:Nat->Nat->Prop)(z:Nat)(D:Nat->Option Nat):Prop:=∀ v,(∀ m,D v=some m->∃ l,chn R (v::l)/\(v::l).getLast?=some z/\l.length=m)/\∀ l,chn R (v::l)->(v::l).getLast?=some z->∃ m,D v=some m/\m<=l.length
def Rm (R:Nat->Nat->Prop)(a b u v:Nat):Prop:=R u v/\¬ (u=a/\v=b)/\¬ (u=b/\v=a)
theorem Rm.sy (sy:∀ u v,R u v->R v u){a b:Nat}(u v:Nat)(h:Rm R a b u v):Rm R a b v u:=⟨sy _ _ h.1,λ z=>h.2.2 ⟨z.2,z.1⟩,λ z=>h.2.1 ⟨z.2,z.1⟩⟩
theorem oO {R':Nat->Nat->Prop}{z:Nat}:∀ {l:List Nat},(∀ u v,u∈l->R u v->R' u v)->chn R (l++[z])->chn R' (l++[z])
 | [],_,_=>trivial
 | [a],h,c=>⟨h _ _ g9 c.1,trivial⟩
 | a::b::l,h,c=>⟨h _ _ g9 c.1,oO (l:=b::l) (λ u v hu=>h u v (j4 _ hu)) c.2⟩
theorem Rg.round {h x:Nat}{t:List Nat}(r:Rg R h (x::t)):chn (Rm R h x) (x::(t++[h]))/\(x::(t++[h])).getLast?=some h/\R h x:=by
 have nd:=r.nd
 have c:=r.ch
 have hx:h∉x::t:=(j0.mp nd).1
 have xt:x∉t:=(j0.mp (j0.mp nd).2).1
 refine⟨?_,by rw[← List.cons_append,List.getLast?_append];simp,c.1⟩
 have len:=r.len
 match t,len with
 | y::t',_ =>
  have c2:chn R (x::y::t'++[h]):=c.2
  refine⟨⟨c2.1,λ z=>hx (by rw[← z.1];simp),λ z=>hx (by rw[← z.2];simp)⟩,?_⟩
  refine oO (l:=y::t') (λ u v hu ruv=>⟨ruv,λ z=>hx (by rw[← z.1];exact j4 _ hu),λ z=>xt (by rw[← z.1];exact hu)⟩) c2.2
theorem Sh.ring {a b:Nat}{l:List Nat}(ab:R a b)(ne:a≠b)(s:Sh (Rm R a b) a b l):∃ m,l=m++[a]/\Rg R a (b::m):=by
 have la:=s.last
 cases l with
 | nil=>exact absurd (by simpa using la.symm) ne
 | cons y t =>
  obtain⟨m,x,e⟩:=iA (w:=y::t) (by simp)
  have ex:x=a:=by
   rw[iH,e] at la
   simpa using la
  subst ex
  refine⟨m,e,?_⟩
  have c:=s.ch
  rw[e] at c
  have nd:=s.nodup
  rw[e] at nd
  refine⟨?_,?_,?_⟩
  ·cases m with
   | nil=>exact absurd ⟨rfl,rfl⟩ c.1.2.2
   | cons _ _=>simp
  ·have p:(x::b::m).Perm (b::(m++[x])):=(List.perm_append_singleton x (b::m)).symm.trans (by simp)
   exact p.nodup_iff.mpr nd
  ·exact⟨ab,gG (λ u v h=>h.1) c⟩
end
end Lr
namespace Lr
open Far (chn cA bO dC gX RingOf)
structure Ties (R:Nat->Nat->Prop)(ks:List Nat)(ends:Nat->Nat × Nat):Prop where
 sy:∀ u v,R u v->R v u
 of:∀ k∈ks,(ends k).1<(ends k).2/\R (ends k).1 (ends k).2
 to:∀ u v,R u v->u<v->∃ k∈ks,ends k=(u,v)
 up:∀ k∈ks,∀ j∈ks,k<=j->(ends k).1<(ends j).1\/((ends k).1=(ends j).1/\(ends k).2<=(ends j).2)
section
variable {R:Nat->Nat->Prop}{ks:List Nat}{ends:Nat->Nat × Nat}
theorem Ties.first (T:Ties R ks ends){h:Nat}{tl:List Nat}(r:Rg R h tl)(up:∀ v∈tl,h<v):∃ k∈ks,∃ x t,tl=x::t/\ends k=(h,x)/\chn (Rm R (ends k).1 (ends k).2) ((ends k).2::(t++[h]))/\((ends k).2::(t++[h])).getLast?=some (ends k).1/\(t++[h]).length=tl.length:=by
 obtain⟨x,m,y,e⟩:=eE r.len
 rw[e] at r
 obtain⟨c,la,rx⟩:=r.round
 obtain⟨k,hk,ek⟩:=T.to h x rx (up x (by rw[e];exact g9))
 refine⟨k,hk,x,m++[y],e,ek,?_,?_,?_⟩
 ·rw[ek];exact c
 ·rw[ek];exact la
 ·rw[e];simp
theorem Ties.none (T:Ties R ks ends)(hno:∀ k∈ks,∀ l,chn (Rm R (ends k).1 (ends k).2) ((ends k).2::l)->((ends k).2::l).getLast?=some (ends k).1->False)(h:Nat)(tl:List Nat):¬ Rg R h tl:=λ r=>by
 obtain⟨h',tl',r',cn,_⟩:=r.cano T.sy
 obtain⟨k,hk,x,t,_,_,c,la,_⟩:=T.first r' cn.1
 exact hno k hk _ c la
theorem Ties.least (T:Ties R ks ends){k0:Nat}(hk0:k0∈ks){l:List Nat}(sh:Sh (Rm R (ends k0).1 (ends k0).2) (ends k0).1 (ends k0).2 l)(lx:∀ l',Sh (Rm R (ends k0).1 (ends k0).2) (ends k0).1 (ends k0).2 l'->lle l l')
  (hm:∀ k∈ks,∀ l',chn (Rm R (ends k).1 (ends k).2) ((ends k).2::l')->((ends k).2::l').getLast?=some (ends k).1->l.length<=l'.length/\(k<k0->l.length<l'.length)) :
  ∃ m,l=m++[(ends k0).1]/\Rg R (ends k0).1 ((ends k0).2::m)/\Cano (ends k0).1 ((ends k0).2::m)/\(∀ h tl,Rg R h tl->((ends k0).2::m).length<=tl.length)/\∀ h tl,Rg R h tl->Cano h tl->tl.length=((ends k0).2::m).length->lle ((ends k0).1::(ends k0).2::m) (h::tl):=by
 obtain⟨ab,rab⟩:=T.of k0 hk0
 obtain⟨m,em,rg⟩:=sh.ring rab (l9 ab)
 have ll:l.length=((ends k0).2::m).length:=by rw[em];simp
 have low:∀ h tl,Rg R h tl->(∀ v∈tl,h<v)->l.length<=tl.length/\(tl.length=l.length->∃ x t,tl=x::t/\((ends k0).1<h\/((ends k0).1=h/\(ends k0).2<=x))/\(x=(ends k0).2->h=(ends k0).1->Sh (Rm R (ends k0).1 (ends k0).2) (ends k0).1 (ends k0).2 (t++[h]))):=λ h tl r up=>by
  obtain⟨k,hk,x,t,e,ek,c,la,len⟩:=T.first r up
  have q:=hm k hk _ c la
  rw[len] at q
  refine⟨q.1,λ el=>⟨x,t,e,?_,λ ex eh=>?_⟩⟩
  ·have le:k0<=k:=udw λ z=>by have:=q.2 z;left
   have:=T.up k0 hk0 k hk le
   rw[ek] at this
   exact this
  ·rw[ek] at c la
   simp only at c la
   rw[ex,eh] at c la
   refine⟨?_,?_,λ l' c' e'=>?_⟩
   ·rw[eh];exact c
   ·rw[eh];exact la
   ·have:=(hm k0 hk0 l' c' e').1
    rw[len,el];exact this
 have least:∀ v∈(ends k0).2::m,(ends k0).1<v:=by
  obtain⟨h',tl',r',cn,len,mem⟩:=rg.cano T.sy
  obtain⟨_,q⟩:=low h' tl' r' cn.1
  obtain⟨x,t,e,o,_⟩:=q (by rw[len,ll])
  have ha:(ends k0).1∈h'::tl':=(mem _).mpr g9
  have hle:h'<=(ends k0).1:=by
   rcases h9.mp ha with z | z
   ·rw[z];exact c8 _
   ·exact uc2 (cn.1 _ z)
  have eh:h'=(ends k0).1:=by left
  intro v hv
  have hv':v∈h'::tl':=(mem v).mpr (j4 _ hv)
  rcases h9.mp hv' with z | z
  ·exfalso
   rw[eh] at z
   exact (j0.mp rg.nd).1 (z ▸ hv)
  ·rw[← eh];exact cn.1 v z
 obtain⟨x,m',y,e⟩:=eE rg.len
 have ex:x=(ends k0).2:=by injection e with e _;exact e.symm
 have r2:Rg R (ends k0).1 ((ends k0).2::m).reverse:=rg.turn T.sy ⟨[],(ends k0).2::m,rfl,.inr (by simp)⟩
 have cano:Cano (ends k0).1 ((ends k0).2::m):=by
  refine⟨least,x,m',y,e,?_⟩
  obtain⟨_,q⟩:=low _ _ r2 λ v hv=>least v (ua4.mp hv)
  obtain⟨x2,t,e2,o,_⟩:=q (by rw[u7,ll])
  have ey:x2=y:=by
   rw[e] at e2
   simp at e2
   exact e2.1.symm
  have nd:=(j0.mp rg.nd).2
  rw[e] at nd
  have ne:x≠y:=λ z=>(j0.mp nd).1 (by rw[z];simp)
  left
 refine⟨m,em,rg,cano,λ h tl r=>?_,λ h tl r cn el=>?_⟩
 ·obtain⟨h',tl',r',cn,len,_⟩:=r.cano T.sy
  have:=(low h' tl' r' cn.1).1
  left
 ·obtain⟨_,q⟩:=low h tl r cn.1
  obtain⟨x,t,e,o,s2⟩:=q (by left)
  rcases o with o | ⟨o1,o2⟩
  ·exact .inl o
  ·refine .inr ⟨o1,?_⟩
   rw[e]
   rcases Nat.lt_or_eq_of_le o2 with z | z
   ·exact .inl z
   ·refine .inr ⟨z,?_⟩
    have:=lx _ (s2 z.symm o1.symm)
    rw[em] at this
    refine mS ?_ this
    rw[e] at el
    simpa using el.symm
end
def isRing (rows:Nat->List Nat)(w:List Nat):Bool:=decide (2<w.length)&&(decide (w.getD 1 0<w.getLast?.getD 0)&&decide (w.getD 0 0∈rows (w.getLast?.getD 0)))
section
variable {R:Nat->Nat->Prop}{rows:Nat->List Nat}{n:Nat}
theorem lO (p:List Nat)(z:Nat):(p++[z]).getLast?.getD 0=z:=by simp
theorem mM (sy:∀ u v,R u v->R v u)(hr:∀ u c,c∈rows u↔R u c)(hn:∀ u c,R u c->c<n)(s:Nat)(w:List Nat):(w∈ways rows n s/\isRing rows w=true)↔∃ h tl,w=h::tl/\tl.length=s/\Rg R h tl/\Cano h tl:=by
 constructor
 ·rintro ⟨h1,h2⟩
  obtain⟨lw,p⟩:=(eC hr hn s w).mp h1
  unfold isRing at h2
  rw[r6,r6,decide_eq_true_iff,decide_eq_true_iff,decide_eq_true_iff] at h2
  obtain⟨l2,lt,cl⟩:=h2
  match w,l2 with
  | h::x::y::t,_ =>
   obtain⟨x',m,z,e⟩:=eE (tl:=x::y::t) (by simp)
   have ex:x=x':=by injection e
   subst ex
   have ez:(h::x::y::t).getLast?.getD 0=z:=by rw[e];exact lO (h::x::m) z
   rw[ez] at lt cl
   have rz:=(hr z h).mp cl
   refine⟨h,x::y::t,rfl,by simpa using lw,⟨by simp,p.nd,?_⟩,⟨p.up h _ rfl,x,m,z,e,lt⟩⟩
   have c:=p.ch
   rw[e] at c ⊢
   have:=cA (l:=h::x::m) (m:=[]) (x:=z) (y:=h) (by simpa using c) rz trivial
   simpa using this
 ·rintro ⟨h,tl,rfl,ls,r,cn⟩
  obtain⟨up,x,m,y,e,lt⟩:=cn
  have c:=r.ch
  have c0:chn R (h::tl):=jA (m:=[h]) (by simpa using c)
  have cl:R y h:=by
   rw[e] at c
   exact (bO (l:=h::x::m) (x:=y) (m:=[h]) (by simpa using c)).2.1
  have all:∀ v∈h::tl,v<n:=λ v hv=>by
   rcases h9.mp hv with z | z
   ·rw[z];exact hn _ _ cl
   ·obtain⟨p,q,ep⟩:=udf z
    have c1:=c0
    rw[ep] at c1
    rcases z9 p with ez | ⟨p',u,ez⟩
    ·rw[ez] at c1
     exact hn _ _ c1.1
    ·rw[ez,uc0] at c1
     have:=(bO (l:=h::p') (x:=u) (m:=v::q) (by simpa using c1)).2
     exact hn _ _ this.1
  refine⟨(eC hr hn s _).mpr ⟨by simp [ls],by simp,r.nd,c0,all,λ a b e v hv=>by injection e with e1 e2;subst e1;subst e2;exact up v hv⟩,?_⟩
  have ez:(h::tl).getLast?.getD 0=y:=by rw[e];exact lO (h::x::m) y
  have ex:(h::tl).getD 1 0=x:=by rw[e];rfl
  unfold isRing
  rw[ez,ex,r6,r6,decide_eq_true_iff,decide_eq_true_iff,decide_eq_true_iff]
  exact⟨by have:=r.len;simp;left,lt,(hr y h).mpr cl⟩
end
end Lr
namespace L3
open PySem PySem.Spec PyProof.Rows L2
section
variable {own:List Str}{js:List Nat}{g:TG}{te:TE}{σ:L2.St}{Q:VK}{H1:Hp}
theorem tE {lo:Int}{n:Nat}(Sg:L2.St->Prop)(hn:n<=1000)(h0:Sg (start3 own js σ))
  (step:∀ i σ' H',i<n->Same H1 H'->Sg σ'->∀ C:L2.St->V->Hp->Prop,(∀ σ3 l H5,Sg σ3->Same H' H5->H' l=none->H5 l=some (.lst [])->C σ3 (.ref l) H5)->g (.int (lo+i)) σ' H' λ σ3 H3=>te σ3 H3 λ v H5=>C σ3 v H5)
  (fin:∀ D (as:List j8) H',H1 D=none->Same H1 H'->H' D=some (.lst (as.map V.ref))->as.length=n->as.Nodup->D∉as->(∀ a∈as,H1 a=none/\H' a=some (.lst []))->Q (.ref D) H'):CompGo own js g tTrue te σ Q (Itr lo n) H1:=by
 intro D hD
 refine⟨λ i m ys σ' H'=>m=n-i/\i<=n/\Sg σ'/\Same H1 H'/\∃ as:List j8,ys=as.map V.ref/\as.length=i/\as.Nodup/\D∉as/\∀ a∈as,H1 a=none/\H' a=some (.lst []),⟨n,rfl,v4 _,h0,aS hD,[],rfl,rfl,udi,(by simp),λ a h=>by cases h⟩,?_⟩
 rintro i m ys σ' H' ⟨rfl,hi,sg,sm,as,rfl,hl,nd,nD,hr⟩ hd
 have lys:(as.map V.ref).length=as.length:=c6 _
 by_cases hlt:i<n
 ·refine .inr ⟨hlt,λ x H2 hy=>?_⟩
  obtain⟨rfl,rfl⟩:=hy
  refine step i σ' _ hlt sm sg (λ σ3 v H5=>H5 D=some (.lst (as.map V.ref))/\(as.map V.ref).length<m3/\∃ m',m'<n-i/\(m'=n-(i+1)/\i+1<=n/\Sg σ3/\Same H1 (upd H5 D (.lst (as.map V.ref++[v])))/\∃ bs:List j8,as.map V.ref++[v]=bs.map V.ref/\bs.length=i+1/\bs.Nodup/\D∉bs/\∀ a∈bs,H1 a=none/\upd H5 D (.lst (as.map V.ref++[v])) a=some (.lst []))) λ σ3 l H5 sg3 s5 fl hL=>?_
  have hd5:=s5 _ _ hd
  have nlD:l≠D:=λ z=>by rw[z,hd] at fl;cases fl
  have nla:l∉as:=λ z=>by rw[(hr l z).2] at fl;cases fl
  refine⟨hd5,uak (by left:(as.map V.ref).length<=1000) (by decide),n-(i+1),by left,rfl,hlt,sg3,λ b o e=>?_,as++[l],by rw[o3];rfl,by rw[d6,hl];rfl,?_,?_,λ a ha=>?_⟩
  ·rw[aG (aV e hD)];exact s5 _ _ (sm _ _ e)
  ·exact uax.mpr ⟨nd,(by simp),λ a ha b hb e=>by
    have:b=l:=by simpa using hb
    subst this;subst e;exact nla ha⟩
  ·intro z
   rcases l8.mp z with z | z
   ·exact nD z
   ·exact nlD (d8.mp z).symm
  ·rcases l8.mp ha with z | z
   ·have ne:a≠D:=λ x=>nD (x ▸ z)
    exact⟨(hr a z).1,by rw[aG ne];exact s5 _ _ (hr a z).2⟩
   ·have:a=l:=d8.mp z
    subst this
    exact⟨sm.free fl,by rw[aG nlD];exact hL⟩
 ·have e:i=n:=by left
  subst e
  exact .inl ⟨c8 _,fin D as H' hD sm hd hl nd nD hr⟩
end
structure Bes (H:Hp)(l:j8)(as:List j8)(rows:Nat->List V):Prop where
 top:H l=some (.lst (as.map V.ref))
 nd:as.Nodup
 own:l∉as
 row:∀ i a,as[i]?=some a->H a=some (.lst (rows i))
theorem Bes.new {H:Hp}{l:j8}{as:List j8}(h:H l=some (.lst (as.map V.ref)))(nd:as.Nodup)(no:l∉as)(r:∀ a∈as,H a=some (.lst [])):Bes H l as λ _=>[]:=⟨h,nd,no,λ _ a e=>r a (i9 e)⟩
theorem Bes.same {H H':Hp}{l:j8}{as:List j8}{rows:Nat->List V}(b:Bes H l as rows)(S:Same H H'):Bes H' l as rows:=⟨S _ _ b.top,b.nd,b.own,λ i a e=>S _ _ (b.row i a e)⟩
theorem Bes.ix {H:Hp}{l:j8}{as:List j8}{rows:Nat->List V}(b:Bes H l as rows){i:Nat}(h:i<as.length):∃ a,as[i]?=some a/\(as.map V.ref)[i]?=some (.ref a)/\H a=some (.lst (rows i)):=by
 refine⟨as[i],b6 h,by rw[j3,b6 h];rfl,b.row i _ (b6 h)⟩
theorem Bes.put {H H':Hp}{l:j8}{as:List j8}{rows:Nat->List V}(b:Bes H l as rows){i:Nat}{a:j8}{xs:List V}(ha:as[i]?=some a)(B:But a H H')(e:H' a=some (.lst xs)):Bes H' l as λ j=>if j=i then xs else rows j:=by
 have nl:l≠a:=λ z=>b.own (z ▸ i9 ha)
 refine⟨B _ _ nl b.top,b.nd,b.own,λ j c hc=>?_⟩
 by_cases z:j=i
 ·subst z
  rw[hc] at ha;cases ha
  rw[uf7 rfl];exact e
 ·rw[uf8 z]
  refine B _ _ (λ x=>z ?_) (b.row j c hc)
  subst x
  obtain⟨h1,e1⟩:=i3.mp hc
  obtain⟨h2,e2⟩:=i3.mp ha
  have pw:=uas.mp b.nd
  rcases ubb j i with z | z | z
  ·exact absurd (e1.trans e2.symm) (pw j i h1 h2 z)
  ·exact z
  ·exact absurd (e2.trans e1.symm) (pw i j h2 h1 z)
theorem mE {n:Int}{ts:List Tie}(ok:WebOk n ts){k k' a b:Nat}{l l':Int}(hk:k<ts.length)(hk':k'<ts.length)(h:(a,b,l)∈arcs2 (tieAt ts k))(h':(a,b,l')∈arcs2 (tieAt ts k')):k=k':=by
 have t1:=ok.tie _ (aZ hk).2
 have t2:=ok.tie _ (aZ hk').2
 have E:=λ z=>yZ t1.1 t1.2.1 t2.1 t2.2.1 z
 have e:(tieAt ts k).1=(tieAt ts k').1/\(tieAt ts k).2.1=(tieAt ts k').2.1:=by
  rcases arcs2_mem.mp h with e | e <;> rcases arcs2_mem.mp h' with e' | e' <;> injection e with e1 e2 <;> injection e2 with e2 _ <;> injection e' with e3 e4 <;> injection e4 with e4 _
  ·exact E (.inl ⟨e1.symm.trans e3,e2.symm.trans e4⟩)
  ·exact E (.inr ⟨e1.symm.trans e3,e2.symm.trans e4⟩)
  ·exact E (.inr ⟨e2.symm.trans e4,e1.symm.trans e3⟩)
  ·exact E (.inl ⟨e2.symm.trans e4,e1.symm.trans e3⟩)
 exact mF ok hk hk' e.1 e.2
def Uniq (ts:List Tie)(ks:List Nat)(j m:Nat):Prop:=∃ cs:List Nat,cs.Nodup/\cs.length=m/\∀ c∈cs,∃ k∈ks,∃ l,(j,c,l)∈arcs2 (tieAt ts k)
theorem Uniq.nil {ts:List Tie}{ks:List Nat}{j:Nat}:Uniq ts ks j 0:=⟨[],udi,rfl,λ c h=>by cases h⟩
theorem Uniq.same {ts:List Tie}{ks ks':List Nat}{j m:Nat}(h:Uniq ts ks j m)(s:∀ k∈ks,k∈ks'):Uniq ts ks' j m:=let ⟨cs,h1,h2,h3⟩:=h;⟨cs,h1,h2,λ c hc=>let ⟨k,hk,r⟩:=h3 c hc;⟨k,s k hk,r⟩⟩
theorem Uniq.more {n:Int}{ts:List Tie}{ks:List Nat}{j m c k:Nat}{l:Int}(ok:WebOk n ts)(ko:∀ k∈ks,k<ts.length)(hk:k<ts.length)(nk:k∉ks)(h:Uniq ts ks j m)(e:(j,c,l)∈arcs2 (tieAt ts k)):Uniq ts (ks++[k]) j (m+1):=by
 obtain⟨cs,h1,h2,h3⟩:=h
 have nc:c∉cs:=λ z=>by
  obtain⟨k',hk',l',e'⟩:=h3 c z
  exact nk (mE ok hk (ko k' hk') e e' ▸ hk')
 refine⟨cs++[c],uax.mpr ⟨h1,(by simp),λ a ha b hb x=>?_⟩,by rw[d6,h2];rfl,λ d hd=>?_⟩
 ·have:b=c:=by simpa using hb
  subst this;subst x;exact nc ha
 ·rcases l8.mp hd with z | z
  ·obtain⟨k',hk',r⟩:=h3 d z
   exact⟨k',r8 _ hk',r⟩
  ·rw[d8.mp z]
   exact⟨k,l4 _ g9,l,e⟩
section
variable {X:Cx}
inductive rExtendB_i  (x:V) (vs:List V) (H:Hp) (Q:VK):Prop
 | mk:∀ l b xs zs,(x=.ref l)->(vs=[.ref b])->(H l=some (.lst xs))->(H b=some (.lst zs))->(xs.length+zs.length<=10^7)->(∀ H',But l H H'->H' l=some (.lst (xs++zs))->Q .non H')->rExtendB_i x vs H Q
def rExtendB :V->List V->Hp->VK->Prop:=λ x vs H Q=>rExtendB_i x vs H Q
theorem kQ:MtM X "list.extend" rExtendB:=by
 intro pins s σ H x vs v us Q I rx rv h
 obtain⟨l,b,xs,zs,rfl,rfl,hH,hB,hz,q⟩:=h
 exact vJ (X:=X) pins s σ H _ _ v us Q I rx rv ⟨l,b,xs,zs,rfl,rfl,hH,hB,o8 hz (by decide),q _ But.upd aK⟩
end
def Adj (ts:List Tie)(ks:List Nat)(u v:Nat):Prop:=∃ k∈ks,(u,v,(tieAt ts k).2.2)∈arcs2 (tieAt ts k)
def en (ts:List Tie)(k:Nat):Nat × Nat:=((tieAt ts k).1.toNat,(tieAt ts k).2.1.toNat)
def ones (ts:List Tie):List Tie:=ts.map λ t=>(t.1,t.2.1,1)
section
variable {n:Int}{ts:List Tie}{ks:List Nat}{u v k:Nat}
theorem a2_iff {t:Tie}:(u,v,t.2.2)∈arcs2 t↔(u=t.1.toNat/\v=t.2.1.toNat)\/(u=t.2.1.toNat/\v=t.1.toNat):=by
 rw[arcs2_mem]
 refine or_congr ⟨λ e=>?_,λ e=>by rw[e.1,e.2]⟩ ⟨λ e=>?_,λ e=>by rw[e.1,e.2]⟩ <;> (injection e with e1 e2;injection e2 with e2 _;exact⟨e1,e2⟩)
theorem pL (u v:Nat)(h:Adj ts ks u v):Adj ts ks v u:=by
 obtain⟨k,hk,m⟩:=h
 exact⟨k,hk,a2_iff.mpr ((a2_iff.mp m).symm.imp (λ z=>⟨z.2,z.1⟩) λ z=>⟨z.2,z.1⟩)⟩
theorem pM (ok:WebOk n ts)(ko:KeepOk ts.length ks)(u v:Nat)(h:Adj ts ks u v):v<n.toNat:=by
 obtain⟨k,hk,m⟩:=h
 exact (zD ok ko _ _ _ (arcs_mem.mpr ⟨k,hk,m⟩)).2
theorem pQ (ok:WebOk n ts)(hk:k<ts.length):(en ts k).1<(en ts k).2/\(en ts k).2<n.toNat/\(((en ts k).1:Nat):Int)=(tieAt ts k).1/\(((en ts k).2:Nat):Int)=(tieAt ts k).2.1:=by
 have tk:=ok.tie _ (aZ hk).2
 unfold en
 simp only
 left
end
theorem fY {K:a9}{H:Hp}{p:j8}{ks:List Nat}(h:H p=some (.tup (natV ks))):Is K H (keepD ks) (.ref p):=⟨p,_,rfl,h,by rw[bN];exact IsAll.ints _⟩
def IsLR (ts:List Tie)(ks:List Nat)(h:Nat)(tl:List Nat):Prop:=Lr.Rg (Adj ts ks) h tl/\Lr.Cano h tl/\(∀ h' tl',Lr.Rg (Adj ts ks) h' tl'->tl.length<=tl'.length)/\∀ h' tl',Lr.Rg (Adj ts ks) h' tl'->Lr.Cano h' tl'->tl'.length=tl.length->Lr.lle (h::tl) (h'::tl')
theorem mT:∀ {l m:List Nat},l.length=m.length->Lr.lle l m->Lr.lle m l->l=m
 | [],[],_,_,_=>rfl
 | [],_::_,e,_,_=>by cases e
 | _::_,[],e,_,_=>by cases e
 | a::l,b::m,e,h1,h2=>by
  rcases h1 with z | ⟨z,h1⟩
  ·rcases h2 with y | ⟨y,_⟩ <;> left
  ·subst z
   rcases h2 with y | ⟨_,h2⟩
   ·left
   ·rw[mT (by simpa using e) h1 h2]
theorem IsLR.one {ts:List Tie}{ks:List Nat}{h h':Nat}{tl tl':List Nat}(a:IsLR ts ks h tl)(b:IsLR ts ks h' tl'):h::tl=h'::tl':=by
 have l1:=a.2.2.1 _ _ b.1
 have l2:=b.2.2.1 _ _ a.1
 have e:tl.length=tl'.length:=Nat.le_antisymm l1 l2
 exact mT (by simp [e]) (a.2.2.2 _ _ b.1 b.2.1 e.symm) (b.2.2.2 _ _ a.1 a.2.1 e)
section
variable {J:It}{g:TG}{tt:TT}{te:TE}{own:List Str}{js:List Nat}{σ:L2.St}{H1:Hp}{Q:VK}
theorem vU (n:Nat)(Sg:L2.St->Prop)(sel:Nat->Option V)(hn:n<=1000000)(h0:Sg (start3 own js σ))
  (go:∀ i H',i<n->Same H1 H'->J.go i H') (stop:∀ H',Same H1 H'->J.stop n H')
  (step:∀ i x σ' H' H2,i<n->Same H1 H'->J.yld i H' x H2->Sg σ'->∀ (C:L2.St->V->Hp->Prop)(L:L2.St->Hp->Prop),(∀ σ3 v H5,Sg σ3->Same H' H5->sel i=some v->C σ3 v H5)->(∀ σ3 H5,Sg σ3->Same H' H5->sel i=none->L σ3 H5) ->
   g x σ' H2 λ σ3 H3=>tt σ3 H3 λ b H4=>if b=true then te σ3 H4 λ v H5=>C σ3 v H5 else L σ3 H4)
  (fin:∀ D H',H1 D=none->Same H1 H'->H' D=some (.lst ((c9 n).filterMap sel))->Q (.ref D) H'):CompGo own js g tt te σ Q J H1:=by
 intro D hD
 refine⟨λ i m ys σ' H'=>m=n-i/\i<=n/\Sg σ'/\Same H1 H'/\ys=(c9 i).filterMap sel,⟨n,rfl,v4 _,h0,aS hD,rfl⟩,?_⟩
 rintro i m ys σ' H' ⟨rfl,hi,sg,sm,rfl⟩ hd
 have len:((c9 i).filterMap sel).length<=i:=by have:=ucl sel (c9 i);rw[p8] at this;exact this
 by_cases hlt:i<n
 ·refine .inr ⟨go i H' hlt sm,λ x H2 hy=>?_⟩
  refine step i x σ' H' H2 hlt sm hy sg
   (λ σ3 v H5=>H5 D=some (.lst ((c9 i).filterMap sel))/\((c9 i).filterMap sel).length<m3/\∃ m',m'<n-i/\(m'=n-(i+1)/\i+1<=n/\Sg σ3/\Same H1 (upd H5 D (.lst ((c9 i).filterMap sel++[v])))/\(c9 i).filterMap sel++[v]=(c9 (i+1)).filterMap sel))
   (λ σ3 H5=>H5 D=some (.lst ((c9 i).filterMap sel))/\∃ m',m'<n-i/\(m'=n-(i+1)/\i+1<=n/\Sg σ3/\Same H1 H5/\(c9 i).filterMap sel=(c9 (i+1)).filterMap sel)) (λ σ3 v H5 sg3 s5 e=>?_) (λ σ3 H5 sg3 s5 e=>?_)
  ·refine⟨s5 _ _ hd,uak (by left:((c9 i).filterMap sel).length<=1000000) (by decide),n-(i+1),by left,rfl,hlt,sg3,λ b o z=>?_,?_⟩
   ·rw[aG (aV z hD)];exact s5 _ _ (sm _ _ z)
   ·rw[ua0,uan];simp [e]
  ·refine⟨s5 _ _ hd,n-(i+1),by left,rfl,hlt,sg3,sm.trans s5,?_⟩
   rw[ua0,uan];simp [e]
 ·have e:i=n:=by left
  subst e
  exact .inl ⟨stop H' sm,fin D H' hD sm hd⟩
theorem uC {K:a9}{a:j8}{xs:List V}(hx:H1 a=some (.lst xs))(Sg:L2.St->Prop)(sel:Nat->Option V)(hn:xs.length<=1000000)(h0:Sg (start3 own js σ))
  (step:∀ i x σ' H',xs[i]?=some x->Same H1 H'->Sg σ'->∀ (C:L2.St->V->Hp->Prop)(L:L2.St->Hp->Prop),(∀ σ3 v H5,Sg σ3->Same H' H5->sel i=some v->C σ3 v H5)->(∀ σ3 H5,Sg σ3->Same H' H5->sel i=none->L σ3 H5) ->
   g x σ' H' λ σ3 H3=>tt σ3 H3 λ b H4=>if b=true then te σ3 H4 λ v H5=>C σ3 v H5 else L σ3 H4)
  (fin:∀ D H',H1 D=none->Same H1 H'->H' D=some (.lst ((c9 xs.length).filterMap sel))->Q (.ref D) H'):CompGo own js g tt te σ Q (Itl K a) H1:=by
 refine vU xs.length Sg sel hn h0 (λ i H' hi s=>⟨xs,xs[i],SqL.of (s _ _ hx),by simp [hi]⟩) (λ H' s=>⟨xs,SqL.of (s _ _ hx),c8 _⟩) (λ i x σ' H' H2 hi s hy sg C L hC hL=>?_) fin
 obtain⟨rfl,hy⟩:=hy
 exact step i x σ' _ (hy xs (SqL.of (s _ _ hx))) s sg C L hC hL
theorem iD {K K':a9}{a:j8}{xs:List V}(hx:H1 a=some (.lst xs))(Sg:L2.St->Prop)(sel:Nat->Option uac)(tup:∀ i d,sel i=some d->tupD d=true)(hn:xs.length<=1000000)(h0:Sg (start3 own js σ))
  (step:∀ i x σ' H',xs[i]?=some x->Same H1 H'->Sg σ'->∀ (C:L2.St->V->Hp->Prop)(L:L2.St->Hp->Prop),(∀ σ3 v d H5,Sg σ3->Same H' H5->sel i=some d->Is K' H5 d v->C σ3 v H5)->(∀ σ3 H5,Sg σ3->Same H' H5->sel i=none->L σ3 H5) ->
   g x σ' H' λ σ3 H3=>tt σ3 H3 λ b H4=>if b=true then te σ3 H4 λ v H5=>C σ3 v H5 else L σ3 H4)
  (fin:∀ D ys H',H1 D=none->Same H1 H'->H' D=some (.lst ys)->ys.length<=xs.length->IsAll K' H' ((c9 xs.length).filterMap sel) ys->Q (.ref D) H'):CompGo own js g tt te σ Q (Itl K a) H1:=by
 intro D hD
 have tupI:∀ i,tupAll ((c9 i).filterMap sel)=true:=λ i=>by
  have go:∀ is:List Nat,tupAll (is.filterMap sel)=true:=λ is=>by
   induction is with
   | nil=>rfl
   | cons j r ih =>
    rw[uam]
    cases e:sel j with
    | none=>exact ih
    | some d=>show (tupD d&&tupAll (r.filterMap sel))=true;rw[tup j d e,ih];rfl
  exact go _
 refine⟨λ i m ys σ' H'=>m=xs.length-i/\i<=xs.length/\Sg σ'/\Same H1 H'/\ys.length<=i/\IsAll K' H' ((c9 i).filterMap sel) ys,⟨xs.length,rfl,v4 _,h0,aS hD,c8 _,rfl⟩,?_⟩
 rintro i m ys σ' H' ⟨rfl,hi,sg,sm,ly,ia⟩ hd
 have sq:SqL K H' a xs:=SqL.of (sm _ _ hx)
 by_cases hlt:i<xs.length
 ·refine .inr ⟨⟨xs,xs[i],sq,by simp [hlt]⟩,λ x H2 hy=>?_⟩
  obtain⟨rfl,hy⟩:=hy
  refine step i x σ' _ (hy xs sq) sm sg
   (λ σ3 v H5=>H5 D=some (.lst ys)/\ys.length<m3/\∃ m',m'<xs.length-i/\(m'=xs.length-(i+1)/\i+1<=xs.length/\Sg σ3/\Same H1 (upd H5 D (.lst (ys++[v])))/\(ys++[v]).length<=i+1/\IsAll K' (upd H5 D (.lst (ys++[v]))) ((c9 (i+1)).filterMap sel) (ys++[v])))
   (λ σ3 H5=>H5 D=some (.lst ys)/\∃ m',m'<xs.length-i/\(m'=xs.length-(i+1)/\i+1<=xs.length/\Sg σ3/\Same H1 H5/\ys.length<=i+1/\IsAll K' H5 ((c9 (i+1)).filterMap sel) ys)) (λ σ3 v d H5 sg3 s5 e hv=>?_) (λ σ3 H5 sg3 s5 e=>?_)
  ·have hd5:=s5 _ _ hd
   have b5:But D H5 (upd H5 D (.lst (ys++[v]))):=λ b o hb z=>by rw[aG hb];exact z
   refine⟨hd5,uak (by left:ys.length<=1000000) (by decide),xs.length-(i+1),by left,rfl,hlt,sg3,λ b o z=>?_,by rw[d6,o6];left,?_⟩
   ·rw[aG (aV z hD)];exact s5 _ _ (sm _ _ z)
   ·rw[ua0,uan,show [i].filterMap sel=[d] by simp [e]]
    exact IsAll.snoc (Is.but b5 hd5 _ (tup i d e) hv) (IsAll.but b5 hd5 _ (tupI i) (IsAll.same s5 _ ia))
  ·refine⟨s5 _ _ hd,xs.length-(i+1),by left,rfl,hlt,sg3,sm.trans s5,by left,?_⟩
   rw[ua0,uan,show [i].filterMap sel=[] by simp [e],ubz]
   exact IsAll.same s5 _ ia
 ·have e:i=xs.length:=by left
  subst e
  exact .inl ⟨⟨xs,sq,c8 _⟩,fin D ys H' hD sm hd ly ia⟩
end
end L3
namespace L3
end L3
namespace L3
open PySem PySem.Spec PyProof.Rows L2
theorem aY (E:List (Option Nat)){i v:Nat}(x:Nat)(h:i<E.length):Far.get (E.set i (some x)) v=if v=i then some x else Far.get E v:=by
 unfold Far.get
 rw[b8,b8]
 by_cases z:v=i
 ·subst z
  rw[uf7 rfl,udz h];rfl
 ·rw[uf8 z,uec (Ne.symm z)]
section
variable {n g:Int}{ts:List Tie}{ks:List Nat}{k:Nat}
end
def tupH (hs:List Int):uac:=.tuple (hs.map .int)
end L3
namespace Far
theorem Best.one {B:List Arc}(K:Keys B){n s:Nat}{cs cs':List (Option (Int × Int))}{as as':List (Option Nat)}(h:Best B n s cs as)(h':Best B n s cs' as'):as=as':=by
 have ec:∀ v,get cs v=get cs' v:=λ v=>by
  have e:=(h.dst K v).unique (h'.dst K v)
  cases e1:get cs v with
  | none =>
   cases e2:get cs' v with
   | none=>rfl
   | some c=>rw[e1,e2] at e;cases e
  | some c =>
   cases e2:get cs' v with
   | none=>rw[e1,e2] at e;cases e
   | some d =>
    rw[e1,e2] at e
    have a:=h.small K e1
    have b:=h'.small K e2
    rw[gE ⟨a.1,ue6 a.2 (by decide)⟩ ⟨b.1,ue6 b.2 (by decide)⟩ (j5 e)]
 have ea:∀ {cs cs':List (Option (Int × Int))}{as as':List (Option Nat)},Best B n s cs as->Best B n s cs' as'->(∀ v,get cs v=get cs' v)->∀ v u,get as v=some u->get as' v=some u:=λ h h' ec v u e=>by
  obtain⟨l,k,cu,m,e1,e2⟩:=h.arc v u e
  exact h'.tree K m (by rw[← ec];exact e1) (by rw[← ec];exact e2)
 refine uba λ v=>?_
 by_cases hv:v<n
 ·have g:get as v=get as' v:=by
   cases e1:get as v with
   | some u=>exact (ea h h' ec v u e1).symm
   | none =>
    cases e2:get as' v with
    | none=>rfl
    | some u=>rw[ea h' h (λ v=>(ec v).symm) v u e2] at e1;cases e1
  have l1:=h.alen
  have l2:=h'.alen
  unfold get at g
  rw[b8,b8,b6 (by left),b6 (by left)] at g
  rw[b6 (by left),b6 (by left)]
  exact congrArg some g
 ·rw[o7 (by have:=h.alen;left),o7 (by have:=h'.alen;left)]
end Far
namespace L3
open PySem PySem.Spec PyProof.Rows L2
section
variable {n:Int}{ts:List Tie}
end
end L3
namespace L2
open PySem PySem.Spec PyProof.Rows
section
variable {X:Cx}{k v:ubv}{pos:Pos}{tk tv:TE}
end
end L2
namespace HT
open PySem PyProof.Rows
open Sem (wp)
section
variable {prog:j9}{w:v9}{A:v7}{E:b9->c7->Prop}{s:c7}
end
end HT
namespace L3
open PySem PySem.Spec PyProof.Rows L2
def PapV (H:Hp)(lo hi m:Nat)(v:V):Prop:=∃ p xs,v=.ref p/\H p=some (.tup xs)/\xs.length<=m/\∀ u∈xs,RowV lo hi H u
theorem PapV.tk {H H':Hp}{lo hi m:Nat}{v:V}(k:TupKeep H H')(h:PapV H lo hi m v):PapV H' lo hi m v:=let ⟨p,xs,e,e1,l,r⟩:=h;⟨p,xs,e,k _ _ e1,l,λ u hu=>(r u hu).tk k⟩
theorem Same.tk {H H':Hp}(s:Same H H'):TupKeep H H':=λ a xs e=>s _ _ e
end L3
namespace Far
section
variable {A B:List (Nat × Nat × Int)}{s u v:Nat}{x y:Int}
theorem Walk.app (h:Walk B s u x)(k:Walk B u v y):Walk B s v (x+y):=by
 induction k with
 | nil=>rw[Int.add_zero];exact h
 | @snoc w v l y k m ih =>
  have:=Walk.snoc ih m
  rw[Int.add_assoc] at this
  exact this
end
end Far
namespace Far
section
variable {G:Nat->Option Int}{len:Nat->Int}
end
end Far
namespace Far
section
variable {A:List (Nat × Nat × Int)}{s:Nat}
end
end Far
namespace L3
open PySem PySem.Spec PyProof.Rows L2
section
variable {near kept:Nat->Nat->Option Int}{u v:Nat}{r:List (Nat × Nat)}{m:Int × Int × Int}{x y:Int}
end
noncomputable def dstF (ts:List Tie)(ks:List Nat)(u v:Nat):Option Int:=Classical.epsilon λ o=>Far.Dst (arcs (ones ts) ks) u v o
def WKE (K:a9)(H:Hp)(n:Int)(ts:List Tie)(ks:List Nat)(wv:V)(kp:j8)(tp:Bool):Prop:=Is K H (webD n ts) wv/\WebOk n ts/\H kp=some (if tp=true then .tup (natV ks) else .lst (natV ks))/\KeepOk ts.length ks
theorem WKE.same {K:a9}{H H':Hp}{n:Int}{ts:List Tie}{ks:List Nat}{wv:V}{kp:j8}{tp:Bool}(h:WKE K H n ts ks wv kp tp)(s:Same H H'):WKE K H' n ts ks wv kp tp:=⟨Is.same s _ h.1,h.2.1,s _ _ h.2.2.1,h.2.2.2⟩
section
variable {g:TG}{tt:TT}{te:TE}{own:List Str}{js:List Nat}{σ:L2.St}{H1:Hp}{Q:VK}
end
section
variable {n:Int}{ts:List Tie}{ks:List Nat}
noncomputable def dstL (n:Int)(ts:List Tie)(ks:List Nat)(u:Nat):List (Option Int):=(c9 n.toNat).map (dstF ts ks u)
noncomputable def htW (n:Int)(ts:List Tie)(u:Nat):List Int:=(dstL n ts (c9 ts.length) u).map (capO n)
end
section
variable {own:List Str}{js:List Nat}{g:TG}{te:TE}{σ:L2.St}{Q:VK}{H1:Hp}
end
section
variable {n:Int}{ts:List Tie}
def hN (hs:List Int)(v:Nat):Int:=hs.getD v 0
end
end L3
namespace Srt
open PySem PyProof.Rows
section
variable {prog:j9}{w:v9}{A:v7}{E:b9->c7->Prop}{s:c7}{a:j8}
end
end Srt
namespace L3
open PySem PySem.Spec PyProof.Rows L2
section
variable {X:Cx}
end
section
variable {n:Int}{ts:List Tie}
def WyV (H:Hp)(ts:List Tie)(o:Option (List Nat))(v:V):Prop:=(o=none/\v=.non)\/∃ t ws,o=some ws/\v=.ref t/\H t=some (.tup (natV ws))/\ws.length<=24/\linked ts ws
theorem WyV.tk {H H':Hp}{o:Option (List Nat)}{v:V}(k:TupKeep H H')(h:WyV H ts o v):WyV H' ts o v:=by
 rcases h with h | ⟨t,ws,e,e1,e2,z⟩
 ·exact .inl h
 ·exact .inr ⟨t,ws,e,e1,k _ _ e2,z⟩
theorem WyV.same {H H':Hp}{o:Option (List Nat)}{v:V}(k:Same H H')(h:WyV H ts o v):WyV H' ts o v:=h.tk λ _ _ e=>k _ _ e
def wyD:Option (List Nat)->uac
 | none=>.none
 | some ws=>tupH (keepI ws)
end
theorem jD {ts:List Tie}{u v k:Nat}(h:tbN ts u v=some k):(tieAt ts k).1=min (u:Int) v/\(tieAt ts k).2.1=max (u:Int) v:=by
 have b:=List.find?_some h
 unfold isTB at b
 rw[r6] at b
 exact⟨uf4 b.1,uf4 b.2⟩
theorem wE (ts:List Tie)(ws:List Nat):(alongN ts ws).length=ws.length-1:=by unfold alongN;rw[c6,p8]
theorem xT {ts:List Tie}{ws:List Nat}{i u v k:Nat}(hu:ws[i]?=some u)(hv:ws[i+1]?=some v)(e:tbN ts u v=some k):(alongN ts ws)[i]?=some k:=by
 have hi:=(i3.mp hv).1
 unfold alongN
 rw[j3,uaw (by left)]
 show some ((tbN ts (ws.getD i 0) (ws.getD (i+1) 0)).getD 0)=some k
 rw[b8,hu,b8,hv]
 show some ((tbN ts u v).getD 0)=some k
 rw[e];rfl
end L3
namespace HT
open PySem PyProof.Rows
section
variable {prog:j9}{w:v9}{A:v7}{R:Result->c7->Prop}{I:j8}{fp wr:List j8}{St:Nat->c7->Prop}{its:List b9}{less:Nat->Nat->Bool}{s0:c7}
def K0 (s0 s:c7):Prop:=(∀ b o,s0.heap.get? b=some o->s.heap.get? b=some o)/\s.gens=s0.gens/\s.drawn=s0.drawn/\s.os=s0.os
def Cmps (prog:j9)(w:v9)(A:v7)(s0:c7)(its:List b9)(less:Nat->Nat->Bool):Prop:=∀ (s':c7)(i j:Nat)(v u:b9)(Q E:b9->c7->Prop),K0 s0 s'->its[i]?=some v->its[j]?=some u->Q (.bool (less i j)) s'->k8 (v5 prog w) A.in1 (richCompare .Lt v u) Q E s'
theorem vK (W:WalksS prog w A.in1 I fp wr (λ a b=>b=a) its.length (λ i v=>its[i]?=some v) St)(S:j8)(hSf:S∉fp)(off:∀ b o,s0.heap.get? b=some o->b∉S::wr)(tr:∀ i j k,less i j=true->less j k=true->less i k=true)(irr:∀ i,less i i=false)(hc:Cmps prog w A s0 its less):∀ (k j:Nat)(s:c7)(b:Nat)(v:b9)(c:Nat),
  its.length-(j+1)=k->j+1<=its.length->St (j+1) s->b<=j->its[b]?=some v->(∀ i,i<=j->less i b=false)->s.heap.get? S=some (twoV v c)->K0 s0 s ->
  (∀ (b:Nat)(v:b9)(s':c7),its[b]?=some v->(∀ i,i<its.length->less i b=false)->Moved (S::wr) (λ a b=>b=a) s s'->R (.ok (.ret v)) s')->codeAny (v5 prog w) A (.builtin "min.loop" ⟨[.ref I,.none,.ref S],[]⟩) R s:=by
 have nw:S∉wr:=λ h=>hSf (W.sub _ h)
 have up:∀ b∈wr,b∈S::wr:=λ b hb=>.tail _ hb
 have nm:(toString "min"++toString ".loop":String)="min.loop":=by decide
 have offS:∀ {b:j8},b∉S::wr->S≠b:=λ hb h=>hb (h ▸ g9)
 intro k
 induction k with
 | zero =>
  intro j s b v c hk hj hst hbj hv top hS hT hR
  have hin:j+1=its.length:=by left
  refine ub8 udo ?_;rw[Around.under_plainId ua3 _]
  show k8 _ A.in1 (seqItems? (.ref S) >>= _) _ _ _;refine a8 (ube hS rfl ?_)
  show k8 _ A.in1 (tryCatch (pyNext (.ref I)) _ >>= _) _ _ _;refine a8 (uet (W.done s _ _ (hin ▸ hst) λ s1 hm=>?_))
  have hS1:=hm.heap S _ nw hS
  show k8 _ A.in1 (updateSeq S (λ _=>#[]) >>= _) _ _ s1;refine a8 (ucw hS1 rfl (a8 (uc5 (d3 ?_))))
  exact hR b v _ hv (λ i hi=>top i (by left)) ((hm.mono up).then_heap (tk:=s1.toks) (c8 _) λ b o hb e=>(m7 _ _ (offS hb)).trans e)
 | succ k ih =>
  intro j s b v c hk hj hst hbj hv top hS hT hR
  have hlt:j+1<its.length:=by left
  refine ub8 udo ?_;rw[Around.under_plainId ua3 _]
  show k8 _ A.in1 (seqItems? (.ref S) >>= _) _ _ _;refine a8 (ube hS rfl ?_)
  show k8 _ A.in1 (tryCatch (pyNext (.ref I)) _ >>= _) _ _ _;refine a8 (uet (W.item (j+1) s _ _ hlt hst λ u s1 hP hst1 hm=>?_))
  have hS1:=hm.heap S _ nw hS
  have hT1:K0 s0 s1:=⟨λ b o e=>hm.heap b o (λ z=>off b o e (up _ z)) (hT.1 b o e),hm.gens.trans hT.2.1,hm.drawn.trans hT.2.2.1,hm.os.trans hT.2.2.2⟩
  show k8 _ A.in1 (tryCatch (holding [_,_] (richCompare .Lt _ _ >>= _)) _ >>= _) _ _ s1
  refine a8 (uet (uah (a8 (hc s1 (j+1) b _ _ _ _ hT1 hP hv (a8 (uah (ubs (a8 (uc5 (d3 ?_))))))))))
  by_cases hb:less (j+1) b=true
  ·rw[hb];simp only [if_true]
   refine a8 (ucw hS1 rfl (a8 (uc5 ?_)));rw[nm]
   refine d3 ⟨ucf ua3 _,ih (j+1) _ (j+1) _ _ (by left) hlt (W.frame _ s1 _ s1.toks hst1 (c8 _) λ b hbf o e=>(m7 _ _ (λ h:S=b=>hSf (h ▸ hbf))).trans e) (c8 _) hP (λ i hi=>?_) (ubc _ hS1 rfl) ⟨λ b o e=>(m7 _ _ (offS (off b o e))).trans (hT1.1 b o e),hT1.2⟩ λ b' v' s2 h1 h2 hm2=>?_⟩
   ·rcases ubp i (j+1) with z | z
    ·exact ub4.mpr λ y=>by
      have:=tr _ _ _ y hb
      rw[top i (by left)] at this;cases this
    ·rw[show i=j+1 by left]
     exact irr _
   ·exact hR b' v' s2 h1 h2 (Moved.trans W.gtrans ((hm.mono up).then_heap (tk:=s1.toks) (c8 _) λ b o hb e=>(m7 _ _ (offS hb)).trans e) hm2)
  ·have hb':=ub4.mpr hb
   rw[hb'];simp only [ua2,if_false]
   refine a8 (uc5 ?_);rw[nm]
   refine d3 ⟨ucf ua3 _,ih (j+1) _ b _ c (by left) hlt hst1 (by left) hv (λ i hi=>?_) hS1 hT1 λ b' v' s2 h1 h2 hm2=>?_⟩
   ·rcases ubp i (j+1) with z | z
    ·exact top i (by left)
    ·rw[show i=j+1 by left];exact hb'
   ·exact hR b' v' s2 h1 h2 (Moved.trans W.gtrans (hm.mono up) hm2)
end
def LtAt (A:v7)(s:c7)(v u:b9)(r:Bool):Prop:=∀ (prog:j9)(w:v9)(E Q:b9->c7->Prop),Q (.bool r) s->k8 (v5 prog w) A (richCompare .Lt v u) Q E s
section
open PySem.SeqAt
open PySem.AutoSeq1 (wpAny_loadPart')
open PySem.MeetsSeq PySem.MeetsSeq2 PySem.MeetsSeq3
def resB:List (Bool × Bool)->Bool->Bool
 | [],d=>d
 | (true,_)::r,d=>resB r d
 | (false,b)::_,_=>b
inductive All2 {α β:Type}(P:α->β->Prop):List α->List β->Prop
 | nil:All2 P [] []
 | cons {a b l m}:P a b->All2 P l m->All2 P (a::l) (b::m)
def PairP (A:v7)(s:c7)(p:b9 × b9)(r:Bool × Bool):Prop:=EqAt A s p.1 p.2 r.1/\(r.1=false->LtAt A s p.1 p.2 r.2)
theorem rV (l b:j8)(items items2:Array b9)(n n2:Nat)(dd dd2:Option j8)(sl sl2:Array (Option b9))(rs:List (Bool × Bool)) :
  Meets (Builtin.«tuple.__lt__» ⟨[.ref l,.ref b],[]⟩)
   (λ A R s=>s.heap.get? l=some { cls:=.type "tuple",dict:=dd,data:=.seq items n,slots:=sl }/\s.heap.get? b=some { cls:=.type "tuple",dict:=dd2,data:=.seq items2 n2,slots:=sl2 } /\
    All2 (PairP A.in1 s) (items.toList.zip items2.toList) rs/\R (.ok (.ret (.bool (resB rs (decide (items.size<items2.size)))))) s) :=
 .of_wp λ prog w A R s h=>by
  obtain⟨hp,g,d,tk,os⟩:=s;obtain⟨hl,hb,hP,h⟩:=h
  have f2:=AutoSeq1.sub_tuple_tuple
  wp_walk using ubf hl,ubf hb,ufv _ (λ rest b s'=>b.1=none/\s'=⟨hp,g,d,tk,os⟩/\∃ rs',All2 (PairP A.in1 ⟨hp,g,d,tk,os⟩) rest rs'/\R (.ok (.ret (.bool (resB rs' (decide (items.size<items2.size)))))) ⟨hp,g,d,tk,os⟩) _
  case turn =>
   rintro ⟨y,x⟩ rest b s' ⟨hb',rfl,rs',hf,hR⟩
   cases hf with
   | @cons _ r' _ rs2 hp1 hf' =>
    obtain⟨e,q⟩:=r'
    obtain⟨he,hl1⟩:=hp1
    refine a8 (he prog w _ _ ?_)
    cases e with
    | true =>
     wp_walk
     exact⟨rfl,rfl,_,hf',hR⟩
    | false =>
     have hri:=hl1 rfl prog w
     wp_walk using hri
     exact⟨_,rfl,by simpa [resB] using hR⟩
  case fin =>
   rintro ⟨b1,b2⟩ s' ⟨hb',rfl,rs',hf,hR⟩
   simp only at hb'
   subst hb'
   cases hf
   wp_walk
   exact⟨_,rfl,by simpa [Builtin.Tuple.tupleCompareSizes,resB] using hR⟩
  case h =>
   exact⟨rfl,rfl,rs,hP,h⟩
end
section
variable {prog:j9}{w:v9}{A:v7}{E:b9->c7->Prop}{s:c7}
theorem pA {l b:j8}{items items2:Array b9}{rs:List (Bool × Bool)}{Q:b9->c7->Prop}(hl:IsTup s.heap l items)(hb:IsTup s.heap b items2)(hP:All2 (PairP A.in1 s) (items.toList.zip items2.toList) rs)
  (hu:A.units<cLine) (h:Q (.bool (resB rs (decide (items.size<items2.size)))) s):k8 (v5 prog w) A (richCompare .Lt (.ref l) (.ref b)) Q E s:=by
 obtain⟨⟨cls,dd,data,sl⟩,ho,hc,n,hd⟩:=id hl
 obtain⟨⟨cls2,dd2,data2,sl2⟩,ho2,hc2,n2,hd2⟩:=id hb
 simp only at hc hd hc2 hd2
 subst hc hd hc2 hd2
 exact richCompare_meets_room (op:=.Lt) ⟨_,ho,rfl⟩ ⟨_,ho2,rfl⟩ ufx ufs (ufn _ _) (rV l b items items2 n n2 dd dd2 sl sl2 rs)
  ⟨ho,ho2,hP,show Value.bool (resB rs (decide (items.size<items2.size)))≠Value.notImplemented/\Q (.bool _) s from ⟨(λ x=>nomatch x),h⟩⟩ hu
end
section
variable {prog:j9}{w:v9}{A:v7}{E:b9->c7->Prop}{s:c7}
theorem vY {l:j8}{its:List b9}{less:Nat->Nat->Bool}{Q:b9->c7->Prop}(hh:A.in1.handled=none)(tr:∀ i j k,less i j=true->less j k=true->less i k=true)(irr:∀ i,less i i=false)(hc:Cmps prog w A s its less)(hl:s.heap.IsList l its.toArray)(hne:its≠[])
  (h1:∀ (b:Nat)(v:b9)(h':Heap)(tk:Nat),its[b]?=some v->(∀ i,i<its.length->less i b=false)->(∀ b o,s.heap.get? b=some o->h'.get? b=some o)->Q v { s with heap:=h',toks:=tk }) :
  k8 (v5 prog w) A (call (.builtin "min") [.ref l]) Q E s:=by
 have nm:(toString "min"++toString ".loop":String)="min.loop":=by decide
 refine call_function_tree PySem.F.kind_min PySem.F.plain_min PySem.F.entry_min (PySem.F.args_min1 _) ?_
 show k8 _ A.in1 (Builtin.Builtins.bindParams "min" ["key","default"] 0 ⟨[],[]⟩ >>= _) _ _ s
 refine a8 (ud6 (show Builtin.Builtins.bindParams "min" ["key","default"] 0 ⟨[],[]⟩=pure [none,none] from rfl) (a8 (d3 ?_)))
 refine a8 (ucd hl ?_)
 have lt:l<s.heap.objs.size:=by obtain⟨o,e,_⟩:=hl;exact i7 e
 have ne:l≠s.heap.objs.size:=l9 lt
 have W:=(Walks.list (prog:=prog) (w:=w) (A:=A.in1) hh s.heap.objs.size l ne its.toArray).toS
 have nS:s.heap.objs.size+1∉[s.heap.objs.size,l]:=by
  simp only [h9,u4,or_false,not_or];exact⟨uc1 (uch _),uc1 (ub6 lt)⟩
 have esz:its.toArray.size=its.length:=d7
 rw[esz] at W
 have eP:(λ (i:Nat) (v:b9)=>its.toArray[i]?=some v)=λ i v=>its[i]?=some v:=by funext i v;simp
 rw[eP] at W
 refine a8 (ufd ?_ (v4 _));rw[nm]
 have sz:∀ o:Obj,(s.heap.push o).objs.size=s.heap.objs.size+1:=λ o=>uao ..
 refine d3 ⟨ucf ua3 _,?_⟩
 rw[sz]
 generalize hg:((s.heap.push { cls:=Value.type "list_iterator",data:=Data.fields #[.ref l,.int 0 0] }).push { cls:=Value.type "list",data:=Data.seq #[] })=g
 have kg:∀ b o,s.heap.get? b=some o->g.get? b=some o:=λ b o e=>by rw[← hg];exact b7 _ (b7 _ e)
 have hS:g.get? (s.heap.objs.size+1)=some { cls:=.type "list",dict:=none,data:=.seq #[] 0,slots:=#[] }:=by rw[← hg,← sz];exact i8 _ rfl
 have st0:g.IsListIter s.heap.objs.size l 0/\g.IsList l its.toArray:=by
  rw[← hg];exact⟨⟨_,b7 _ (i8 _ rfl),rfl,rfl⟩,(hl.push _).push _⟩
 have notin:∀ b o,s.heap.get? b=some o->b∉(s.heap.objs.size+1)::[s.heap.objs.size]:=λ b o e z=>by
  have lb:=i7 e
  simp only [h9,u4,or_false] at z
  rcases z with z | z
  ·exact absurd lb (by rw[z];exact Nat.not_lt.mpr (uck _))
  ·exact absurd lb (by rw[z];exact uap _)
 have keep:∀ {s':c7},Moved ((s.heap.objs.size+1)::[s.heap.objs.size]) (λ a b=>b=a) { s with heap:=g } s'->∀ b o,s.heap.get? b=some o->s'.heap.get? b=some o:=λ hm b o e=>hm.heap b o (notin b o e) (kg b o e)
 have off:∀ b o,s.heap.get? b=some o->b∉(s.heap.objs.size+1)::[s.heap.objs.size]:=notin
 have hTg:∀ b o,s.heap.get? b=some o->g.get? b=some o:=kg
 show codeAny (v5 prog w) A (.builtin "min.loop" ⟨[.ref s.heap.objs.size,.none,.ref (s.heap.objs.size+1)],[]⟩) _ { s with heap:=g }
 refine ub8 udo ?_;rw[Around.under_plainId ua3 _]
 show k8 _ A.in1 (seqItems? (.ref (s.heap.objs.size+1)) >>= _) _ _ _;refine a8 (ube hS rfl ?_)
 show k8 _ A.in1 (tryCatch (pyNext (.ref s.heap.objs.size)) _ >>= _) _ _ _
 have npos:0<its.length:=uc9.mpr hne
 refine a8 (uet (W.item 0 { s with heap:=g } _ _ npos st0 λ v s1 hP hst1 hm=>?_))
 have nw:s.heap.objs.size+1∉[s.heap.objs.size]:=λ z=>absurd (d8.mp z) (uc1 (uch _))
 have hS1:=hm.heap _ _ nw hS
 show k8 _ A.in1 (updateSeq (s.heap.objs.size+1) _ >>= _) _ _ s1
 refine a8 (ucw hS1 rfl ?_);rw[nm]
 have offS:∀ {b:j8},b∉(s.heap.objs.size+1)::[s.heap.objs.size]->s.heap.objs.size+1≠b:=λ hb h=>hb (h ▸ g9)
 have hT1:K0 s s1:=⟨λ b o e=>hm.heap b o (λ z=>off b o e (.tail _ z)) (hTg b o e),hm.gens,hm.drawn,hm.os⟩
 refine d3 ⟨ucf ua3 _,vK W _ nS off tr irr hc _ 0 _ 0 v _ rfl (by left) (W.frame _ s1 _ s1.toks hst1 (c8 _) λ b hbf o e=>(m7 _ _ (λ h:s.heap.objs.size+1=b=>nS (by rw[h];exact hbf))).trans e) (c8 _) hP (λ i hi=>?_) (ubc _ hS1 rfl) ⟨λ b o e=>(m7 _ _ (offS (off b o e))).trans (hT1.1 b o e),hT1.2⟩ λ b v s2 q1 q2 hm2=>?_⟩
 ·rw[show i=0 by left]
  exact irr 0
 ·have hm3:=Moved.trans W.gtrans ((hm.mono λ b hb=>.tail _ hb).then_heap (tk:=s1.toks) (c8 _) λ b o hb e=>(m7 _ _ (offS hb)).trans e) hm2
  rw[Moved.eq_with hm3]
  exact h1 b v _ _ q1 q2 (keep hm3)
end
end HT
namespace HT
open PySem PyProof.Rows
abbrev Key3:Type:=Int × List Int × List Int
def lessN (k k':Key3):Bool:=if k.1=k'.1 then (if k.2.1=k'.2.1 then lexLt k.2.2 k'.2.2 else lexLt k.2.1 k'.2.1) else decide (k.1<k'.1)
theorem fA:∀ l:List Int,lexLt l l=false
 | []=>rfl
 | x::r=>by rw[dX,uf7 rfl];exact fA r
theorem vM (k:Key3):lessN k k=false:=by unfold lessN;rw[uf7 rfl,uf7 rfl];exact fA _
theorem sX {a b c:Key3}(h1:lessN a b=true)(h2:lessN b c=true):lessN a c=true:=by
 obtain⟨x,d,e⟩:=a
 obtain⟨x',d',e'⟩:=b
 obtain⟨x'',d'',e''⟩:=c
 unfold lessN at *
 dsimp only at *
 by_cases c1:x=x'
 ·subst c1
  rw[uf7 rfl] at h1
  by_cases c2:x=x''
  ·rw[uf7 c2] at h2 ⊢
   by_cases c3:d=d'
   ·subst c3
    rw[uf7 rfl] at h1
    by_cases c4:d=d''
    ·rw[uf7 c4] at h2 ⊢
     exact hX h1 h2
    ·rw[uf8 c4] at h2 ⊢
     exact h2
   ·rw[uf8 c3] at h1
    by_cases c4:d'=d''
    ·subst c4
     rw[uf8 c3];exact h1
    ·rw[uf8 c4] at h2
     have h3:=hX h1 h2
     by_cases c5:d=d''
     ·subst c5
      rw[fA] at h3;cases h3
     ·rw[uf8 c5];exact h3
  ·rw[uf8 c2] at h2 ⊢
   exact h2
 ·rw[uf8 c1] at h1
  have l1:=uf4 h1
  by_cases c2:x'=x''
  ·subst c2
   rw[uf8 c1];exact h1
  ·rw[uf8 c2] at h2
   have l2:=uf4 h2
   rw[uf8 (by left)]
   exact uf3 (by left)
end HT
namespace L3
open PySem PySem.Spec PyProof.Rows L2
def hevD (k:HT.Key3):uac:=.tuple [.int k.1,.tuple (k.2.1.map .int)]
def nestD (k:HT.Key3):uac:=.tuple [hevD k,.tuple (k.2.2.map .int)]
theorem yX (k k':HT.Key3):(hevD k).eqv (hevD k')=(decide (k.1=k'.1)&&decide (k.2.1=k'.2.1)):=by
 show (uav (.int k.1) (.int k'.1)&&(uav (.tuple (k.2.1.map .int)) (.tuple (k'.2.1.map .int))&&true))=_
 rw[show uav (.int k.1) (.int k'.1)=decide (k.1=k'.1) from rfl,show uav (.tuple (k.2.1.map .int)) (.tuple (k'.2.1.map .int))=ucm (k.2.1.map .int) (k'.2.1.map .int) from rfl,gC,Bool.and_true]
section
variable {X:Cx}{pins:List (j8 × Obj)}{σ:L2.St}{H:Hp}{s:c7}{A:v7}{E Q:b9->c7->Prop}
theorem iX (l:List Int):uar (.tuple (l.map .int))<=2:=by
 have:∀ l:List Int,ubl (l.map .int)<=1:=λ l=>by
  induction l with
  | nil=>exact v4 _
  | cons x r ih=>show max _ _<=1;exact Nat.max_le.mpr ⟨v4 _,ih⟩
 show _+1<=2
 have:=this l
 left
theorem gI (I:Inv X pins σ H s){d0 d1:uac}{v:V}{u:b9}(h:Is X.K H (.tuple [d0,d1]) v)(r:RelV v u):∃ a b0 b1 v0 v1,u=.ref a/\IsTup s.heap a #[b0,b1]/\Is X.K H d0 v0/\Is X.K H d1 v1/\RelV v0 b0/\RelV v1 b1:=by
 obtain⟨p,vs,rfl,hp,v0,r0,rfl,h0,v1,r1,rfl,h1,e⟩:=h
 have e:r1=[]:=e
 subst e
 cases r
 obtain⟨its,rv,pl,_⟩:=I.tuple (SqT.of hp)
 cases rv with
 | cons q0 rv=>cases rv with
  | cons q1 rv=>cases rv;exact⟨p,_,_,_,_,rfl,pl,h0,h1,q0,q1⟩
theorem oT (I:Inv X pins σ H s){l:List Int}{v:V}{u:b9}(h:Is X.K H (.tuple (l.map .int)) v)(r:RelV v u):∃ a its,u=.ref a/\IsTup s.heap a its/\IntsAre its.toList l:=by
 obtain⟨p,vs,rfl,hp,hall⟩:=h
 have e:vs=l.map V.int:=by
  have go:∀ (l:List Int)(vs:List V),IsAll X.K H (l.map PyData.int) vs->vs=l.map V.int:=λ l=>by
   induction l with
   | nil=>intro vs h;exact h
   | cons x r ih=>intro vs h;obtain⟨v,r',rfl,hx,hr⟩:=h;rw[ih _ hr,show v=V.int x from hx];rfl
  exact go l vs hall
 subst e
 cases r
 obtain⟨its,rv,pl,_⟩:=I.tuple (SqT.of hp)
 exact⟨p,_,rfl,pl,dI rv⟩
theorem oZ (I:Inv X pins σ H s){l m:List Int}{v v':V}{u u':b9}(hu:A.units<cLine)(h:Is X.K H (.tuple (l.map .int)) v)(h':Is X.K H (.tuple (m.map .int)) v')(r:RelV v u)(r':RelV v' u'):HT.LtAt A s u u' (HT.lexLt l m):=by
 obtain⟨a,its,rfl,p1,i1⟩:=oT I h r
 obtain⟨b,its2,rfl,p2,i2⟩:=oT I h' r'
 exact λ prog w E Q q=>HT.kR p1 p2 i1 i2 hu q
theorem jX (I:Inv X pins σ H s){d d':uac}{v v':V}{u u':b9}(h:Is X.K H d v)(h':Is X.K H d' v')(r:RelV v u)(r':RelV v' u')(c:d.canLay0=true)(c':d'.canLay0=true)(hu:A.units+min d.depth d'.depth<cLine):SeqAt.EqAt A s u u' (d.eqv d'):=by
 obtain⟨as,ra⟩:=dN I d h r
 obtain⟨bs,rb⟩:=dN I d' h' r'
 exact SeqAt.eqAt_reads d d' A s u u' as bs ra rb c c' hu
theorem oD (k:HT.Key3):(hevD k).canLay0=true:=by
 show (ud8 (.int k.1)&&(ud8 (.tuple (k.2.1.map .int))&&true))=true
 rw[show ud8 (.tuple (k.2.1.map .int))=true from cH _];rfl
theorem zS (I:Inv X pins σ H s){k k':HT.Key3}{v v':V}{u u':b9}(hu:A.units+4<cLine)(h:Is X.K H (hevD k) v)(h':Is X.K H (hevD k') v')(r:RelV v u)(r':RelV v' u'):HT.LtAt A s u u' (if k.1=k'.1 then (if k.2.1=k'.2.1 then false else HT.lexLt k.2.1 k'.2.1) else decide (k.1<k'.1)):=by
 obtain⟨a,b0,b1,v0,v1,rfl,p1,h0,h1,r0,r1⟩:=gI I h r
 obtain⟨a',b0',b1',v0',v1',rfl,p1',h0',h1',r0',r1'⟩:=gI I h' r'
 intro prog w E Q q
 have un:A.in1.units=A.units+1:=rfl
 have e1:HT.PairP A.in1 s (b0,b0') (decide (k.1=k'.1),decide (k.1<k'.1)):=by
  have z:v0=.int k.1:=h0
  have z':v0'=.int k'.1:=h0'
  subst z z'
  obtain⟨t,rfl⟩:=r0
  obtain⟨t',rfl⟩:=r0'
  refine⟨?_,λ _ prog w E Q q=>HT.mN A.in1 s _ _ _ _ prog w E Q q⟩
  obtain⟨e,he,hiff⟩:=HT.mZ A.in1 s k.1 t k'.1 t'
  have:e=decide (k.1=k'.1):=by cases e <;> simp_all
  rw[← this];exact he
 have e2:HT.PairP A.in1 s (b1,b1') (decide (k.2.1=k'.2.1),HT.lexLt k.2.1 k'.2.1):=by
  refine⟨?_,λ _=>oZ I (by left) h1 h1' r1 r1'⟩
  have:=jX (A:=A.in1) I h1 h1' r1 r1' (cH _) (cH _) (by have:=iX k.2.1;left)
  rw[show uav (.tuple (k.2.1.map .int)) (.tuple (k'.2.1.map .int))=ucm (k.2.1.map .int) (k'.2.1.map .int) from rfl,gC] at this
  exact this
 refine HT.pA p1 p1' (.cons e1 (.cons e2 .nil)) (by left) ?_
 have:HT.resB [(decide (k.1=k'.1),decide (k.1<k'.1)),(decide (k.2.1=k'.2.1),HT.lexLt k.2.1 k'.2.1)] (decide ((#[b0,b1]:Array b9).size<(#[b0',b1']:Array b9).size))=(if k.1=k'.1 then (if k.2.1=k'.2.1 then false else HT.lexLt k.2.1 k'.2.1) else decide (k.1<k'.1)):=by
  by_cases c:k.1=k'.1
  ·by_cases c2:k.2.1=k'.2.1
   ·rw[uf3 c,uf3 c2,uf7 c,uf7 c2];rfl
   ·rw[uf3 c,uf5 c2,uf7 c,uf8 c2];rfl
  ·rw[uf5 c,uf8 c];rfl
 rw[this];exact q
theorem yQ (I:Inv X pins σ H s){k k':HT.Key3}{v v':V}{u u':b9}(hu:A.units+8<cLine)(h:Is X.K H (nestD k) v)(h':Is X.K H (nestD k') v')(r:RelV v u)(r':RelV v' u'):HT.LtAt A s u u' (HT.lessN k k'):=by
 obtain⟨a,b0,b1,v0,v1,rfl,p1,h0,h1,r0,r1⟩:=gI I h r
 obtain⟨a',b0',b1',v0',v1',rfl,p1',h0',h1',r0',r1'⟩:=gI I h' r'
 intro prog w E Q q
 have un:A.in1.units=A.units+1:=rfl
 have dh:(hevD k).depth<=3:=by
  have:=iX k.2.1
  show max (uar (.int k.1)) (max (uar (.tuple (k.2.1.map .int))) 0)+1<=3
  have:uar (.int k.1)=0:=rfl
  left
 have e1:HT.PairP A.in1 s (b0,b0') ((hevD k).eqv (hevD k'),(if k.1=k'.1 then (if k.2.1=k'.2.1 then false else HT.lexLt k.2.1 k'.2.1) else decide (k.1<k'.1))) :=
  ⟨jX (A:=A.in1) I h0 h0' r0 r0' (oD _) (oD _) (by left),λ _=>zS I (by left) h0 h0' r0 r0'⟩
 have e2:HT.PairP A.in1 s (b1,b1') (decide (k.2.2=k'.2.2),HT.lexLt k.2.2 k'.2.2):=by
  refine⟨?_,λ _=>oZ I (by left) h1 h1' r1 r1'⟩
  have:=jX (A:=A.in1) I h1 h1' r1 r1' (cH _) (cH _) (by have:=iX k.2.2;left)
  rw[show uav (.tuple (k.2.2.map .int)) (.tuple (k'.2.2.map .int))=ucm (k.2.2.map .int) (k'.2.2.map .int) from rfl,gC] at this
  exact this
 rw[yX] at e1
 refine HT.pA p1 p1' (.cons e1 (.cons e2 .nil)) (by left) ?_
 have:HT.resB [((decide (k.1=k'.1)&&decide (k.2.1=k'.2.1)),(if k.1=k'.1 then (if k.2.1=k'.2.1 then false else HT.lexLt k.2.1 k'.2.1) else decide (k.1<k'.1))),(decide (k.2.2=k'.2.2),HT.lexLt k.2.2 k'.2.2)] (decide ((#[b0,b1]:Array b9).size<(#[b0',b1']:Array b9).size))=HT.lessN k k':=by
  unfold HT.lessN
  by_cases c:k.1=k'.1
  ·by_cases c2:k.2.1=k'.2.1
   ·rw[uf3 c,uf3 c2,uf7 c,uf7 c2]
    by_cases c3:k.2.2=k'.2.2
    ·rw[uf3 c3];simp [HT.resB,c,c2,c3,HT.fA]
    ·rw[uf5 c3];simp [HT.resB,c,c2]
   ·rw[uf3 c,uf5 c2];simp [HT.resB,c,c2]
  ·rw[uf5 c];simp [HT.resB,c]
 rw[this];exact q
end
inductive call_minN_i (K:a9)(xs:List V)(H:Hp)(Q:VK):Prop
 | mk:∀ (p:j8)(vs:List V)(ks:List HT.Key3),(xs=[.ref p])->(H p=some (.lst vs))->(vs≠[])->(IsAll K H (ks.map nestD) vs)->(∀ (b:Nat)(v:V)(k:HT.Key3),vs[b]?=some v->ks[b]?=some k->(∀ k'∈ks,HT.lessN k' k=false)->Q v H)->call_minN_i K xs H Q
theorem vX {X:Cx}(hh:X.calm=true)(hu:X.A.units+9<cLine):CallR X (.builtin "min") (call_minN_i X.K):=by
 intro pins s σ H xs us Q I r h
 obtain⟨p,vs,ks,rfl,hq,hne,hT,q⟩:=h
 obtain⟨u,rfl,rx⟩:=vals1 r
 cases rx
 obtain⟨its,rv,pl,hz⟩:=I.list (SqL.of hq)
 have hl:=rv.length
 have lk:vs.length=ks.length:=by have:=hT.length;rw[c6] at this;exact this
 obtain⟨k0,ek0⟩:∃ k0:HT.Key3,k0=(0,[],[]):=⟨_,rfl⟩
 refine HT.vY (less:=λ i j=>HT.lessN (ks.getD i k0) (ks.getD j k0)) (show X.A.in1.handled=none from I.ok.hd hh) (λ _ _ _=>HT.sX) (λ _=>HT.vM _) ?_ pl.isList (λ z=>hne (udq.mp (by rw[hl,z];rfl))) λ b v h' tk hv top hk=>?_
 ·intro s' i j v u Q' E' hk hi hj q'
  obtain⟨x,ex,rel⟩:=fB rv hi
  obtain⟨y,ey,rel'⟩:=fB rv hj
  obtain⟨hp',g',d',t',o'⟩:=s'
  obtain⟨k1,k2,k3,k4⟩:=hk
  simp only at k2 k3 k4
  subst k2 k3 k4
  have I':Inv X pins σ H { s with heap:=hp',toks:=t' }:=I.kept (t':=t') k1
  obtain⟨d,hd,isx⟩:=hT.get' ex
  obtain⟨d',hd',isy⟩:=hT.get' ey
  rw[j3,uad] at hd hd'
  obtain⟨k,hk1,rfl⟩:=hd
  obtain⟨k',hk2,rfl⟩:=hd'
  have g1:ks.getD i k0=k:=by rw[b8,hk1];rfl
  have g2:ks.getD j k0=k':=by rw[b8,hk2];rfl
  have un:X.A.in1.units=X.A.units+1:=rfl
  dsimp only at q'
  rw[g1,g2] at q'
  exact yQ (A:=X.A.in1) I' (by left) isx isy rel rel' X.prog X.w E' Q' q'
 obtain⟨x,ex,rel⟩:=fB rv hv
 obtain⟨d,hd,isx⟩:=hT.get' ex
 rw[j3,uad] at hd
 obtain⟨k,hk1,rfl⟩:=hd
 refine⟨x,H,I.kept (t':=tk) hk,rel,q b x k ex hk1 λ k' hk'=>?_⟩
 obtain⟨i,hi,e⟩:=ua9 hk'
 have:=top i (by left)
 have g1:ks.getD b k0=k:=by rw[b8,hk1];rfl
 have g2:ks.getD i k0=k':=by rw[b8,b6 hi,e];rfl
 rw[g1,g2] at this
 exact this
end L3
namespace Far
theorem Rt.into {B B':List Arc}{a b:Nat}{ws S:List Nat}{x y:Int}(r:Rt B a ws S b x y):(∀ u v l k,(u,v,l,k)∈B->k∈S->(u,v,l,k)∈B')->Rt B' a ws S b x y:=by
 induction r with
 | one=>exact λ _=>.one
 | @snoc ws S u v x y l k r m nv ih=>exact λ h=>.snoc (ih λ u v l k m' hk=>h u v l k m' (r8 _ hk)) (h _ _ _ _ m (l4 _ (d8.mpr rfl))) nv
theorem Rt.pos (K:Keys B)(r:Rt B a ws S b x y):0<=x:=by
 induction r with
 | one=>exact w6 _
 | @snoc ws S u v x y l k r m nv ih=>have:=K.pos _ _ _ _ m;left
theorem hZ {B:List Arc}(K:Keys B){N a b:Nat}(inn:∀ u v l k,(u,v,l,k)∈B->u<N/\v<N)(ha:a<N){L:Int}(w:Walk (arcsC B) a b L):∃ ws S x y,Rt B a ws S b x y/\comb (x,y)<=L:=by
 obtain⟨cs,as,h⟩:=kJ K inn ha
 obtain⟨z,ez,le⟩:=(h.dst K b).2 L w
 rw[uad] at ez
 obtain⟨c,ec,rfl⟩:=ez
 obtain⟨ws,S,r,_⟩:=h.route K _ b c ec (c8 _)
 exact⟨ws,S,c.1,c.2,r,le⟩
end Far
namespace L3
open PySem PySem.Spec PyProof.Rows L2
section
variable {n:Int}{ts:List Tie}{ks:List Nat}
abbrev eA (ts:List Tie)(k:Nat):Nat:=(tieAt ts k).1.toNat
abbrev eB (ts:List Tie)(k:Nat):Nat:=(tieAt ts k).2.1.toNat
abbrev tL (ts:List Tie)(k:Nat):Int:=(tieAt ts k).2.2
theorem cI {K:List Nat}{u v k:Nat}{l:Int}(h:(u,v,l,k)∈arcsB ts K):tL ts k=l/\((u=eA ts k/\v=eB ts k)\/(u=eB ts k/\v=eA ts k)):=by
 obtain⟨j,hj,m⟩:=arcsB_mem.mp h
 rcases arcs2B_mem.mp m with e | e <;> cases e
 ·exact⟨rfl,.inl ⟨rfl,rfl⟩⟩
 ·exact⟨rfl,.inr ⟨rfl,rfl⟩⟩
theorem pK {K K':List Nat}{u v k:Nat}{l:Int}(h:(u,v,l,k)∈arcsB ts K)(hk:k∈K'):(u,v,l,k)∈arcsB ts K':=by
 obtain⟨j,hj,m⟩:=arcsB_mem.mp h
 have e:k=j:=by rcases arcs2B_mem.mp m with e | e <;> cases e <;> rfl
 subst e
 exact arcsB_mem.mpr ⟨k,hk,m⟩
theorem in_but {k j:Nat}:j∈but ks k↔j∈ks/\j≠k:=by
 unfold but
 rw[w8]
 exact⟨λ ⟨a,b⟩=>⟨a,uf4 b⟩,λ ⟨a,b⟩=>⟨a,uf3 b⟩⟩
theorem gK {K:List Nat}(ok:WebOk n ts)(ko:KeepOk ts.length K){a b:Nat}{ws S:List Nat}{x y:Int}(r:Far.Rt (arcsB ts K) a ws S b x y){j:Nat}(hj:j∈S):j∈K:=by
 obtain⟨u,v,l,m,_⟩:=r.ends (bB ok ko) j hj
 exact (cW m).2
abbrev rC (ts:List Tie)(k:Nat)(x y:Int):Int:=Far.comb (x+tL ts k,y+2^k)
theorem fQ (k:Nat)(x y:Int):rC ts k x y=Far.comb (x,y)+(tL ts k*2^61+2^k):=by
 unfold rC Far.comb
 simp only
 left
abbrev Wk (ts:List Tie)(ks:List Nat)(k:Nat)(L:Int):Prop:=Far.Walk (Far.arcsC (arcsB ts (but ks k))) (eA ts k) (eB ts k) L
abbrev RtK (ts:List Tie)(ks:List Nat)(k:Nat)(ws S:List Nat)(x y:Int):Prop:=Far.Rt (arcsB ts (but ks k)) (eA ts k) ws S (eB ts k) x y
theorem tM (ok:WebOk n ts)(ko:KeepOk ts.length ks){k j:Nat}{ws S:List Nat}{x y:Int}(hk:k∈ks)(r:RtK ts ks k ws S x y)(hj:j∈S):∃ L,Wk ts ks j L/\L+(tL ts j*2^61+2^j)=rC ts k x y:=by
 have ko':=bI (k:=k) ko
 have KB:=bB ok ko'
 have hjb:=gK ok ko' r hj
 have nd:=r.unlike
 obtain⟨i,hi,ei⟩:=ua9 hj
 obtain⟨u,v,l,eu,ev,m⟩:=r.step (i:=i) (k:=j) (by rw[b6 hi,ei])
 obtain⟨p,q,ew⟩:∃ p q,ws=p++u::v::q:=by
  obtain⟨h1,e1⟩:=i3.mp eu
  obtain⟨h2,e2⟩:=i3.mp ev
  refine⟨ws.take i,ws.drop (i+2),?_⟩
  rw[← e1,← e2,← ucc h2,← ucc h1,List.take_append_drop]
 obtain⟨S1,S2,x1,x2,y1,y2,r1,r2,ex,ey⟩:=r.split ew
 obtain⟨S3,S4,x3,x4,y3,y4,r3,r4,ex2,ey2⟩:=r2.split (p:=[u]) (u:=v) (q:=q) rfl
 rw[ew] at nd
 obtain⟨ndp,ndq,dis⟩:=uax.mp nd
  -- the middle is the tie alone
 have mid:x3=l/\y3=2^j:=by
  have t1:alongN ts [u,v]=S3:=jC ok ko' r3
  have t2:S3=[j]:=by
   rw[← t1]
   show [(tbN ts u v).getD 0]=[j]
   rw[bS ok ko' m];rfl
  have e1:=r3.lens (f:=tL ts) λ u v l k m=>(cI m).1
  have e2:=r3.sum
  rw[t2] at e1 e2
  refine⟨?_,?_⟩
  ·rw[← e1,← (cI m).1];simp
  ·rw[e2]
   show ((2^j+0:Nat):Int)=2^j
   norm_cast
 have n1:j∉S1:=λ z=>by
  obtain⟨u',v',l',m',hu,hv⟩:=r1.ends KB j z
  have vin:v∈p++[u]:=by
   rcases (KB.key _ _ _ _ _ _ _ m m').2 with ⟨e1,e2⟩ | ⟨e1,e2⟩
   ·rw[← e2];exact hv
   ·rw[← e1];exact hu
  rcases l8.mp vin with z | z
  ·exact dis v z v (by simp) rfl
  ·rw[d8] at z
   rw[z] at ndq
   exact (j0.mp ndq).1 (by simp)
 have n4:j∉S4:=λ z=>by
  obtain⟨u',v',l',m',hu,hv⟩:=r4.ends KB j z
  have uin:u∈v::q:=by
   rcases (KB.key _ _ _ _ _ _ _ m m').2 with ⟨e1,e2⟩ | ⟨e1,e2⟩
   ·rw[← e1];exact hu
   ·rw[← e2];exact hv
  exact (j0.mp ndq).1 uin
 have into:∀ {S0:List Nat}{a0 b0:Nat}{w0:List Nat}{x0 y0:Int},Far.Rt (arcsB ts (but ks k)) a0 w0 S0 b0 x0 y0->j∉S0->Far.Walk (Far.arcsC (arcsB ts (but ks j))) a0 b0 (Far.comb (x0,y0)):=λ {S0 a0 b0 w0 x0 y0} r0 n0 =>
  (r0.into (B':=arcsB ts (but ks j)) λ u v l k' m' hk'=>pK m' (in_but.mpr ⟨(in_but.mp (cW m').2).1,λ z=>n0 (z ▸ hk')⟩)).walkC
 have w1:=into r1 n1
 have w4:=into r4 n4
 have jk:k≠j:=λ z=>(in_but.mp hjb).2 z.symm
 have KJ:=bB ok (bI (k:=j) ko)
 have sy:=Far.iL KJ
 have tk:(eA ts k,eB ts k,tL ts k,k)∈arcsB ts (but ks j):=cO (in_but.mpr ⟨hk,jk⟩)
 have wk:Far.Walk (Far.arcsC (arcsB ts (but ks j))) (eB ts k) (eA ts k) (0+(tL ts k*2^61+2^k)):=.snoc .nil (sy _ _ _ (Far.arcsC_mem.mpr ⟨_,_,tk,rfl⟩))
 have wv:=(w4.trans wk).trans w1
 have tot:Far.comb (x4,y4)+(0+(tL ts k*2^61+2^k))+Far.comb (x1,y1)+(tL ts j*2^61+2^j)=rC ts k x y:=by
  rw[fQ,ex,ey,ex2,ey2,Far.nE,Far.nE,mid.1,mid.2,(cI m).1]
  unfold Far.comb
  simp only
  left
 rcases (cI m).2 with ⟨e1,e2⟩ | ⟨e1,e2⟩
 ·refine⟨_,?_,tot⟩
  rw[e1,e2] at wv
  exact wv.back sy
 ·refine⟨_,?_,tot⟩
  rw[e1,e2] at wv
  exact wv
structure LR (ts:List Tie)(ks:List Nat)(k:Nat)(ws S:List Nat)(x y:Int):Prop where
 kin:k∈ks
 rt:RtK ts ks k ws S x y
 first:∀ j∈S,k<j
def ringL (ws:List Nat):List Nat:=ws.take 1++(ws.drop 1).reverse
theorem LR.nodupS (ok:WebOk n ts)(ko:KeepOk ts.length ks){k:Nat}{ws S:List Nat}{x y:Int}(h:LR ts ks k ws S x y):(k::S).Nodup/\∀ j∈k::S,j∈ks:=by
 have ko':=bI (k:=k) ko
 refine⟨j0.mpr ⟨λ z=>uap _ (h.first k z),h.rt.nodup (bB ok ko')⟩,λ j hj=>?_⟩
 rcases h9.mp hj with rfl | z
 ·exact h.kin
 ·exact (in_but.mp (gK ok ko' h.rt z)).1
theorem dY (k:Nat)(S:List Nat):Far.sumP (k::S)=2^k+Far.sumP S:=rfl
theorem gJ {k:Nat}{ws S:List Nat}{x y:Int}(r:RtK ts ks k ws S x y):y+2^k=((Far.sumP (k::S):Nat):Int):=by
 rw[r.sum,dY]
 have:((2^k:Nat):Int)=(2:Int)^k:=by norm_cast
 left
theorem LR.one (ok:WebOk n ts)(ko:KeepOk ts.length ks){k k':Nat}{ws S ws' S':List Nat}{x y x' y':Int}(h:LR ts ks k ws S x y)(h':LR ts ks k' ws' S' x' y')(e:y+2^k=y'+2^k'):k=k'/\ws=ws':=by
 have few:=ok.few
 have lt:∀ j,j∈ks->j<60:=λ j hj=>m8 (ko.2 j hj) few
 have n1:=h.nodupS ok ko
 have n2:=h'.nodupS ok ko
 have es:Far.sumP (k::S)=Far.sumP (k'::S'):=by
  rw[gJ h.rt,gJ h'.rt] at e
  exact Int.ofNat.inj e
 have i1:=Far.fF 60 n1.1 n2.1 (λ j hj=>lt j (n1.2 j hj)) (λ j hj=>lt j (n2.2 j hj)) es
 have i2:=Far.fF 60 n2.1 n1.1 (λ j hj=>lt j (n2.2 j hj)) (λ j hj=>lt j (n1.2 j hj)) es.symm
 have ek:k=k':=by
  rcases h9.mp (i1 k (by simp)) with z | z
  ·exact z
  ·rcases h9.mp (i2 k' (by simp)) with z2 | z2
   ·exact z2.symm
   ·have:=h.first _ z2
    have:=h'.first _ z
    left
 subst ek
 have ey:y=y':=by left
 subst ey
 exact⟨rfl,((h.rt.unique (bB ok (bI ko)) h'.rt).1).symm⟩
theorem cN (ok:WebOk n ts)(ko:KeepOk ts.length ks){k:Nat}{ws S:List Nat}{x y:Int}(hk:k∈ks)(r:RtK ts ks k ws S x y):(0<=y+2^k/\y+2^k<2^61)/\0<=rC ts k x y:=by
 have KB:=bB ok (bI (k:=k) ko)
 have b:=r.lt KB
 have px:=r.pos KB
 have tk:=ok.tie _ (aZ (ko.2 k hk)).2
 have lk:k<60:=m8 (ko.2 k hk) ok.few
 have pk:((2^k:Nat):Int)=(2:Int)^k:=by norm_cast
 have p5:((2^59:Nat):Int)=(2:Int)^59:=by norm_cast
 have p1:=Int.ofNat_le.mpr (show (2:Nat)^k<=2^59 from ub9 (by decide) (by left))
 have p0:=Int.ofNat_le.mpr (v4 (2^k))
 rw[pk,p5] at p1
 rw[pk] at p0
 obtain⟨c,ec⟩:∃ c:Int,c=2^k:=⟨_,rfl⟩
 rw[← ec] at p0 p1 ⊢
 refine⟨⟨by left,by left⟩,?_⟩
 unfold rC Far.comb
 simp only
 rw[← ec]
 have:tL ts k=(tieAt ts k).2.2:=rfl
 left
structure FM (ts:List Tie)(ks:List Nat)(k:Nat)(ws S:List Nat)(x y:Int):Prop where
 kin:k∈ks
 rt:RtK ts ks k ws S x y
 least:∀ j∈ks,∀ L,Wk ts ks j L->rC ts k x y<=L+(tL ts j*2^61+2^j)
 first:∀ j∈ks,j<k->∀ L,Wk ts ks j L->rC ts k x y<L+(tL ts j*2^61+2^j)
theorem FM.lr (ok:WebOk n ts)(ko:KeepOk ts.length ks){k:Nat}{ws S:List Nat}{x y:Int}(h:FM ts ks k ws S x y):LR ts ks k ws S x y:=⟨h.kin,h.rt,λ j hj=>by
 have hb:=in_but.mp (gK ok (bI ko) h.rt hj)
 obtain⟨L,w,e⟩:=tM ok ko h.kin h.rt hj
 rcases ubb j k with z | z | z
 ·have:=h.first j hb.1 z L w;left
 ·exact absurd z hb.2
 ·exact z⟩
def IsSho (ts:List Tie)(ks:List Nat)(W:List Nat):Prop:=∃ k ws S x y,LR ts ks k ws S x y/\W=ringL ws/\∀ j∈ks,∀ L,Wk ts ks j L->rC ts k x y<=L+(tL ts j*2^61+2^j)
theorem FM.sho (ok:WebOk n ts)(ko:KeepOk ts.length ks){k:Nat}{ws S:List Nat}{x y:Int}(h:FM ts ks k ws S x y):IsSho ts ks (ringL ws):=⟨k,ws,S,x,y,h.lr ok ko,rfl,h.least⟩
theorem IsSho.one (ok:WebOk n ts)(ko:KeepOk ts.length ks){W W':List Nat}(h:IsSho ts ks W)(h':IsSho ts ks W'):W=W':=by
 obtain⟨k,ws,S,x,y,l,rfl,m⟩:=h
 obtain⟨k',ws',S',x',y',l',rfl,m'⟩:=h'
 have e1:=m k' l'.kin _ l'.rt.walkC
 have e2:=m' k l.kin _ l.rt.walkC
 rw[← fQ] at e1 e2
 have b1:=(cN ok ko l.kin l.rt).1
 have b2:=(cN ok ko l'.kin l'.rt).1
 have e:=Far.gE (c:=(x+tL ts k,y+2^k)) (d:=(x'+tL ts k',y'+2^k')) b1 b2 (by unfold rC at e1 e2;left)
 injection e with _ ey
 rw[(l.one ok ko l' ey).2]
theorem gY (ok:WebOk n ts)(ko:KeepOk ts.length ks){k:Nat}:∀ u v l k',(u,v,l,k')∈arcsB ts (but ks k)->u<n.toNat/\v<n.toNat:=λ u v l k' m=>eH ok (bI ko) m
theorem zag (ok:WebOk n ts)(ko:KeepOk ts.length ks):∀ (N k:Nat)(ws S:List Nat)(x y:Int),k∈ks->RtK ts ks k ws S x y->(rC ts k x y).toNat*64+k<N->∃ k ws S x y,FM ts ks k ws S x y:=by
 intro N
 induction N with
 | zero=>intro k ws S x y _ _ h;left
 | succ N ih =>
  intro k ws S x y hk r hN
  have p:=(cN ok ko hk r).2
  have go:∀ j∈ks,∀ L,Wk ts ks j L->∃ ws S x' y',RtK ts ks j ws S x' y'/\rC ts j x' y'<=L+(tL ts j*2^61+2^j):=λ j hj L w=>by
   have tj:=ok.tie _ (aZ (ko.2 j hj)).2
   obtain⟨ws',S',x',y',r',le⟩:=Far.hZ (bB ok (bI (k:=j) ko)) (gY ok ko) (show eA ts j<n.toNat by show (tieAt ts j).1.toNat<_;left) w
   exact⟨ws',S',x',y',r',by rw[fQ];left⟩
  by_cases c1:∀ j∈ks,∀ L,Wk ts ks j L->rC ts k x y<=L+(tL ts j*2^61+2^j)
  ·by_cases c2:∀ j∈ks,j<k->∀ L,Wk ts ks j L->rC ts k x y<L+(tL ts j*2^61+2^j)
   ·exact⟨k,ws,S,x,y,hk,r,c1,c2⟩
   ·simp only [Classical.not_forall] at c2
    obtain⟨j,hj,jk,L,w,c2⟩:=c2
    obtain⟨ws',S',x',y',r',le⟩:=go j hj L w
    have p':=(cN ok ko hj r').2
    exact ih j ws' S' x' y' hj r' (by left)
  ·simp only [Classical.not_forall] at c1
   obtain⟨j,hj,L,w,c1⟩:=c1
   obtain⟨ws',S',x',y',r',le⟩:=go j hj L w
   have p':=(cN ok ko hj r').2
   have l60:j<60:=m8 (ko.2 j hj) ok.few
   exact ih j ws' S' x' y' hj r' (by left)
theorem lB {K:List Nat}(ok:WebOk n ts)(ko:KeepOk ts.length K){u v k:Nat}(hk:k∈K)(e:tbN ts u v=some k):(u,v,tL ts k,k)∈arcsB ts K:=by
 obtain⟨e1,e2⟩:=jD e
 have ta:=cO (ts:=ts) hk
 rcases Nat.le_total u v with z | z
 ·have a1:(tieAt ts k).1.toNat=u:=by rw[e1];left
  have a2:(tieAt ts k).2.1.toNat=v:=by rw[e2];left
  rw[a1,a2] at ta
  exact ta
 ·have a1:(tieAt ts k).1.toNat=v:=by rw[e1];left
  have a2:(tieAt ts k).2.1.toNat=u:=by rw[e2];left
  rw[a1,a2] at ta
  exact (bB ok ko).sym _ _ _ _ ta
theorem pH {K:List Nat}(ok:WebOk n ts)(ko:KeepOk ts.length K):∀ {l:List Nat}{a:Nat},(a::l).Nodup->Far.chn (adjK ts K) (a::l)->∃ S b x y,Far.Rt (arcsB ts K) a (a::l) S b x y
 | [],a,_,_=>⟨[],a,0,0,.one⟩
 | c::r,a,nd,h=>by
  obtain⟨S,b,x,y,rt⟩:=pH ok ko (j0.mp nd).2 h.2
  obtain⟨k,hk,e⟩:=h.1
  exact⟨_,b,_,_,Far.Rt.cons (bB ok ko) (lB ok ko hk e) rt (j0.mp nd).1⟩
theorem jS (ok:WebOk n ts){i j:Nat}(hi:i<ts.length)(hj:j<ts.length)(h:i<j):eA ts i<eA ts j\/(eA ts i=eA ts j/\eB ts i<eB ts j):=by
 have p:=uas.mp ok.rise i j hi hj h
 have e1:ts[i]=tieAt ts i:=by have:=(aZ hi).1;rw[b6 hi] at this;exact j5 this
 have e2:ts[j]=tieAt ts j:=by have:=(aZ hj).1;rw[b6 hj] at this;exact j5 this
 rw[e1,e2] at p
 have t1:=ok.tie _ (aZ hi).2
 have t2:=ok.tie _ (aZ hj).2
 unfold endLt at p
 show (tieAt ts i).1.toNat<(tieAt ts j).1.toNat\/((tieAt ts i).1.toNat=(tieAt ts j).1.toNat/\(tieAt ts i).2.1.toNat<(tieAt ts j).2.1.toNat)
 left
theorem gU (ok:WebOk n ts){i:Nat}(hi:i<ts.length):eA ts i<eB ts i:=by
 have t1:=ok.tie _ (aZ hi).2
 show (tieAt ts i).1.toNat<(tieAt ts i).2.1.toNat
 left
theorem pI (ok:WebOk n ts)(ko:KeepOk ts.length ks){h w1:Nat}{rest:List Nat}(nd:(h::w1::rest).Nodup)(ne:rest≠[])(tu:Turn h (w1::rest))(c:Far.chn (adjK ts ks) (h::w1::rest++[h])):∃ k ws S x y,LR ts ks k ws S x y/\ringL ws=h::w1::rest:=by
 obtain⟨k,hk,ek⟩:=c.1
 obtain⟨r1,z,rfl⟩:∃ r1 z,rest=r1++[z]:=by
  rcases z9 rest with e | ⟨r1,z,e⟩
  ·exact absurd e ne
  ·exact⟨r1,z,by rw[e];simp⟩
 obtain⟨ws,ews⟩:∃ ws,ws=h::z::(r1.reverse++[w1]):=⟨_,rfl⟩
 have erev:(w1::(r1++[z])++[h]).reverse=ws:=by rw[ews];simp
 have cw:Far.chn (adjK ts ks) ws:=by rw[← erev];exact Far.dC adjK.sym c.2
 have ndw:ws.Nodup:=by
  rw[← erev]
  have:=j0.mp nd
  refine (ub3 _).symm.nodup ?_
  refine uax.mpr ⟨this.2,by simp,λ a ha b hb e=>?_⟩
  rw[d8.mp hb] at e
  exact this.1 (e ▸ ha)
 obtain⟨S,b,x,y,rt⟩:=pH (a:=h) (l:=z::(r1.reverse++[w1])) ok ko (by rw[← ews];exact ndw) (by rw[← ews];exact cw)
 rw[← ews] at rt
 have eb:b=w1:=by
  obtain⟨q,e⟩:=rt.foot
  have:(h::z::r1.reverse)++[w1]=q++[b]:=by rw[← e,ews];simp
  obtain⟨_,y⟩:=uaf this rfl
  cases y;rfl
 subst eb
 have hw:h<b:=by
  have:=tu.1 b (by simp)
  have n1:=(j0.mp nd).1
  rcases ubp h b with q | q
  ·exact q
  ·exact absurd (show h∈b::(r1++[z]) by rw[show h=b by left];simp) n1
 have bz:b<z:=by
  have:=tu.2 b z (r1++[z]) (b::r1) rfl (by simp)
  have n2:=(j0.mp (j0.mp nd).2).1
  rcases ubp b z with q | q
  ·exact q
  ·exact absurd (show b∈r1++[z] by rw[show b=z by left];simp) n2
 obtain⟨t1,t2⟩:=jD ek
 have a1:eA ts k=h:=by show (tieAt ts k).1.toNat=h;rw[t1];left
 have a2:eB ts k=b:=by show (tieAt ts k).2.1.toNat=b;rw[t2];left
 have hkl:=ko.2 k hk
 have big:∀ x∈z::(r1.reverse++[b]),h<x:=λ x hx=>by
  have hx':x∈b::(r1++[z]):=by
   simp only [h9,l8,ua4,u4,or_false] at hx ⊢
   rcases hx with q | q | q
   ·exact .inr (.inr q)
   ·exact .inr (.inl q)
   ·exact .inl q
  have:=tu.1 x hx'
  rcases ubp h x with q | q
  ·exact q
  ·exact absurd (show h∈b::(r1++[z]) by rw[show h=x by left];exact hx') (j0.mp nd).1
 have first:∀ j∈S,k<j:=λ j hj=>by
  have hjk:=gK ok ko rt hj
  have hjl:=ko.2 j hjk
  obtain⟨i,hi,ei⟩:=ua9 hj
  obtain⟨u,v,l,eu,ev,m⟩:=rt.step (i:=i) (k:=j) (by rw[b6 hi,ei])
  have ee:=gU ok hjl
  have ab:=(cI m).2
  have hv:h<v:=by
   rw[ews,ucq] at ev
   exact big v (i9 ev)
  have ends:(u=h/\v=z)\/h<u:=by
   cases i with
   | zero =>
    rw[ews] at eu ev
    apply j7
    exact⟨(j5 eu).symm,(j5 ev).symm⟩
   | succ i =>
    rw[ews,ucq] at eu
    exact .inr (big u (i9 eu))
  rcases ubb j k with q | q | q
  ·have:=jS ok hjl hkl q
   left
  ·rw[q] at ab ee
   left
  ·exact q
 refine⟨k,ws,S,x,y,⟨hk,?_,first⟩,by rw[ews];unfold ringL;simp⟩
 have:=rt.into (B':=arcsB ts (but ks k)) λ u v l j m hj=>pK m (in_but.mpr ⟨(cW m).2,λ q=>uap _ (q ▸ first j hj)⟩)
 show Far.Rt _ (eA ts k) ws S (eB ts k) x y
 rw[a1,a2];exact this
theorem LR.can (ok:WebOk n ts)(ko:KeepOk ts.length ks){k:Nat}{ws S:List Nat}{x y:Int}(h:LR ts ks k ws S x y):∃ w1 rest,ringL ws=eA ts k::w1::rest/\rest≠[]/\(eA ts k::w1::rest).Nodup/\Turn (eA ts k) (w1::rest)/\Far.chn (adjK ts ks) (eA ts k::w1::rest++[eA ts k])/\Far.RingOf ws (eA ts k) (w1::rest)/\w1::rest++[eA ts k]=ws.reverse/\w1=eB ts k:=by
 have ko':=bI (k:=k) ko
 have KB:=bB ok ko'
 have r:=h.rt
 have hkl:=ko.2 k h.kin
 have ek:=gU ok hkl
 have hl:=r.len
 obtain⟨q,e1⟩:=r.head
 obtain⟨p,e2⟩:=r.foot
 obtain⟨c,m,e3⟩:∃ c m,ws=eA ts k::c::(m++[eB ts k]):=by
  cases q with
  | nil =>
   exfalso
   rw[e1] at e2
   cases p with
   | nil=>injection e2 with z _;left
   | cons _ p=>injection e2 with _ z;cases p <;> cases z
  | cons c q =>
   rcases z9 q with z | ⟨m,b,z⟩
   ·exfalso
    subst z
    have ec:c=eB ts k:=by
     have:[eA ts k]++[c]=p++[eB ts k]:=by rw[← e2,e1];rfl
     obtain⟨_,y⟩:=uaf this rfl
     cases y;rfl
    have hS:S.length=1:=by rw[e1] at hl;simp only [k9,uby] at hl;left
    obtain⟨u,v,l,eu,ev,mm⟩:=r.step (i:=0) (k:=S[0]'(by left)) (b6 (by left))
    rw[e1] at eu ev
    have hu:eA ts k=u:=j5 eu
    have hv:c=v:=j5 ev
    have t1:=bS ok ko' mm
    have t2:=bS ok ko (cO h.kin)
    rw[← hu,← hv,ec] at t1
    have t3:tbN ts (eA ts k) (eB ts k)=some k:=t2
    rw[t3] at t1
    have:=(in_but.mp (cW mm).2).2
    exact this (j5 t1).symm
   ·refine⟨c,m,?_⟩
    have:(eA ts k::c::m)++[b]=p++[eB ts k]:=by rw[← e2,e1,z];simp
    obtain⟨_,y⟩:=uaf this rfl
    cases y
    rw[e1,z];simp
 have nd:=r.unlike
 have low:∀ z∈c::(m++[eB ts k]),eA ts k<z:=λ z hz=>by
  obtain⟨i,hi,ei⟩:=ua9 hz
  have hw:ws[i+1]?=some z:=by rw[e3,ucq,b6 hi,ei]
  have hiS:i<S.length:=by
   have:=(i3.mp hw).1
   left
  obtain⟨u,v,l,eu,ev,mm⟩:=r.step (i:=i) (k:=S[i]) (b6 hiS)
  rw[hw] at ev
  cases ev
  have hj:=h.first S[i] (ucg hiS)
  have hjl:=ko'.2 _ (cW mm).2
  have ee:=gU ok hjl
  have lt:=jS ok hkl hjl hj
  have ab:=(cI mm).2
  have ne:z≠eA ts k:=λ y=>by
   rw[e3] at nd
   exact (j0.mp nd).1 (y ▸ hz)
  left
 have bc:eB ts k<c:=by
  have hS:0<S.length:=by rw[e3] at hl;simp only [k9] at hl;left
  obtain⟨u,v,l,eu,ev,mm⟩:=r.step (i:=0) (k:=S[0]) (b6 hS)
  rw[e3] at eu ev
  have hu:eA ts k=u:=j5 eu
  have hv:c=v:=j5 ev
  have hj:=h.first S[0] (ucg hS)
  have hjl:=ko'.2 _ (cW mm).2
  have ee:=gU ok hjl
  have lt:=jS ok hkl hjl hj
  have ab:=(cI mm).2
  have:=low c (by simp)
  left
 refine⟨eB ts k,m.reverse++[c],by rw[e3];unfold ringL;simp,by simp,?_,⟨λ z hz=>?_,λ u v p q z1 z2=>?_⟩,?_,⟨[],c::(m++[eB ts k]),e3,.inr (by simp)⟩,by rw[e3];simp,rfl⟩
 ·have:(ringL ws).Perm ws:=by
   rw[e3];unfold ringL
   simp only [List.take_succ_cons,List.take_zero,List.drop_succ_cons,ubu,List.singleton_append]
   exact udm.cons _ (ub3 _)
  have:=this.symm.nodup nd
  rw[e3] at this
  unfold ringL at this
  simpa using this
 ·refine uc2 (low z ?_)
  simp only [h9,l8,ua4,u4,or_false] at hz ⊢
  rcases hz with y | y | y
  ·exact .inr (.inr y)
  ·exact .inr (.inl y)
  ·exact .inl y
 ·have h1:u=eB ts k:=by injection z1 with y _;exact y.symm
  have h2:v=c:=by
   have:(eB ts k::m.reverse)++[c]=q++[v]:=by rw[← z2];simp
   obtain⟨_,y⟩:=uaf this rfl
   cases y;rfl
  left
 ·refine⟨?_,?_⟩
  ·exact⟨k,h.kin,bS ok ko (cO h.kin)⟩
  ·have:=Far.dC adjK.sym (r.chn λ u v l k' mm=>jL ok ko (λ j hj=>(in_but.mp hj).1) ko' mm)
   rw[e3] at this
   simpa using this
theorem lC {l m:List Int}(p:l.Perm m):l.sum=m.sum:=by
 induction p with
 | nil=>rfl
 | cons x _ ih=>rw[ubq,ubq,ih]
 | swap x y l=>rw[ubq,ubq,ubq,ubq];left
 | trans _ _ a b=>exact a.trans b
theorem wS {ws:List Nat}(nd:ws.Nodup)(l3:3<=ws.length){h h':Nat}{tl tl':List Nat}(r:Far.RingOf ws h tl)(t:Turn h tl)(r':Far.RingOf ws h' tl')(t':Turn h' tl'):h=h'/\tl=tl':=by
 have eh:h=h':=by
  have m1:h'∈h::tl:=r.mem.mpr (r'.mem.mp (by simp))
  have m2:h∈h'::tl':=r'.mem.mpr (r.mem.mp (by simp))
  rcases h9.mp m1 with z | z
  ·exact z.symm
  ·rcases h9.mp m2 with z2 | z2
   ·exact z2
   ·have:=t.1 _ z
    have:=t'.1 _ z2
    left
 subst eh
 refine⟨rfl,?_⟩
 obtain⟨p,q,e,c⟩:=r
 obtain⟨p',q',e',c'⟩:=r'
 have pq:p=p'/\q=q':=by
  have go:∀ (p p' q q':List Nat),(p++h::q).Nodup->p++h::q=p'++h::q'->p=p'/\q=q':=by
   intro p
   induction p with
   | nil =>
    intro p' q q' nd e
    cases p' with
    | nil=>injection e with _ e;exact⟨rfl,e⟩
    | cons z p' =>
     injection e with e1 e2
     exact absurd (show h∈q by rw[e2];simp) (j0.mp nd).1
   | cons z p ih =>
    intro p' q q' nd e
    cases p' with
    | nil =>
     injection e with e1 e2
     rw[e1] at nd
     exact absurd (show h∈p++h::q by simp) (j0.mp nd).1
    | cons z' p' =>
     injection e with e1 e2
     obtain⟨a,b⟩:=ih p' q q' (j0.mp nd).2 e2
     exact⟨by rw[e1,a],b⟩
  exact go p p' q q' (e ▸ nd) (e.symm.trans e')
 obtain⟨rfl,rfl⟩:=pq
 obtain⟨X,eX⟩:∃ X,X=q++p:=⟨_,rfl⟩
 rw[← eX] at c c'
 have lX:2<=X.length:=by rw[e] at l3;rw[eX];simp only [d6,k9] at l3 ⊢;left
 have ndX:X.Nodup:=by
  rw[eX]
  rw[e] at nd
  have:=(List.perm_middle (a:=h) (l₁:=p) (l₂:=q)).nodup nd
  exact (List.perm_append_comm (l₁:=p) (l₂:=q)).nodup (j0.mp this).2
 obtain⟨u,r1,eu⟩:∃ u r1,X=u::r1:=by
  cases X with
  | nil=>simp at lX
  | cons u r1=>exact⟨u,r1,rfl⟩
 obtain⟨r2,v,ev⟩:∃ r2 v,X=r2++[v]:=by
  rcases z9 X with z | ⟨r2,v,z⟩
  ·rw[z] at eu;cases eu
  ·exact⟨r2,v,by rw[z];simp⟩
 have rev1:X.reverse=v::r2.reverse:=by rw[ev];simp
 have rev2:X.reverse=r1.reverse++[u]:=by rw[eu];simp
 have no:¬ (u<=v/\v<=u):=λ ⟨a,b⟩=>by
  have e0:u=v:=by left
  subst e0
  rw[eu] at ev ndX lX
  cases r2 with
  | nil=>cases ev;simp at lX
  | cons z r2 =>
   injection ev with _ e2
   exact (j0.mp ndX).1 (by rw[e2];simp)
 rcases c with c | c <;> rcases c' with c' | c'
 ·rw[c,c']
 ·subst c c'
  exact absurd ⟨t.2 u v r1 r2 eu ev,t'.2 v u _ _ rev1 rev2⟩ no
 ·subst c c'
  exact absurd ⟨t'.2 u v r1 r2 eu ev,t.2 v u _ _ rev1 rev2⟩ no
 ·rw[c,c']
theorem nO:∀ {D D':List Nat},D.Pairwise (·>·)->D'.Pairwise (·>·)->Far.sumP D<Far.sumP D'->HT.lexLt (keepI D) (keepI D')=true
 | _,[],_,_,h=>absurd h (ub0 _)
 | [],d'::r',_,_,_=>rfl
 | d::r,d'::r',p,p',h=>by
  have q:=ude.mp p
  have q':=ude.mp p'
  show HT.lexLt ((d:Int)::keepI r) ((d':Int)::keepI r')=true
  rw[HT.dX]
  rw[dY,dY] at h
  rcases ubb d d' with c | c | c
  ·rw[uf8 (by left)];exact uf3 (by left)
  ·subst c
   rw[uf7 rfl]
   exact nO q.2 q'.2 (by left)
  ·exfalso
   have nd:(d'::r').Nodup:=p'.imp λ h e=>by left
   have:=Far.fH (d'+1) nd λ k hk=>by
    rcases h9.mp hk with z | z
    ·left
    ·have:=q'.1 k z;left
   rw[dY] at this
   have:2^(d'+1)<=2^d:=ub9 (by decide) (by left)
   left
def tieL (ts:List Tie)(W:List Nat):List Nat:=(c9 ts.length).filter λ k=>decide (k∈alongN ts (W++W.take 1))
def heavyK (ts:List Tie)(W:List Nat):Int × List Int:=(((tieL ts W).map (tL ts)).sum,keepI (tieL ts W).reverse)
theorem LR.heavy (ok:WebOk n ts)(ko:KeepOk ts.length ks){k:Nat}{ws S:List Nat}{x y:Int}(h:LR ts ks k ws S x y):(heavyK ts (ringL ws)).1=x+tL ts k/\((Far.sumP (tieL ts (ringL ws)).reverse:Nat):Int)=y+2^k:=by
 have ko':=bI (k:=k) ko
 have KB:=bB ok ko'
 obtain⟨w1,rest,eW,_,_,_,_,_,erev,ew1⟩:=h.can ok ko
 have eal:alongN ts (ringL ws++(ringL ws).take 1)=k::S.reverse:=by
  have e1:ringL ws++(ringL ws).take 1=eA ts k::ws.reverse:=by rw[eW,← erev];rfl
  rw[e1]
  have e2:=jC ok ko' (h.rt.back KB)
  have e3:ws.reverse=w1::(rest++[eA ts k]):=erev.symm
  rw[e3] at e2 ⊢
  have t2:tbN ts (eA ts k) w1=some k:=by rw[ew1];exact bS ok ko (cO h.kin)
  have:alongN ts (eA ts k::w1::(rest++[eA ts k]))=((tbN ts (eA ts k) w1).getD 0)::alongN ts (w1::(rest++[eA ts k])):=by
   unfold alongN
   simp only [k9,Nat.add_sub_cancel]
   rw[udx,ua1,ubd]
   rfl
  rw[this,t2,e2];rfl
 have n1:=h.nodupS ok ko
 have pm:(tieL ts (ringL ws)).Perm (k::S):=by
  have nd2:(tieL ts (ringL ws)).Nodup:=udr.sublist ucj
  refine (ufo nd2 n1.1).mpr λ j=>?_
  unfold tieL
  rw[w8,o9,eal,decide_eq_true_iff]
  constructor
  ·rintro ⟨_,b⟩
   rcases h9.mp b with z | z
   ·exact h9.mpr (.inl z)
   ·exact h9.mpr (.inr (ua4.mp z))
  ·intro b
   refine⟨ko.2 j (n1.2 j b),?_⟩
   rcases h9.mp b with z | z
   ·exact h9.mpr (.inl z)
   ·exact h9.mpr (.inr (ua4.mpr z))
 refine⟨?_,?_⟩
 ·show ((tieL ts (ringL ws)).map (tL ts)).sum=_
  rw[lC (pm.map (tL ts))]
  have:=h.rt.lens (f:=tL ts) λ u v l k m=>(cI m).1
  rw[ua1,ubq,this];left
 ·rw[Far.dJ (ub3 _),Far.dJ pm,gJ h.rt]
theorem kZ (ts:List Tie)(W:List Nat):(tieL ts W).reverse.Pairwise (·>·):=by
 rw[List.pairwise_reverse]
 exact udy.sublist ucj
def keyW (ts:List Tie)(W:List Nat):HT.Key3:=((heavyK ts W).1,(heavyK ts W).2,keepI W)
theorem yP (ok:WebOk n ts)(ko:KeepOk ts.length ks){RS:List (List Nat)}(can:∀ W∈RS,∃ k ws S x y,LR ts ks k ws S x y/\ringL ws=W){W0 W:List Nat}(h0:W0∈RS)(s0:IsSho ts ks W0)(hW:W∈RS)(m:∀ W'∈RS,HT.lessN (keyW ts W') (keyW ts W)=false):IsSho ts ks W:=by
 obtain⟨k0,ws0,S0,x0,y0,l0,rfl,le0⟩:=s0
 obtain⟨k,ws,S,x,y,l,rfl⟩:=can W hW
 refine⟨k,ws,S,x,y,l,rfl,λ j hj L w=>ue7 ?_ (le0 j hj L w)⟩
 have h1:=l0.heavy ok ko
 have h2:=l.heavy ok ko
 have b1:=(cN ok ko l0.kin l0.rt).1
 have b2:=(cN ok ko l.kin l.rt).1
 have:=m _ h0
 unfold HT.lessN keyW at this
 dsimp only at this
 unfold rC Far.comb
 simp only
 by_cases c:(heavyK ts (ringL ws0)).1=(heavyK ts (ringL ws)).1
 ·rw[uf7 c] at this
  rw[h1.1,h2.1] at c
  by_cases q:(y0+2^k0)<(y+2^k)
  ·exfalso
   have lt:=nO (kZ ts (ringL ws0)) (kZ ts (ringL ws)) (by have:=h1.2;have:=h2.2;left)
   have ne:¬ (heavyK ts (ringL ws0)).2=(heavyK ts (ringL ws)).2:=λ z=>by
    have z':keepI (tieL ts (ringL ws0)).reverse=keepI (tieL ts (ringL ws)).reverse:=z
    rw[z',HT.fA] at lt;cases lt
   rw[uf8 ne] at this
   have t2:HT.lexLt (keepI (tieL ts (ringL ws0)).reverse) (keepI (tieL ts (ringL ws)).reverse)=false:=this
   rw[t2] at lt;cases lt
  ·left
 ·rw[uf8 c] at this
  have:=uf6 this
  rw[h1.1,h2.1] at c this
  left
theorem zah (ok:WebOk n ts)(ko:KeepOk ts.length ks)(u v:Nat)(h:Adj ts ks u v):adjK ts ks u v:=by
 obtain⟨k,hk,m⟩:=h
 refine⟨k,hk,bS ok ko (l:=(tieAt ts k).2.2) (arcsB_mem.mpr ⟨k,hk,arcs2B_mem.mpr ?_⟩)⟩
 rcases a2_iff.mp m with z | z
 ·apply j7;rw[z.1,z.2]
 ·apply ueu;rw[z.1,z.2]
theorem zai (ok:WebOk n ts)(ko:KeepOk ts.length ks)(u v:Nat)(h:adjK ts ks u v):Adj ts ks u v:=by
 obtain⟨k,hk,e⟩:=h
 exact⟨k,hk,a2_iff.mpr (cI (lB ok ko hk e)).2⟩
theorem zae (ok:WebOk n ts)(ko:KeepOk ts.length ks){h:Nat}{tl:List Nat}(r:Lr.Rg (Adj ts ks) h tl)(c:Lr.Cano h tl):∃ k ws S x y,LR ts ks k ws S x y/\ringL ws=h::tl:=by
 obtain⟨up,w1,m,y,rfl,lt⟩:=c
 refine pI ok ko r.nd (by simp) ⟨λ v hv=>uc2 (up v hv),λ u v p q z1 z2=>?_⟩ (Lr.gG (zah ok ko) r.ch)
 have h1:u=w1:=by injection z1 with y _;exact y.symm
 have h2:v=y:=by
  have:(w1::m)++[y]=q++[v]:=by rw[← z2];simp
  obtain⟨_,y⟩:=uaf this rfl
  cases y;rfl
 left
theorem LR.rg (ok:WebOk n ts)(ko:KeepOk ts.length ks){k:Nat}{ws S:List Nat}{x y:Int}(h:LR ts ks k ws S x y):∃ h' tl,ringL ws=h'::tl/\Lr.Rg (Adj ts ks) h' tl/\Lr.Cano h' tl/\Turn h' tl/\Far.RingOf ws h' tl:=by
 obtain⟨w1,rest,e,ne,nd,tu,ch,ro,_⟩:=h.can ok ko
 have l2:2<=(w1::rest).length:=by
  cases rest with
  | nil=>exact absurd rfl ne
  | cons a b=>simp only [k9];left
 obtain⟨r1,z,er⟩:∃ r1 z,rest=r1++[z]:=by
  rcases z9 rest with e | ⟨r1,z,e⟩
  ·exact absurd e ne
  ·exact⟨r1,z,by rw[e];simp⟩
 refine⟨eA ts k,w1::rest,e,⟨l2,nd,Lr.gG (zai ok ko) ch⟩,⟨λ v hv=>?_,w1,r1,z,by rw[er],?_⟩,tu,ro⟩
 ·have:=tu.1 v hv
  have:v≠eA ts k:=λ y=>(j0.mp nd).1 (y ▸ hv)
  left
 ·have:=tu.2 w1 z rest (w1::r1) rfl (by rw[er];rfl)
  have:w1≠z:=λ y=>(j0.mp (j0.mp nd).2).1 (by rw[er,y];simp)
  left
theorem uT (ok:WebOk n ts)(ko:KeepOk ts.length ks){k:Nat}{ws:List Nat}(hk:k∈ks)(mw:Far.MinW (arcsB ts (but ks k)) (eA ts k) (eB ts k) ws){h:Nat}{tl:List Nat}(ro:Far.RingOf ws h tl)(tu:Turn h tl):∃ k ws S x y,LR ts ks k ws S x y/\ringL ws=h::tl:=by
 have ch:=tU ok ko hk mw ro
 have nd:=ro.nodup mw.nodup
 have l3:=eU ok ko hk mw
 have ll:=ro.len
 obtain⟨w1,rest,rfl⟩:∃ w1 rest,tl=w1::rest:=by
  cases tl with
  | nil=>simp at ll;left
  | cons a b=>exact⟨a,b,rfl⟩
 exact pI ok ko nd (λ z=>by rw[z] at ll;simp at ll;left) tu ch
theorem LR.len (ok:WebOk n ts)(ko:KeepOk ts.length ks){k:Nat}{ws S:List Nat}{x y:Int}(h:LR ts ks k ws S x y):(ringL ws).length=ws.length/\ws.length<=24/\∀ p∈ws,p<n.toNat:=by
 have inn:=gY (k:=k) ok ko
 have t1:=ok.tie _ (aZ (ko.2 k h.kin)).2
 have pl:=h.rt.places (show eA ts k<n.toNat by show (tieAt ts k).1.toNat<_;left) inn
 have n24:=ok.n24
 refine⟨by unfold ringL;rw[d6,u7,uag,p9];have:=h.rt.len;left,?_,pl⟩
 have:=Peel.dZ n.toNat ws h.rt.unlike pl
 left
theorem FM.minw (ok:WebOk n ts)(ko:KeepOk ts.length ks){k:Nat}{ws S:List Nat}{x y:Int}(h:FM ts ks k ws S x y):Far.MinW (arcsB ts (but ks k)) (eA ts k) (eB ts k) ws:=by
 refine⟨S,x,y,h.rt,λ L w=>?_⟩
 have:=h.least k h.kin L w
 rw[fQ] at this
 left
theorem pN (ok:WebOk n ts)(ko:KeepOk ts.length ks){k:Nat}(hk:k∈ks)(d:Far.Dst (arcs ts (but ks k)) (eA ts k) (eB ts k) none){L:Int}(w:Wk ts ks k L):False:=by
 have t1:=ok.tie _ (aZ (ko.2 k hk)).2
 obtain⟨ws,S,x,y,r,_⟩:=Far.hZ (bB ok (bI (k:=k) ko)) (gY ok ko) (show eA ts k<n.toNat by show (tieAt ts k).1.toNat<_;left) w
 have w1:=r.walk
 rw[cZ] at w1
 obtain⟨z,e,_⟩:=d.2 _ w1
 cases e
theorem wZ {a b c d:Int}(h1:0<=b/\b<2^61)(h2:0<=d/\d<2^61):(HT.lexLt [a,b] [c,d]=true)↔Far.comb (a,b)<Far.comb (c,d):=by
 unfold Far.comb
 simp only
 rw[HT.dX]
 by_cases e:a=c
 ·rw[uf7 e,HT.dX]
  by_cases e2:b=d
  ·rw[uf7 e2,HT.kC];subst e e2;simp
  ·rw[uf8 e2,decide_eq_true_iff];subst e;left
 ·rw[uf8 e,decide_eq_true_iff];left
theorem nR (ok:WebOk n ts)(ko:KeepOk ts.length ks){k:Nat}{ws S:List Nat}{x y:Int}(hk:k∈ks)(r:RtK ts ks k ws S x y):ringL ws++(ringL ws).take 1=eA ts k::ws.reverse/\linked ts (eA ts k::ws.reverse)/\((alongN ts (eA ts k::ws.reverse)).map (tL ts)).sum=x+tL ts k/\((Far.sumP (alongN ts (eA ts k::ws.reverse)):Nat):Int)=y+2^k:=by
 have ko':=bI (k:=k) ko
 have KB:=bB ok ko'
 obtain⟨q,e1⟩:=r.head
 obtain⟨p,e2⟩:=r.foot
 have er:ws.reverse=eB ts k::p.reverse:=by rw[e2];simp
 have tb:tbN ts (eA ts k) (eB ts k)=some k:=bS ok ko (cO hk)
 have al:alongN ts (eA ts k::ws.reverse)=k::S.reverse:=by
  have e3:=jC ok ko' (r.back KB)
  rw[er] at e3 ⊢
  have:alongN ts (eA ts k::eB ts k::p.reverse)=((tbN ts (eA ts k) (eB ts k)).getD 0)::alongN ts (eB ts k::p.reverse):=by
   unfold alongN
   simp only [k9,Nat.add_sub_cancel]
   rw[udx,ua1,ubd]
   rfl
  rw[this,tb,e3];rfl
 refine⟨by rw[e1];unfold ringL;simp,?_,?_,?_⟩
 ·refine kU (ks:=ks) ko ?_
  have c:=Far.dC adjK.sym (r.chn λ u v l k' mm=>jL ok ko (λ j hj=>(in_but.mp hj).1) ko' mm)
  rw[er] at c ⊢
  exact⟨⟨k,hk,tb⟩,c⟩
 ·have l:=r.lens (f:=tL ts) λ u v l k m=>(cI m).1
  rw[al,ua1,ubq,lC ((ub3 S).map (tL ts)),l];left
 ·rw[al,gJ r,dY,dY,Far.dJ (ub3 S)]
theorem oS (ok:WebOk n ts)(ko:KeepOk ts.length ks){k:Nat}{ws S:List Nat}{x y:Int}(r:RtK ts ks k ws S x y):(ringL ws).length=ws.length:=by
 unfold ringL;rw[d6,u7,uag,p9];have:=r.len;left
end
end L3
namespace Z3
open PySem
section
variable {prog:j9}{w:v9}{A:v7}{E:b9->c7->Prop}{s:c7}
end
end Z3
namespace L3
open PySem PySem.Spec PyProof.Rows L2
def PairsL (H:Hp)(xs ys zs:List V)(m:Nat):Prop:=zs.length=m/\∀ (j:Nat)(z:V),zs[j]?=some z->∃ (T:j8)(x y:V),z=V.ref T/\xs[j]?=some x/\ys[j]?=some y/\H T=some (.tup [x,y])
theorem PairsL.tk {H H':Hp}{xs ys zs:List V}{m:Nat}(k:TupKeep H H')(h:PairsL H xs ys zs m):PairsL H' xs ys zs m:=⟨h.1,λ j z e=>let ⟨T,x,y,a,b,c,d⟩:=h.2 j z e;⟨T,x,y,a,b,c,k _ _ d⟩⟩
section
variable {X:Cx}{pins:List (j8 × Obj)}{σ:L2.St}
end
end L3
namespace Rv
open PySem PyProof.Rows
theorem tc:TypeCalled "reversed" "reversed.__new__" "object.__init__" where
 notType:=by symm
 canCreate:=by kernel_rfl
 mro:=⟨.type "reversed",[.type "object"],by kernel_rfl⟩
 made:=by kernel_rfl
 plain:=by symm
 sub:=by rw[ubn];kernel_rfl
 init:=.of (owner:="object") (n:="__init__") (by rw[ubt,uaz];kernel_rfl) (by symm) (by symm) (by symm) (by first | exact .inl (by symm) | exact .inr (by symm)) (by rw[ubn];kernel_rfl)
theorem zaa:entryFor table "reversed.__new__"=some Builtin.«reversed.__new__»:=ueb (by kernel_rfl)
theorem jJ:entryFor table "reversed.__next__"=some Builtin.«reversed.__next__»:=ueb (by kernel_rfl)
theorem tc1 (a:b9):checkTypeCall "reversed" ⟨[a],[]⟩=pure ():=by kernel_rfl
theorem nc1 (a:b9):checkBuiltinCall "reversed.__new__" ⟨[.type "reversed",a],[]⟩=pure ():=by kernel_rfl
theorem sl_next:Slot "reversed" "__next__" "reversed.__next__":=.of (owner:="reversed") (n:="__next__") (by rw[ubt,uaz];kernel_rfl) (by symm) (by symm) (by symm) (by first | exact .inl (by symm) | exact .inr (by symm)) (by rw[ubn];kernel_rfl)
theorem nP:isSubtype (.type "reversed") (.type "reversed")=pure true:=by rw[ubn];kernel_rfl
theorem uP:typeLookup (.type "tuple") "__reversed__"=pure none:=by rw[ubt,uaz];kernel_rfl
theorem uV:typeLookup (.type "reversed") "__len__"=pure none:=by rw[ubt,uaz];kernel_rfl
theorem sl_hint:Slot "reversed" "__length_hint__" "reversed.__length_hint__":=.of (owner:="reversed") (n:="__length_hint__") (by rw[ubt,uaz];kernel_rfl) (by symm) (by symm) (by symm) (.inr (by symm)) (by rw[ubn];kernel_rfl)
theorem zA:entryFor table "reversed.__length_hint__"=some Builtin.«reversed.__length_hint__»:=ueb (by kernel_rfl)
theorem jF:Slot "reversed" "__iter__" "reversed.__iter__":=.of (owner:="reversed") (n:="__iter__") (by rw[ubt,uaz];kernel_rfl) (by symm) (by symm) (by symm) (by first | exact .inl (by symm) | exact .inr (by symm)) (by rw[ubn];kernel_rfl)
theorem oH:entryFor table "reversed.__iter__"=some Builtin.«dict_keyiterator.__iter__»:=entryFor_alias (id':="dict_keyiterator.__iter__") (by kernel_rfl) (by first | rfl | decide +kernel | (unfold String.splitOn;simp +decide [String.splitOnAux])) (by symm) (by kernel_rfl)
theorem ow:Manifest.owners.lookup (String.ofList ['d','e','s','r','e','v','e','r'].reverse)=some Manifest.sig_reversed:=by kernel_rfl
theorem oR (a:b9):argsOk "reversed.__iter__" ⟨[a],[]⟩:=by
 unfold argsOk;rw[ud7 (id:="reversed.__iter__") (n:=['_','_','r','e','t','i','_','_']) (o:=['d','e','s','r','e','v','e','r']) (by kernel_rfl) ow];kernel_rfl
theorem jK (a:b9):argsOk "reversed.__next__" ⟨[a],[]⟩:=by
 unfold argsOk;rw[ud7 (id:="reversed.__next__") (n:=['_','_','t','x','e','n','_','_']) (o:=['d','e','s','r','e','v','e','r']) (by kernel_rfl) ow];kernel_rfl
theorem zE (a:b9):argsOk "reversed.__length_hint__" ⟨[a],[]⟩:=by
 unfold argsOk;rw[ud7 (id:="reversed.__length_hint__") (n:=['_','_','t','n','i','h','_','h','t','g','n','e','l','_','_']) (o:=['d','e','s','r','e','v','e','r']) (by kernel_rfl) ow];kernel_rfl
abbrev IsR (h:Heap)(r t:j8)(i:Int):Prop:=h.get? r=some { cls:=.type "reversed",dict:=none,data:=.fields #[.ref t,rawInt i],slots:=#[] }
theorem tS:isSubtype (.type "tuple") (.type "dict")=pure false:=by rw[ubn];kernel_rfl
section
variable {prog:j9}{w:v9}{A:v7}{E:b9->c7->Prop}{s:c7}{r t:j8}{items:Array b9}
theorem yJ (t:j8)(items:Array b9) :
  Meets (Builtin.«reversed.__new__» ⟨[.type "reversed",.ref t],[]⟩) (λ _ R s=>IsTup s.heap t items/\(items.size:Int)<2^63/\∀ tk,R (.ok (.ret (.ref s.heap.objs.size))) { s with heap:=s.heap.push { cls:=.type "reversed",data:=.fields #[.ref t,rawInt ((items.size:Int)-1)] },toks:=tk }) :=
 .of_wp λ prog w A R s h=>by
  obtain⟨hp,g,d,tk,os⟩:=s;obtain⟨hl,l63,h⟩:=h
  have hsub:=nP
  have h1:=uP
  have h2:=uez.lookup
  have h3:=tS
  have hT:Shared.TypeIs ⟨hp,g,d,tk,os⟩ (.ref t) "tuple":=hl.typeIs
  wp_walk using ucs hT,len_tuple hl l63
  exact⟨_,rfl,h _⟩
theorem call_rev {Q:b9->c7->Prop}(hl:IsTup s.heap t items)(l63:(items.size:Int)<2^63)
  (h:∀ h' tk,IsR h' s.heap.objs.size t ((items.size:Int)-1)->h'.objs.size=s.heap.objs.size+1->(∀ b o,s.heap.get? b=some o->h'.get? b=some o)->Q (.ref s.heap.objs.size) { s with heap:=h',toks:=tk }) :
  k8 (v5 prog w) A (call (.type "reversed") [.ref t]) Q E s:=by
 refine ufq tc (by decide) (tc1 _) (nc1 _) (λ obj=>ue0 obj _) zaa (yJ t items) ⟨hl,l63,λ tk=>?_⟩
 have g:(s.heap.push { cls:=.type "reversed",data:=.fields #[.ref t,rawInt ((items.size:Int)-1)] }).get? s.heap.objs.size=some _:=i8 _ rfl
 exact⟨⟨_,g,rfl⟩,h _ tk g (uao ..) λ b o q=>b7 _ q⟩
theorem wT {i:Nat}{x:b9}{Q:Option b9->c7->Prop}(hr:IsR s.heap r t i)(ht:IsTup s.heap t items)(l63:(items.size:Int)<2^63)(hx:items[i]?=some x)
  (h:∀ h' tk,IsR h' r t ((i:Int)-1)->Heap.SameBut r s.heap h'->Q (some x) { s with heap:=h',toks:=tk }):k8 (v5 prog w) A (pyNext (.ref r)) Q E s:=by
 have hT:s.TypeIs (.ref r) "reversed":=⟨_,hr,rfl⟩
 have hi:i<items.size:=(Array.getElem?_eq_some_iff.mp hx).1
 unfold pyNext
 refine a8 (uce (v6 (name:=u6 "__next__") hT sl_next (uaa sl_next hT jJ ?_ (jK _))))
 show k8 _ _ (field (.ref r) 0 >>= _) _ _ s
 refine a8 (p7 hr rfl (x:=.ref t) rfl ?_)
 show k8 _ _ (field (.ref r) 1 >>= _) _ _ s
 refine a8 (p7 hr rfl (x:=.int i 0) rfl ?_)
 have h0:¬ (i:Int)<0:=by left
 have h2:=uez.lookup
 have hTt:s.TypeIs (.ref t) "tuple":=ht.typeIs
 simp only [h0,if_false]
 refine a8 (ueh hTt h2 ?_)
 show k8 _ _ (mkInt (i:Int) >>= _) _ _ s
 refine a8 (wpAny_mkInt ?_)
 have sx:seqIndex? (i:Int) items.size=some i:=PySem.StrLaws.seqIndex_nonneg (by left) (by left)
 refine a8 (uce (getItem_tuple (s:={ s with toks:=s.toks+1 }) ht (by left) (by left) sx hx ?_))
 show k8 _ _ (field (.ref r) 1 >>= _) _ _ _
 refine a8 (p7 (s:={ s with toks:=s.toks+1 }) hr rfl (x:=.int i 0) rfl ?_)
 show k8 _ _ (setField (.ref r) 1 (rawInt ((i:Int)-1)) >>= _) _ _ _
 refine a8 (x8 (s:={ s with toks:=s.toks+1 }) hr (by simp) λ h' z1 e1=>?_)
 exact d3 ⟨_,rfl,d3 (h h' _ z1 e1)⟩
theorem yK {Q:Option b9->c7->Prop}(hh:A.handled=none)(hr:IsR s.heap r t (-1))
  (h:∀ h',(∀ b o,b≠r->s.heap.get? b=some o->h'.get? b=some o)->Q none { s with heap:=h' }):k8 (v5 prog w) A (pyNext (.ref r)) Q E s:=by
 have hT:s.TypeIs (.ref r) "reversed":=⟨_,hr,rfl⟩
 unfold pyNext
 refine a8 (uce (v6 (name:=u6 "__next__") hT sl_next (uaa sl_next hT jJ ?_ (jK _))))
 show k8 _ _ (field (.ref r) 0 >>= _) _ _ s
 refine a8 (p7 hr rfl (x:=.ref t) rfl ?_)
 show k8 _ _ (field (.ref r) 1 >>= _) _ _ s
 refine a8 (p7 hr rfl (x:=.int (-1) 0) rfl ?_)
 have h0:(-1:Int)<0:=by left
 simp only [h0,if_true]
 refine a8 (udh ?_)
 refine a8 ?_
 wp_delta
 refine a8 (x8 hr (by simp) λ h1 z1 e1=>?_)
 refine x8 (s:={ s with heap:=h1 }) z1 (by simp) λ h2 z2 e2=>?_
 refine a8 ?_
 unfold Builtin.SmallTypes.stopIteration
 show k8 _ _ (newExc (.type "StopIteration") [] >>= _) _ _ { s with heap:=_ }
 refine a8 (by
  simp only [newExc,newTuple]
  refine a8 (u5 ?_ (by size_fits))
  refine a8 (m:=firstArgMember _ _) (ud6 (a:=Value.none) (by first | rfl | (simp only [firstArgMember];rfl)) ?_)
  refine u5 ?_ (by size_fits)
  simp only [raiseNew]
  refine a8 (wpAny_handled ?_)
  first | rw[show A.in1.handled=none from hh] | rw[hh]
  refine a8 (d3 (wpAny_throw ?_))
  refine a8 (uea (T:="StopIteration") (b:=true) ⟨_,i8 _ rfl,rfl⟩ isSubtype_stop (d3 (h _ λ b o hb q=>?_)))
  exact b7 _ (b7 _ (e2.extBut _ _ hb (e1.extBut _ _ hb q))))
theorem tup_to {h h':Heap}(x:IsTup h t items)(e:∀ o,h.get? t=some o->h'.get? t=some o):IsTup h' t items:=by
 obtain⟨o,ho,hr⟩:=x
 exact⟨o,e o ho,hr⟩
theorem xF {i:Nat}{Q:Bool->c7->Prop}(hr:IsR s.heap r t ((i:Int)-1))(ht:IsTup s.heap t items)(l:items.size<=1000)(hi:i<=items.size)
  (h:∀ tk b,Q b { s with toks:=tk }):k8 (v5 prog w) A (Builtin.List.listLengthHint (.ref r)) Q E s:=by
 have hT:s.TypeIs (.ref r) "reversed":=⟨_,hr,rfl⟩
 unfold Builtin.List.listLengthHint
 refine a8 (ueh hT uV ?_)
 show k8 _ _ (specialOf (Value.ref r) (u6 "__length_hint__") >>= _) _ _ _
 refine a8 (ueh hT sl_hint.lookup ?_)
 generalize hid:("reversed.__length_hint__":String)=id0
 wp_delta
 rw[show splitId id0=some ("reversed","__length_hint__") from by subst hid;decide +kernel]
 subst hid
 refine a8 (uea (T:="reversed") (b:=true) hT nP (wpAny_ite_split (λ z=>absurd z (by decide)) λ _=>?_))
 refine wpAny_ite_split (λ z=>absurd z (by symm)) λ _=>?_
 refine a8 (udh ?_)
 refine a8 (ud6 (sl_hint.bind (.ref r)) ?_)
 refine a8 (uce (uaa sl_hint hT zA ?_ (zE _)))
 show k8 _ _ (field (.ref r) 0 >>= _) _ _ s
 refine a8 (p7 hr rfl (x:=.ref t) rfl ?_)
 have hn:((Value.ref t==Value.none)=true)=False:=by simp
 simp only [hn,if_false]
 refine a8 (len_tuple ht (by left) ?_)
 refine a8 (ud6 (a:=some (items.size:Int)) rfl ?_)
 show k8 _ _ (field (.ref r) 1 >>= _) _ _ _
 refine a8 (p7 (s:={ s with toks:=s.toks+1+1 }) hr rfl (x:=.int ((i:Int)-1) 0) rfl ?_)
 show k8 _ _ (if (items.size:Int)<(i:Int)-1+1 then _ else _) _ _ _
 rw[uf8 (by left)]
 show k8 _ _ (mkInt ((i:Int)-1+1) >>= _) _ _ _
 refine a8 (wpAny_mkInt (d3 ⟨_,rfl,?_⟩))
 refine a8 (ud6 (a:=some ((i:Int)-1+1)) rfl ?_)
 have f1:Builtin.List.listFitsIndex ((i:Int)-1+1)=true:=by unfold Builtin.List.listFitsIndex;simp;left
 have f2:Builtin.List.listTooLong ((i:Int)-1+1).toNat=false:=by unfold Builtin.List.listTooLong;exact uf5 (by rw[ubj];left)
 show k8 _ _ (if (!Builtin.List.listFitsIndex ((i:Int)-1+1))=true then _ else _) _ _ _
 rw[f1,uf8 (by decide),uf8 (by left),f2,uf8 (by decide)]
 exact d3 (h _ _)
theorem wY {R:Result->c7->Prop}{S:j8}{res:b9}(hh:A.in1.handled=none)(hSr:S≠r)(hSt:S≠t)(htr:t≠r)(l1000:items.size<=1000) :
  ∀ (k:Nat)(s:c7)(acc:List b9)(c:Nat),k<=items.size->IsR s.heap r t ((k:Int)-1)->IsTup s.heap t items->s.heap.get? S=some { cls:=.type "list",data:=.seq acc.toArray c }->acc=(items.toList.drop k).reverse ->
  (∀ h' tk c',(∀ b o,b≠r->b≠S->s.heap.get? b=some o->h'.get? b=some o)->h'.get? S=some { cls:=.type "list",data:=.seq items.toList.reverse.toArray c' }->R (.ok (.ret res)) { s with heap:=h',toks:=tk }) ->
  codeAny (v5 prog w) A (.builtin "list.extend.loop" ⟨[.ref S,.ref r,res],[]⟩) R s:=by
 intro k
 induction k with
 | zero =>
  intro s acc c hk hr ht hS ha hR
  refine ub8 F.entry_extend_loop ?_
  rw[Around.under_plainId ucn _]
  show k8 _ A.in1 (pyNext (.ref r) >>= _) _ _ s
  refine a8 (yK (t:=t) hh (by simpa using hr) λ h' kp=>?_)
  rw[ubu] at ha
  exact d3 (hR h' _ c (λ b o h1 _ e=>kp b o h1 e) (by rw[← ha];exact kp _ _ hSr hS))
 | succ k ih =>
  intro s acc c hk hr ht hS ha hR
  have hx:items[k]?=some items[k]:=udg (by left)
  refine ub8 F.entry_extend_loop ?_
  rw[Around.under_plainId ucn _]
  show k8 _ A.in1 (pyNext (.ref r) >>= _) _ _ s
  have ek:((k+1:Nat):Int)-1=(k:Int):=by left
  rw[ek] at hr
  refine a8 (wT (i:=k) hr ht (by left) hx λ h' tk z1 e1=>?_)
  have hS1:=e1.extBut _ _ hSr hS
  show k8 _ A.in1 (updateSeq S (·.push items[k]) >>= _) _ _ { s with heap:=h',toks:=tk }
  have la:acc.length+1<=1000:=by rw[ha,u7,p9,ubh];left
  refine a8 (ucw hS1 rfl ?_ (by show acc.toArray.size<=_;rw[d7,ubj];left) (by show (acc.toArray.push _).size<=_;rw[Array.size_push,d7,ubj];left))
  have hS2:=ubc (Obj.mapSeq (·.push items[k])) hS1 rfl
  have e2:(acc.toArray.push items[k])=(acc++[items[k]]).toArray:=by simp
  refine d3 ⟨ucf ucn _,ih _ (acc++[items[k]]) _ (by left) ((m7 _ _ hSr).trans z1) (tup_to ht λ o e=>(m7 _ _ hSt).trans (e1.extBut _ _ htr e)) (by rw[← e2];exact hS2) ?_ λ h2 tk2 c2 k2 q2=>hR h2 tk2 c2 (λ b o h1 h3 e=>k2 b o h1 h3 ((m7 _ _ (Ne.symm h3)).trans (e1.extBut _ _ h1 e))) q2⟩
  rw[ha,ucc (i:=k) (by rw[ubh];left),ua8]
  simp
theorem tF {Q:List b9->c7->Prop}(hh:A.handled=none)(hr:IsR s.heap r t ((items.size:Int)-1))(ht:IsTup s.heap t items)(htr:t≠r)(l1000:items.size<=1000)
  (hQ:∀ h' tk,(∀ b o,b≠r->s.heap.get? b=some o->h'.get? b=some o)->Q items.toList.reverse { s with heap:=h',toks:=tk }):k8 (v5 prog w) A (collect (.ref r)) Q E s:=by
 unfold collect
 refine a8 (wpAny_runValue (ub8 PySem.F.entry_proto_collect ?_))
 rw[Around.under_plainId PySem.F.plain_proto_collect _]
 show k8 _ A.in1 (newList [] >>= λ l=>again (.builtin "list.__iadd__" ⟨[l,.ref r],[]⟩)) _ _ s
 refine a8 (u5 ?_)
 refine d3 ⟨ucf ufm _,ub8 PySem.F.entry_list_iadd ?_⟩
 rw[Around.under_plainId ufm _]
 have hS:(s.heap.push { cls:=.type "list",data:=.seq ([]:List b9).toArray }).get? s.heap.objs.size=some { cls:=.type "list",data:=.seq #[] }:=i8 _ rfl
 have k0:∀ b o,s.heap.get? b=some o->(s.heap.push { cls:=.type "list",data:=.seq ([]:List b9).toArray }).get? b=some o:=λ b o e=>b7 _ e
 have lr:r<s.heap.objs.size:=i7 hr
 have lt:t<s.heap.objs.size:=by obtain⟨o,e,_⟩:=ht;exact i7 e
 have hr1:=k0 _ _ hr
 have ht1:=tup_to (h':=s.heap.push { cls:=.type "list",data:=.seq ([]:List b9).toArray }) ht (k0 t)
 have ke:∀ (g:Heap),(∀ b o,b≠s.heap.objs.size->(s.heap.push { cls:=.type "list",data:=.seq ([]:List b9).toArray }).get? b=some o->g.get? b=some o)->∀ b o,s.heap.get? b=some o->g.get? b=some o:=λ g k b o e=>k b o (l9 (i7 e)) (k0 b o e)
 generalize hg:s.heap.push { cls:=.type "list",data:=.seq ([]:List b9).toArray }=g at hS k0 hr1 ht1 ke ⊢
 have nr:r≠s.heap.objs.size:=l9 lr
 have nt:t≠s.heap.objs.size:=l9 lt
 have tR:Shared.TypeIs { s with heap:=g } (.ref r) "reversed":=⟨_,hr1,rfl⟩
 show k8 _ A.in1 (Builtin.List.listExtendWith (.ref s.heap.objs.size) (.ref r) (.ref s.heap.objs.size)) _ _ _
 unfold Builtin.List.listExtendWith
 refine a8 (ucs (T:="reversed") tR ?_)
 have h1:Builtin.List.listSameRef (.ref s.heap.objs.size) (.ref r)=false:=by simp only [Builtin.List.listSameRef,beq_eq_false_iff_ne];exact Ne.symm nr
 have hz1:(Value.type "reversed"==Value.type "list")=false:=by decide
 have hz2:(Value.type "reversed"==Value.type "tuple")=false:=by decide
 simp only [h1,hz1,hz2,Bool.or_false,ua2,if_false]
 refine a8 (wpAny_pyIter_slot tR jF (uaa jF tR oH ?_ (oR _)))
 show k8 _ _ (ret (.ref r)) _ _ _
 refine d3 ⟨_,rfl,"reversed",_,tR,sl_next.lookup,?_⟩
 refine a8 (uah (xF (s:={ s with heap:=g }) (i:=items.size) hr1 ht1 l1000 (c8 _) λ tk b=>?_))
 have fin:∀ (g2:Heap)(c2:Nat),g2.get? s.heap.objs.size=some { cls:=.type "list",data:=.seq #[] c2 }->(∀ b o,b≠s.heap.objs.size->g.get? b=some o->g2.get? b=some o)->codeAny (v5 prog w) A (.builtin "list.extend.loop" ⟨[.ref s.heap.objs.size,.ref r,.ref s.heap.objs.size],[]⟩) (λ r' s'=>∃ h' tk c',r'=.ok (.ret (.ref s.heap.objs.size))/\s'={ s with heap:=h',toks:=tk }/\(∀ b o,b≠r->s.heap.get? b=some o->h'.get? b=some o)/\h'.get? s.heap.objs.size=some { cls:=.type "list",data:=.seq items.toList.reverse.toArray c' }) { s with heap:=g2,toks:=tk }:=λ g2 c2 hS2 k2=>by
  refine wY (A:=A) (show A.in1.handled=none from hh) (Ne.symm nr) (Ne.symm nt) htr l1000 items.size { s with heap:=g2,toks:=tk } [] c2 (c8 _) (k2 _ _ nr hr1) (tup_to ht1 λ o e=>k2 _ _ nt e) hS2 (by rw[List.drop_of_length_le (by simp)];rfl) λ h' tk' c' k' q'=>⟨h',tk',c',rfl,rfl,λ b o hb e=>?_,q'⟩
  exact k' b o hb (l9 (i7 e)) (ke g2 k2 b o e)
 have out:∀ (h':Heap)(tk c':Nat),(∀ b o,b≠r->s.heap.get? b=some o->h'.get? b=some o)->h'.get? s.heap.objs.size=some { cls:=.type "list",data:=.seq items.toList.reverse.toArray c' }->k8 (v5 prog w) A (load s.heap.objs.size >>= λ o=>match o.data with | .seq xs _=>pure xs.toList | _=>unsupported "internal:collect") Q E { s with heap:=h',toks:=tk }:=λ h' tk c' k' q'=>by
  refine a8 (wpAny_load q' (d3 ?_))
  show Q items.toList.reverse.toArray.toList _
  rw[List.toList_toArray]
  exact hQ _ _ k'
 refine wpAny_ite_split (λ _=>?_) λ _=>?_
 ·refine a8 (udh (a8 ?_))
  show k8 _ _ (updateSeq s.heap.objs.size (·.push .none) >>= λ _=>updateSeq s.heap.objs.size (·.pop)) _ _ _
  refine a8 (ucw hS rfl ?_)
  have hS3:=ubc (Obj.mapSeq (·.push Value.none)) hS rfl
  refine ucw (hz:=by seq_fits) hS3 rfl ?_
  have hS4:=ubc (Obj.mapSeq (·.pop)) hS3 rfl
  refine d3 ⟨ucf ucn _,uej (fin _ _ hS4 λ b o hb e=>(m7 _ _ (Ne.symm hb)).trans ((m7 _ _ (Ne.symm hb)).trans e)) λ r' s' hq=>?_⟩
  obtain⟨h',tk,c',rfl,rfl,k',q'⟩:=hq
  exact out h' tk c' k' q'
 ·refine d3 ⟨ucf ucn _,uej (fin _ _ hS λ b o hb e=>e) λ r' s' hq=>?_⟩
  obtain⟨h',tk,c',rfl,rfl,k',q'⟩:=hq
  exact out h' tk c' k' q'
theorem xX (r t:j8)(items:Array b9)(htr:t≠r)(l1000:items.size<=1000) :
  Meets (Builtin.«tuple.__new__» ⟨[.type "tuple",.ref r],[]⟩)
   (λ A R s=>A.handled=none/\IsR s.heap r t ((items.size:Int)-1)/\IsTup s.heap t items/\∀ (h':Heap)(tk:Nat),(∀ b o',b≠r->s.heap.get? b=some o'->h'.get? b=some o')->R (.ok (.ret (.ref h'.objs.size))) { s with heap:=h'.push { cls:=.type "tuple",data:=.seq items.toList.reverse.toArray },toks:=tk }) :=
 .of_wp λ prog w A R s h=>by
  obtain⟨hp,g,d,tk,os⟩:=s;obtain⟨hh,hr,ht,h⟩:=h
  have hsub:=sub_tuple_self
  have hinit:=init_tuple_lookup
  have hmh:=madeHere_tuple
  have hT:Shared.TypeIs ⟨hp,g,d,tk,os⟩ (.ref r) "reversed":=⟨_,hr,rfl⟩
  wp_walk using ucs hT,tF (A:=A.in1) hh hr ht htr l1000
  intro h' tk' hk
  show k8 _ _ (Builtin.Tuple.tupleExact items.toList.reverse.toArray >>= λ v=>ret v) _ _ _
  unfold Builtin.Tuple.tupleExact
  refine a8 (u5 ?_ (by show items.toList.reverse.toArray.size<=m3;rw[d7,u7,ubh,ubj];left))
  exact d3 ⟨_,rfl,h h' tk' hk⟩
theorem call_tup_rev {Q:b9->c7->Prop}(hh:A.handled=none)(hr:IsR s.heap r t ((items.size:Int)-1))(ht:IsTup s.heap t items)(htr:t≠r)(l1000:items.size<=1000)
  (hQ:∀ (h':Heap)(tk:Nat),(∀ b o,b≠r->s.heap.get? b=some o->h'.get? b=some o)->Q (.ref h'.objs.size) { s with heap:=h'.push { cls:=.type "tuple",data:=.seq items.toList.reverse.toArray },toks:=tk }) :
  k8 (v5 prog w) A (call (.type "tuple") [.ref r]) Q E s :=
 ufq PySem.F.called_tuple (by decide) (PySem.F.typeCall_tuple_1 _) (PySem.F.newCall_tuple_1 _) (λ obj=>ue0 obj _) PySem.F.entry_tuple_new
  (xX r t items htr l1000) ⟨hh,hr,ht,λ h' tk hk=>⟨⟨_,i8 _ rfl,rfl⟩,hQ h' tk hk⟩⟩
end
end Rv
namespace L3
open PySem PySem.Spec PyProof.Rows L2
def tTR (ta:TA):TE:=λ σ H Q=>ta σ H λ vs H1=>∃ l xs,vs=[.ref l]/\H1 l=some (.tup xs)/\xs.length<=1000/\∀ p H',Same H1 H'->H1 p=none->H' p=some (.tup xs.reverse)->Q (.ref p) H'
theorem uZ {X:Cx}(hh:X.calm=true){a:ubv}{ta:TA}{p p' pos pos':Pos}(hg:Gl X "tuple")(hm:X.mg "tuple"=none)(hg2:Gl X "reversed")(hm2:X.mg "reversed"=none)(ha:PA X [a] ta)
  (he:uae [.Call (.Name "reversed" p') [a] [] pos'] X.env=[(false,eval (.Call (.Name "reversed" p') [a] [] pos') X.env)]:=by rfl)
  (hs:uae [a] X.env=[(false,eval a X.env)]:=by rfl) :
  PE X (.Call (.Name "tuple" p) [.Call (.Name "reversed" p') [a] [] pos'] [] pos) (tTR ta):=by
 intro pins s σ H Q I h
 refine ucx (cU I hg hm boot_tuple (uaj (T:="tuple") ?_ (by rw[he];rfl) (by rfl)))
 rw[he]
 show k8 _ _ (spliced ((false,eval (.Call (.Name "reversed" p') [a] [] pos') X.env)::backTo pos (uae [] X.env))) _ _ s
 refine Calls.spliced_cons ?_
 refine ucx (cU I hg2 hm2 boot_reversed (uaj (thn (ha pos' pins s σ H _ I h) λ us s1 ⟨vs,H1,I1,r1,q1⟩=>?_) (by rw[hs];rfl) (by rfl)))
 obtain⟨l,xs,e,qx,lx,q⟩:=q1
 subst e
 cases r1 with
 | cons r rr =>
  cases rr
  cases r
  obtain⟨its,rv,pl,hz⟩:=I1.tuple (SqT.of qx)
  have hl:=rv.length
  have sz:its.toArray.size=xs.length:=by rw[d7,hl]
  refine Rv.call_rev pl (by rw[sz];left) λ h' tk hr z kp=>?_
  have I2:Inv X pins σ H1 { s1 with heap:=h',toks:=tk }:=I1.kept (t':=tk) kp
  refine Calls.spliced_nil ?_
  have lt:l<s1.heap.objs.size:=by obtain⟨o,e,_⟩:=pl;exact i7 e
  have fr0:H1 s1.heap.objs.size=none:=I1.hok.fresh (c8 _)
  have fp:=I1.fpOk (c8 s1.heap.objs.size) fr0
  refine Rv.call_tup_rev (A:=X.A) (I1.ok.hd hh) hr (Rv.tup_to pl (kp l)) (l9 lt) (by rw[sz];exact lx) λ h2 tk2 k2=>?_
  have I3:Inv X pins σ H1 { s1 with heap:=h2,toks:=tk2 }:=turns (ch:=[s1.heap.objs.size]) (t':=tk2) I1 (λ b hb=>by rw[d8] at hb;rw[hb];exact fp) λ b o hb e=>k2 b o (λ z=>hb (by rw[z];exact d8.mpr rfl)) (kp b o e)
  have fr:H1 h2.objs.size=none:=I3.hok.fresh (c8 _)
  refine⟨.ref h2.objs.size,upd H1 h2.objs.size (.tup xs.reverse),I3.laid (t':=tk2) (o:=.tup xs.reverse) (λ b o e=>b7 _ e) (c8 _) ⟨by rw[u7];exact hz,its.reverse,?_,⟨_,i8 _ rfl,rfl,⟨_,rfl⟩,rfl⟩⟩,rfl,q _ _ (aS fr) fr aK⟩
  exact kD rv
def allIn (ts:List Tie)(ks:List Nat)(t:Int):Prop:=∀ k,k∈outs ts.length ks->withinB t (tieAt ts k).2.2 (gO ts ks k)=true
section
variable {n:Int}{ts:List Tie}{ks:List Nat}{prs:List (Option Int × Int)}
end
section
variable {n:Int}{ts:List Tie}{ks:List Nat}
noncomputable def wyK (ts:List Tie)(ks:List Nat)(a b:Nat):Option (List Nat):=@dite _ (∃ ws,Far.MinW (arcsB ts ks) a b ws) (Classical.propDecidable _) (λ h=>some (Classical.choose h)) (λ _=>none)
noncomputable def dK (ts:List Tie)(ks:List Nat)(u v:Nat):Option Int:=Classical.epsilon λ o=>Far.Dst (arcs ts ks) u v o
noncomputable def dKL (n:Int)(ts:List Tie)(ks:List Nat)(u:Nat):List (Option Int):=(c9 n.toNat).map λ v=>dK ts ks u v
noncomputable def htK (n:Int)(ts:List Tie)(ks:List Nat)(t:Int)(k:Nat):List Int:=(dKL n ts ks (tieAt ts k).1.toNat).map (capO (t*(tieAt ts k).2.2+1))
end
def winK (ts:List Tie)(ks:List Nat)(t:Int)(k:Nat):Prop:=withinB t (tieAt ts k).2.2 (gO ts ks k)=true
noncomputable def wyT (ts:List Tie)(ks:List Nat)(k:Nat):Option (List Nat):=wyK ts ks (tieAt ts k).1.toNat (tieAt ts k).2.1.toNat
def FirstOut (ts:List Tie)(ks:List Nat)(t:Int)(i k:Nat):Prop:=(outs ts.length ks)[i]?=some k/\¬ winK ts ks t k/\∀ j k',j<i->(outs ts.length ks)[j]?=some k'->winK ts ks t k'
theorem FirstOut.one {ts:List Tie}{ks:List Nat}{t:Int}{i k i' k':Nat}(h:FirstOut ts ks t i k)(h':FirstOut ts ks t i' k'):k=k':=by
 rcases ubb i i' with z | z | z
 ·exact absurd (h'.2.2 i k z h.1) h.2.1
 ·subst z
  exact j5 (h.1.symm.trans h'.1)
 ·exact absurd (h.2.2 i' k' z h'.1) h'.2.1
inductive TdD (n:Int)(ts:List Tie)(ks:List Nat)(t:Int):uac->Prop
 | keeps:allIn ts ks t->TdD n ts ks t (.tuple [.str "keeps",.tuple ((outs ts.length ks).map λ k=>wyD (wyT ts ks k))])
 | far {i k:Nat}:FirstOut ts ks t i k->TdD n ts ks t (.tuple [.str "far",.int (k:Int),tupH (htK n ts ks t k)])
theorem FirstOut.not {ts:List Tie}{ks:List Nat}{t:Int}{i k:Nat}(h:FirstOut ts ks t i k):¬ allIn ts ks t:=λ a=>h.2.1 (a k (i9 h.1))
theorem TdD.one {n:Int}{ts:List Tie}{ks:List Nat}{t:Int}{d d':uac}(h:TdD n ts ks t d)(h':TdD n ts ks t d'):d=d':=by
 cases h with
 | keeps a =>
  cases h' with
  | keeps _=>rfl
  | far f=>exact absurd a f.not
 | far f =>
  cases h' with
  | keeps a=>exact absurd a f.not
  | far f'=>rw[f.one f']
section
variable {n:Int}{ts:List Tie}{ks:List Nat}
end
inductive Trl (ts:List Tie)(u:Nat):Nat->List Nat->Prop
 | nil:Trl ts u u []
 | snoc {v w k:Nat} {es:List Nat}:Trl ts u v es->(v,w,(tieAt ts k).2.2)∈arcs2 (tieAt ts k)->Trl ts u w (es++[k])
def lenE (ts:List Tie)(es:List Nat):Int:=(es.map λ k=>(tieAt ts k).2.2).sum
theorem sY {ts:List Tie}{a b:List Nat}:lenE ts (a++b)=lenE ts a+lenE ts b:=by unfold lenE;rw[o3,ud2]
theorem xA {ts:List Tie}{k:Nat}:lenE ts [k]=(tieAt ts k).2.2:=by unfold lenE;simp
theorem Trl.walk {ts:List Tie}{ks:List Nat}{u v:Nat}{es:List Nat}(h:Trl ts u v es)(hs:∀ e∈es,e∈ks):Far.Walk (arcs ts ks) u v (lenE ts es):=by
 induction h with
 | nil=>exact .nil
 | @snoc v w k es _ m ih =>
  rw[sY,xA]
  exact .snoc (ih λ e he=>hs e (r8 _ he)) (arcs_mem.mpr ⟨k,hs k (l4 _ g9),m⟩)
structure Pth (ts:List Tie)(ks:List Nat)(s v:Nat)(way es:List Nat):Prop where
 trl:Trl ts s v es
 head:way[0]?=some s
 last:way[way.length-1]?=some v
 nd:way.Nodup
 len:way.length=es.length+1
 ends:∀ e∈es,∀ a b l,(a,b,l)∈arcs2 (tieAt ts e)->a∈way/\b∈way
 nde:es.Nodup
 sub:∀ e∈es,e∈ks
 one:∀ e∈es,∀ b l,(s,b,l)∈arcs2 (tieAt ts e)->way[1]?=some b
theorem Pth.start {ts:List Tie}{ks:List Nat}{s:Nat}:Pth ts ks s s [s] [] :=
 ⟨.nil,rfl,rfl,(by simp),rfl,λ e h=>(by cases h),udi,λ e h=>(by cases h),λ e h=>(by cases h)⟩
end L3
namespace Frs
noncomputable def reps (n:Nat)(E:List T2):List Nat:=(c9 n).filter λ v=>@decide (∀ u,u<v->¬ Cn E u v) (Classical.propDecidable _)
theorem rep_mem {n:Nat}{E:List T2}{v:Nat}:v∈reps n E↔v<n/\∀ u,u<v->¬ Cn E u v:=by
 unfold reps
 rw[w8,o9]
 exact and_congr_right λ _=>@decide_eq_true_iff _ (Classical.propDecidable _)
theorem rep_nodup {n:Nat}{E:List T2}:(reps n E).Nodup:=List.Pairwise.sublist ucj udr
theorem jN (E:List T2):∀ m v:Nat,v<=m->∃ r,r<=v/\Cn E r v/\∀ u,u<r->¬ Cn E u r
 | 0,v,h=>⟨v,c8 _,.nil,λ u hu=>by left⟩
 | m+1,v,h=>by
  by_cases c:∃ u,u<v/\Cn E u v
  ·obtain⟨u,hu,cu⟩:=c
   obtain⟨r,h1,h2,h3⟩:=jN E m u (by left)
   exact⟨r,by left,h2.app cu,h3⟩
  ·exact⟨v,c8 _,.nil,λ u hu cu=>c ⟨u,hu,cu⟩⟩
theorem nU {n:Nat}{E:List T2}{a b x y:Nat}(hx:∀ u,u<x->¬ Cn E u x)(hy:∀ u,u<y->¬ Cn E u y)(lt:x<y)(h:(Cn E x a/\Cn E y b)\/(Cn E x b/\Cn E y a))(v:Nat):v∈reps n (E++[(a,b)])↔v∈reps n E/\v≠y:=by
 have one:∀ {p q},(∀ u,u<p->¬ Cn E u p)->(∀ u,u<q->¬ Cn E u q)->Cn E p q->p=q:=λ {p q} hp hq c=>by
  rcases ubb p q with z | z | z
  ·exact absurd c (hq _ z)
  ·exact z
  ·exact absurd c.back (hp _ z)
 rw[rep_mem,rep_mem]
 constructor
 ·rintro ⟨h1,h2⟩
  refine⟨⟨h1,λ u hu c=>h2 u hu (c.more λ t m=>r8 _ m)⟩,λ z=>?_⟩
  subst z
  refine h2 x lt (cn_more.mpr ?_)
  rcases h with ⟨p,q⟩ | ⟨p,q⟩
  ·exact .inr (.inl ⟨p,q.back⟩)
  ·exact .inr (.inr ⟨p,q.back⟩)
 ·rintro ⟨⟨h1,h2⟩,ne⟩
  refine⟨h1,λ u hu c=>?_⟩
  have low:∀ {z},Cn E u z->Cn E y z->y<=u:=λ {z} c1 c2=>udw λ l=>hy u l (c1.app c2.back)
  rcases cn_more.mp c with z | ⟨z1,z2⟩ | ⟨z1,z2⟩
  ·exact h2 u hu z
  ·rcases h with ⟨p,q⟩ | ⟨p,q⟩
   ·exact ne (one hy h2 (q.app z2)).symm
   ·have e:=one hx h2 (p.app z2)
    have:=low z1 q
    left
  ·rcases h with ⟨p,q⟩ | ⟨p,q⟩
   ·have e:=one hx h2 (p.app z2)
    have:=low z1 q
    left
   ·exact ne (one hy h2 (q.app z2)).symm
theorem reps_more {n:Nat}{E:List T2}{a b:Nat}(ha:a<n)(hb:b<n)(h:¬ Cn E a b):(reps n (E++[(a,b)])).length+1=(reps n E).length:=by
 obtain⟨ra,a1,a2,a3⟩:=jN E a a (c8 _)
 obtain⟨rb,b1,b2,b3⟩:=jN E b b (c8 _)
 have fin:∀ y,y<n->(∀ u,u<y->¬ Cn E u y)->(∀ v,v∈reps n (E++[(a,b)])↔v∈reps n E/\v≠y)->(reps n (E++[(a,b)])).length+1=(reps n E).length:=λ y hy h1 h2=>by
  have my:y∈reps n E:=rep_mem.mpr ⟨hy,h1⟩
  have pm:(reps n (E++[(a,b)])).Perm ((reps n E).erase y):=by
   refine (ufo rep_nodup (rep_nodup.sublist List.erase_sublist)).mpr λ v=>?_
   rw[h2 v,rep_nodup.mem_erase_iff]
   exact⟨λ z=>⟨z.2,z.1⟩,λ z=>⟨z.2,z.1⟩⟩
  rw[pm.length_eq,ufz my]
  have:=List.length_pos_of_mem my
  left
 rcases ubb ra rb with z | z | z
 ·exact fin rb (by left) b3 (nU a3 b3 z (.inl ⟨a2,b2⟩))
 ·subst z;exact absurd (a2.back.app b2) h
 ·exact fin ra (by left) a3 (nU b3 a3 z (.inr ⟨b2,a2⟩))
theorem reps_nil {n:Nat}:(reps n []).length=n:=by
 have e:reps n []=c9 n:=by
  unfold reps
  refine List.filter_eq_self.mpr λ v _=>@uf3 _ (Classical.propDecidable _) λ u hu c=>?_
  cases c with
  | nil=>left
  | snoc _ m=>rcases m with m | m <;> cases m
 rw[e,p8]
end Frs
namespace L3
open PySem PySem.Spec PyProof.Rows L2
inductive Acy (ts:List Tie):List Nat->Prop
 | nil:Acy ts []
 | snoc {ks:List Nat} {k:Nat}:Acy ts ks->¬ Frs.Cn (ks.map (t2 ts)) (t2 ts k).1 (t2 ts k).2->Acy ts (ks++[k])
theorem Acy.len {n:Nat}{ts:List Tie}{ks:List Nat}(h:Acy ts ks)(hn:∀ k∈ks,(t2 ts k).1<n/\(t2 ts k).2<n):(Frs.reps n (ks.map (t2 ts))).length+ks.length=n:=by
 induction h with
 | nil=>rw[uey,Frs.reps_nil];rfl
 | @snoc ks k _ c ih =>
  have i:=ih λ j hj=>hn j (r8 _ hj)
  have hk:=hn k (l4 _ g9)
  have m:=Frs.reps_more (n:=n) hk.1 hk.2 c
  rw[o3,d6]
  have e:(ks.map (t2 ts))++[k].map (t2 ts)=ks.map (t2 ts)++[((t2 ts k).1,(t2 ts k).2)]:=rfl
  rw[e]
  show _+(ks.length+1)=n
  left
section
variable {K:a9}{h:Heap}{mg:Str->Option b9}{x:Str}{st:ucy}{ps:List Str}{f c Pt:j8}{od an odc:Option j8}{sl slc:Array (Option b9)}{oc occ kV dc pm cd ct:b9}{us:Array b9}{fd:FuncData}
end
section
variable {P:j9}{w:v9}{K:a9}{mg:Str->Option b9}{base:Heap}
structure Clo (H:Hp)(h:Heap)(ys:List Str)(cl:List (Str × j8))(uys:List b9):Prop where
 names:cl.map (·.1)=ys
 unlike:(cl.map (·.2)).Nodup
 len:uys.length=cl.length
 cell:∀ (i:Nat)(y:Str)(c:j8)(u:b9),cl[i]?=some (y,c)->uys[i]?=some u->h.IsCell c (some u)
 free:∀ y c,(y,c)∈cl->H c=none
end
section
variable {X:Cx}
end
theorem yD {n:Int}{ts:List Tie}(ok:WebOk n ts){u v k:Nat}(h:tbN ts u v=some k):∀ j,j<ts.length->isTB ts u v j=true->j=k:=λ j hj hb=>by
 have h1:=List.find?_some h
 have hk:k<ts.length:=o9.mp (List.mem_of_find?_eq_some h)
 unfold isTB at h1 hb
 rw[r6,decide_eq_true_iff,decide_eq_true_iff] at h1 hb
 have key:∀ {a b:Nat},a<b->b<ts.length->(tieAt ts a).1=(tieAt ts b).1->(tieAt ts a).2.1=(tieAt ts b).2.1->False:=λ {a b} ab hb e1 e2=>by
  have pw:=uas.mp ok.rise
  have g:∀ {i:Nat}(hi:i<ts.length),ts[i]=tieAt ts i:=λ {i} hi=>by
   have:=(aZ hi).1
   rw[b6 hi] at this
   exact j5 this
  have q:=pw a b (by left) hb ab
  rw[g (by left),g hb] at q
  unfold endLt at q
  left
 rcases ubb j k with z | z | z
 ·exact (key z hk (by left) (by left)).elim
 ·exact z
 ·exact (key z hj (by left) (by left)).elim
end L3
namespace Hx
open PySem PySem.W
structure Ch where
 i:Nat
 a:Nat
 t:Nat
 j:Nat
 u:Nat
 b:Nat:=0
def stt (p:j9)(i:Nat):ucy:=p.main.body.getD i (.Pass ⟨0,0,0,0⟩)
def fileS:Str:=u6 "/claim/cut.py"
def mdV (p:j9)(c:Ch):b9:=match stt p c.j with
 | .Assign _ (.Constant (.str x) _ _) _=>.str x c.u
 | _=>.str (u6 "__main__") c.u
def sT (xs:List b9):Obj:=⟨.type "tuple",none,.seq xs.toArray 0,#[]⟩
def fE (xs:List b9):Obj:=⟨.none,none,.fields xs.toArray,#[]⟩
def tks:List Str->Nat->List b9
 | [],_=>[]
 | v::r,t=>.str v t::tks r (t+1)
def z:b9:=.int 0 0
def cdO (nm q:Str)(t:Nat)(l:Int)(na fl:Int)(k:b9)(fn:Bool)(tb vs cs tp:b9)(u:Nat):Obj :=
 ⟨.type "code",none,.fields #[.str nm t,.str q (t+1),.str fileS (t+2),.int l 0,.int na 0,z,z,.int fl 0,k,.bool fn,.int 181 0,tb,.none,vs,cs,tp,.int u 0,.int l 0,.str fileS (u+1)],#[]⟩
def ent (P:Params)(s:Str)(t:Nat)(v:b9):DictEntry:=⟨PyData.keyHash P s,.str s t,v⟩
def dO (es:List DictEntry)(n:Nat):Obj:=⟨.type "dict",none,.dict es.toArray n,#[]⟩
structure Got where
 os:List Obj
 en:List DictEntry
 tb:List b9
def fO (P:Params)(md:b9)(a t:Nat)(name:Str)(args:Arguments)(body:List ucy)(scope:Scope)(bind:Str)(pos:Pos):Got :=
 let fd:FuncData:=⟨name,bind,args,.stmts body,scope,0,[],.none,.none,.none,.none,none,.none,.none,0⟩
 let k (vs cs:b9) (b u:Nat) (h:List Obj):Got :=
  ⟨h++[⟨.none,none,.func fd,#[]⟩,cdO name bind t pos.line args.args.length 3 (.ref a) true (.ref (a+1)) vs cs (.ref b) u,
   ⟨.type "function",none,.func ⟨name,bind,args,.stmts body,scope,3,[],.none,.none,.none,md,none,.ref (b+1),.none,0⟩,#[]⟩],
   [ent P name (u+2) (.ref (b+2))],[.int pos.line 0,.int pos.col 0,.ref (b+1)]⟩
 match localNames args scope (.stmts body) with
 | none=>k .none .none (a+2) (t+3) [sT [],fE []]
 | some (vs,cs)=>k (.ref (a+2)) (.ref (a+3)) (a+4) (t+3+vs.length+cs.length) [sT [],fE [],sT (tks vs (t+3)),sT (tks cs (t+3+vs.length))]
def mro0:List b9:=[.type "ValueError",.type "Exception",.type "BaseException",.type "object"]
def clO (P:Params)(md:b9)(a t:Nat)(base:Option Nat)(sub:List b9)(name bind:Str)(pos:Pos):Got :=
 let l:Int:=pos.line
 let w:=base.isNone
 let C:=a+9-(if w then 0 else 0)
 let bs:b9:=match base with | none=>.type "ValueError" | some b=>.ref b
 let e1:=ent P (u6 "__module__") (t+7) md
 let e2:=ent P (u6 "__firstlineno__") (t+11) (.int l (t+10))
 let e3:=ent P (u6 "__static_attributes__") (t+12) (.ref (a+7))
 ⟨[sT [bs],⟨.type "builtin_function_or_method",none,.fields #[.builtin "type.__prepare__",.type "type"],#[]⟩,
  dO [e1,ent P (u6 "__qualname__") (t+9) (.str bind (t+8)),e2,e3] 4,sT [],fE [],
  cdO name bind (t+2) l 0 0 (.ref (a+3)) false (.ref (a+4)) .none .none .none (t+5),
  ⟨.type "frame",none,.plain,#[some (.ref (a+5)),some (.ref 3),some (.ref (a+2)),none,some md,none,some (.ref 0)]⟩,sT [],
  dO (e1::e2::e3::(if w then [ent P (u6 "__weakref__") (t+14) (.ref (a+10)),ent P (u6 "__doc__") (t+15) .none] else [ent P (u6 "__doc__") (t+13) .none])) (if w then 3 else 2),
  ⟨.type "type",none,.cls ⟨name,[bs],.ref C::(match base with | none=>mro0 | some b=>.ref b::mro0),a+8,bind,true,[],sub,false,none,false⟩,
   #[some (.ref a),none,some (.str name t),some (.str bind (t+8)),some (.builtin "ValueError.__new__"),some (.bool true)]⟩] ++
  (if w then [⟨.type "getset_descriptor",none,.fields #[.str (u6 "__weakref__") (t+13),.ref C,.builtin "ExceptionGroup.__weakref__",.none],#[]⟩] else []) ++
  [⟨.type "super",none,.fields #[.ref C,.ref C,.ref C],#[]⟩,⟨.type "builtin_function_or_method",none,.fields #[.builtin "object.__init_subclass__",.ref C],#[]⟩],
  [ent P name (t+(if w then 17 else 15)) (.ref C)],[.int l 0,.int pos.col 0,.ref (a+5)]⟩
def got (p:j9)(P:Params)(cs:List Ch)(c:Ch):Got:=match stt p c.i with
 | .FunctionDef name args body _ _ _ scope _ bind pos=>fO P (mdV p c) c.a c.t name args body scope bind pos
 | .ClassDef name _ _ _ _ _ _ _ bind _ pos=>clO P (mdV p c) c.a c.t (if c.b==0 then none else some c.b) (cs.filterMap λ d=>if d.b==c.a+9 then some (.ref (d.a+9)) else none) name bind pos
 | _=>⟨[],[],[]⟩
def nameNow (p:j9)(cs:List Ch):Option b9:=match cs.getLast? with
 | some c=>some (mdV p { c with j:=c.j,u:=c.u })
 | none=>none
def setName (P:Params)(v:Option b9):List DictEntry->List DictEntry
 | e::r=>(match v with | some v=>{ e with val:=v } | none=>e)::r
 | []=>[]
def globO (p:j9)(P:Params)(cs:List Ch)(en:List DictEntry):Obj->Obj
 | ⟨c,d,.dict es n,s⟩=>⟨c,d,.dict (setName P (nameNow p cs) es.toList++en).toArray (n+en.length),s⟩
 | o=>o
def objs (p:j9)(P:Params)(B:List Obj)(cs:List Ch):List Obj :=
 let gs:=cs.map (got p P cs)
 match B with
 | b0::b1::b2::b3::r=>b0::b1::b2::globO p P cs (gs.flatMap (·.en)) b3::(r++(sT []::fE (gs.flatMap (·.tb)) ::
  cdO (u6 "<module>") (u6 "<module>") 182 1 0 0 (.ref 11) false (.ref 12) .none .none .none 185 ::
  ⟨.type "frame",none,.plain,#[some (.ref 13),some (.ref 3),some (.ref 3),none,some (.str (u6 "__main__") 164),none,some (.ref 0)]⟩::gs.flatMap (·.os)))
 | _=>[]
def spl:List Obj->List Obj × List Obj
 | []=>([],[])
 | x::r=>(x::(spl r).2,(spl r).1)
def braun:Nat->List Obj->BT
 | 0,_=>.nil
 | _+1,[]=>.nil
 | f+1,o::r=>.node o (braun f (spl r).1) (braun f (spl r).2)
structure Cut where
 k:Nat
 n:Nat
 t:Nat
def hpT (p:j9)(B:Params->List Obj)(cs:List Ch)(c:Cut)(P:Params):Heap:=absHeap (braun 12 (objs p P (B P) (cs.take c.k))) c.n {}
def stT (p:j9)(B:Params->List Obj)(D:Drawn)(cs:List Ch)(c:Cut)(w:v9)(os:OsState):SharedT :=
 ⟨braun 12 (objs p w.params (B w.params) (cs.take c.k)),c.n,{},udp [],D,c.t,os⟩
def env (p:j9):Env:={ scope:=p.main.scope,locals:=mainNs,globals:=mainNs,cells:=[],code:=.ref 13,frame:=some 14 }
def cE (p:j9):Code:=.body p.main.body (env p)
def pos0:Pos:=⟨0,0,0,0⟩
def posOf (p:j9):Nat->Pos
 | 0=>pos0
 | k+1=>match stt p k with
  | .Assign [.Name _ q] _ _=>q
  | .FunctionDef _ _ _ _ _ _ _ _ _ q=>q
  | .ClassDef _ _ _ _ _ _ _ _ _ _ q=>q
  | _=>pos0
def ann0:Option b9:=some (.ref 6)
def PieceT (p:j9)(B:Params->List Obj)(D:Drawn)(cs:List Ch)(a b:Cut)(N:Nat):Prop:=∀ w:v9,
 (λ os=>segRunT treeTable p w 11 ann0 1 N (stT p B D cs a w os) (piecesOf ((p.main.body.drop a.k).take (b.k-a.k)) (env p) (cE p) (posOf p a.k) [topFrame pos0]))=λ os=>some (Flow.next,stT p B D cs b w os,cE p,posOf p b.k)
def PreT (p:j9)(B:Params->List Obj)(D:Drawn)(h:Params->Heap)(t:Nat)(cs:List Ch)(a:Cut):Prop:=∀ w:v9,
 (λ os=>topGo treeTable p w 11 ann0 12 ⟨h w.params,udp [],D,t,os⟩ (topStub p))=λ os=>some ((stT p B D cs a w os).abs,⟨denote treeTable (cE p),cE p,pos0,[topFrame pos0]⟩)
def BlockT (p:j9):Prop:=∀ (w:v9)(s:c7),segRun treeTable p w 11 ann0 1 1 s (blockOf p.main.body (env p) (cE p) pos0 [topFrame pos0])=some (.next,s,cE p,pos0)
noncomputable def boots (P:Params):List Obj:=[boot_o_0 P,boot_o_1 P,boot_o_2 P,boot_o_3 P,boot_o_4 P,boot_o_5 P,boot_o_6 P,boot_o_7 P,boot_o_8 P,boot_o_9 P,boot_o_10 P]
def qv (p:j9)(is:List Nat):j9:={ p with main:={ p.main with body:=is.map (stt p) } }
def nmO:ucy->Option Str
 | .FunctionDef n ..=>some n
 | .ClassDef n ..=>some n
 | _=>none
def lz (p:j9)(is:List Nat)(n:Nat):List Str:=(c9 n).filterMap λ i=>if is.contains i then none else nmO (stt p i)
def kk (a:Nat)(g:Got):List (Nat × Obj):=match g.os with
 | [_,_,_,c,f]=>[(a+3,c),(a+4,f)]
 | [_,_,_,_,_,c,f]=>[(a+5,c),(a+6,f)]
 | _::_::_::_::_::_::_::_::d::C::_=>[(a+8,d),(a+9,C)]
 | _=>[]
def Kf (p:j9)(B:Params->List Obj)(cs:List Ch)(P:Params):Frag :=
 let gs:=cs.map (got p P cs)
 (3,globO p P cs (gs.flatMap (·.en)) ((B P).getD 3 (sT [])))::(cs.zip gs).flatMap λ c=>kk c.1.a c.2
def LookA (p:j9)(B:Params->List Obj)(D:Drawn)(h:Params->Heap)(cs:List Ch)(c:Cut):Prop:=∀ w:v9,(λ os =>
  (staticsOk (importedModules p.main.body) (h w.params) (hpT p B cs c w.params)&&namesBound p (hpT p B cs c w.params)&&gensDone ⟨hpT p B cs c w.params,udp [],D,c.t,os⟩&&laidKept (h w.params) (hpT p B cs c w.params)))=λ _:OsState=>true
def LookB (p:j9)(B:Params->List Obj)(D:Drawn)(cs:List Ch)(c:Cut)(is:List Nat)(rc:WRecords):Prop:=∀ w:v9,(λ os =>
  openSeen (qv p is) (lz p is c.k) (importedModules p.main.body) (λ s=>xlAt (qv p is) [] s&&recOk rc s) true ⟨hpT p B cs c w.params,udp [],D,c.t,os⟩)=λ _:OsState=>openGood (qv p is) (lz p is c.k)
def LookC (p:j9)(B:Params->List Obj)(cs:List Ch)(c:Cut)(as:List Nat):Prop:=∀ w:v9,as.map (hpT p B cs c w.params).get?=(Kf p B cs w.params).map λ p=>some p.2
section
variable {p:j9}{D:Drawn}{cs:List Ch}
theorem yY {w:v9}{s:c7}{c:Code}{q:Pos}:topRun treeTable p w 11 ann0 2 s ⟨doneF .next,c,q,[topFrame pos0]⟩=some s:=rfl
theorem vV {w:v9}{os:OsState}{c:Cut}(h:p.main.body.drop c.k=[]) :
  topRun treeTable p w 11 ann0 2 (stT p boots boot_drawn cs c w os).abs (restOf (p.main.body.drop c.k) (env p) (cE p) (posOf p c.k) [topFrame pos0])=some (stT p boots boot_drawn cs c w os).abs:=by
 rw[h];exact piece_nil yY
theorem chain {w:v9}{os:OsState}{a b:Cut}{N M:Nat}{r:c7}(h:PieceT p boots boot_drawn cs a b N)(le:a.k<=b.k)
  (k:topRun treeTable p w 11 ann0 M (stT p boots boot_drawn cs b w os).abs (restOf (p.main.body.drop b.k) (env p) (cE p) (posOf p b.k) [topFrame pos0])=some r) :
  topRun treeTable p w 11 ann0 (N+M) (stT p boots boot_drawn cs a w os).abs (restOf (p.main.body.drop a.k) (env p) (cE p) (posOf p a.k) [topFrame pos0])=some r:=by
 have e:p.main.body.drop a.k=(p.main.body.drop a.k).take (b.k-a.k)++p.main.body.drop b.k:=by
  have x:=(List.take_append_drop (b.k-a.k) (p.main.body.drop a.k)).symm
  rw[List.drop_drop,Nat.add_sub_cancel' le] at x;exact x
 rw[e];exact piece_app (segRun_of (congrFun (h w) os)) k
theorem yH {w:v9}{os:OsState}{M:Nat}{r:c7}(pre:PreT p boots boot_drawn boot_heap boot_toks cs ⟨0,15,187⟩)(bl:BlockT p)
  (k:topRun treeTable p w 11 ann0 M (stT p boots boot_drawn cs ⟨0,15,187⟩ w os).abs (restOf (p.main.body.drop 0) (env p) (cE p) (posOf p 0) [topFrame pos0])=some r) :
  topRun treeTable p w 11 ann0 (12+(1+M)) ⟨boot_heap w.params,udp [],boot_drawn,boot_toks,os⟩ (topStub p)=some r :=
 go_top (congrFun (pre w) os) (piece_block (bl w _) k)
theorem yS {is as:List Nat}{rc:WRecords}{c:Cut}{M N:Nat}{e:∀ P,as=(Kf p boots cs P).map (·.1)}
  (op:opening p=plainProg p.main.scope.names) (hN:Nat.ble 600 N=true) (fe:∀ s,fenceModules? p s=some s)
  (size:∀ w:v9,((boot_heap w.params).isNs mainGlobals&&(udp []:Array GenState).size==0,(boot_heap w.params).objs.size,(boot_heap w.params).nsMap mainGlobals "__annotations__")=(true,11,ann0))
  (run:∀ (w:v9)(os:OsState),topRun treeTable p w 11 ann0 M ⟨boot_heap w.params,udp [],boot_drawn,boot_toks,os⟩ (topStub p)=some (stT p boots boot_drawn cs c w os).abs) (le:Nat.ble M N=true)
  (hA:LookA p boots boot_drawn boot_heap cs c) (hB:LookB p boots boot_drawn cs c is rc) (hC:LookC p boots cs c as) :
  LeftO p (qv p is) (lz p is c.k) (λ s=>xlAt (qv p is) [] s&&recOk rc s) (Hook.obs (kHook (Kf p boots cs) as e)) (Hook.val (kHook (Kf p boots cs) as e)) N :=
 LeftO.of_pieces (H₀:=boot_heap) (H₁:=hpT p boots cs c) (boot_open op hN fe) size run le λ w=>funext λ os=>by
  have a:=congrFun (hA w) os
  have b:=congrFun (hB w) os
  have c:=hC w
  exact looks_pair a (looks_pair b c)
end
end Hx
set_option hygiene false
local macro_rules | `(tactic| exists $k, $s) => `(tactic| (refine pO (k := $k) D $s (fun vs H Q E h => by first | (obtain ⟨_, rfl, _⟩ := h; rfl) | (obtain ⟨_, _, rfl, _⟩ := h; rfl) | (obtain ⟨_, _, _, rfl, _⟩ := h; rfl) | (obtain ⟨_, _, _, _, rfl, _⟩ := h; rfl) | (obtain ⟨_, _, _, _, _, rfl, _⟩ := h; rfl) | (obtain ⟨_, _, _, _, _, _, rfl, _⟩ := h; rfl) | (obtain ⟨_, _, _, _, _, _, _, rfl, _⟩ := h; rfl) | (obtain ⟨_, _, _, _, _, _, _, _, rfl, _⟩ := h; rfl) | (obtain ⟨_, _, _, _, _, _, _, _, _, rfl, _⟩ := h; rfl) | (obtain ⟨_, _, _, _, _, _, _, _, _, _, rfl, _⟩ := h; rfl) | (obtain ⟨_, _, _, _, _, _, _, _, _, _, _, rfl, _⟩ := h; rfl) | (obtain ⟨_, _, _, _, _, _, _, _, _, _, _, _, rfl, _⟩ := h; rfl) | (obtain ⟨_, _, _, _, _, _, _, _, _, _, _, _, _, rfl, _⟩ := h; rfl) | (obtain ⟨_, _, _, _, _, _, _, _, _, _, _, _, _, _, rfl, _⟩ := h; rfl) | (obtain ⟨_, _, _, _, _, _, _, _, _, _, _, _, _, _, _, rfl, _⟩ := h; rfl) | (obtain ⟨_, _, _, _, _, _, _, _, _, _, _, _, _, _, _, _, rfl, _⟩ := h; rfl)) (fun f cdv A outer s H vs Q E hr h => ?_); have nd := ($s).nd))
local macro_rules | `(tactic| exists $k, $s, $s2) => `(tactic| refine pO (k := $k) D $s (fun vs H Q E h => ?_) (fun f cdv A outer s H vs Q E hr h => ?_))
local macro_rules | `(‹$n:num›) => `(Ok P w K mg base $n)
set_option hygiene true
namespace Me
open PySem PySem.Spec PyProof.Rows L2 L3
def top (i:Nat):ucy:=a7.main.body.getD i (.Pass ⟨0,0,0,0⟩)
abbrev s_tie_between:ucy:=top 1
theorem sc_tie_between:FnScope ["web","a","b","ends","number","tie"] ["web","a","b"] (defScope s_tie_between):=by right
abbrev s_ties_along:ucy:=top 3
theorem sc_ties_along:FnScope ["web","places"] ["web","places"] (defScope s_ties_along):=by right
abbrev s_tie_weights:ucy:=top 4
theorem sc_tie_weights:FnScope ["web","weights","weight","tie"] ["web"] (defScope s_tie_weights):=by right
abbrev s_cost_with:ucy:=top 5
theorem sc_cost_with:FnScope ["cost","length","weight"] ["cost","length","weight"] (defScope s_cost_with):=by right
abbrev s_cost_along:ucy:=top 6
theorem sc_cost_along:FnScope ["web","places","weights","cost","tie"] ["web","places"] (defScope s_cost_along):=by right
abbrev s_reached_from:ucy:=top 7
theorem sc_reached_from:FnScope ["web","keep","root","weights","costs","ahead","again","tie","a","b","length","one","other","cost"] ["web","keep","root"] (defScope s_reached_from):=by right
abbrev s_tree_from:ucy:=top 8
theorem sc_tree_from:FnScope ["web","keep","root","costs","ahead"] ["web","keep","root"] (defScope s_tree_from):=by right
abbrev s_the_way:ucy:=top 9
theorem sc_the_way:FnScope ["web","keep","a","b","tree","way"] ["web","keep","a","b"] (defScope s_the_way):=by right
abbrev s_without:ucy:=top 11
theorem sc_without:FnScope ["keep","tie"] ["keep","tie"] (defScope s_without):=by right
abbrev s_spare:ucy:=top 12
theorem sc_spare:FnScope ["web","keep","tie","a","b","length"] ["web","keep","tie"] (defScope s_spare):=by right
abbrev s_round_by:ucy:=top 14
theorem sc_round_by:FnScope ["web","keep","tie","way"] ["web","keep","tie"] (defScope s_round_by):=by right
abbrev s_shortest_ring:ucy:=top 15
theorem sc_shortest_ring:FnScope ["web","keep","best","least","tie","ring","cost"] ["web","keep"] (defScope s_shortest_ring):=by right
abbrev s__law_pot:ucy:=top 17
theorem sc__law_pot:FnScope ["script","k","cell","prime"] ["script","k"] (defScope s__law_pot):=by right
abbrev s__law_take:ucy:=top 18
theorem sc__law_take:FnScope ["pot","many","found"] ["pot","many"] (defScope s__law_take):=by right
abbrev s__law_length:ucy:=top 19
theorem sc__law_length:FnScope ["pot","way"] ["pot","way"] (defScope s__law_length):=by right
abbrev s__law_tied:ucy:=top 20
theorem sc__law_tied:FnScope ["pot","n","style","a","b","beside"] ["pot","n","style","a","b"] (defScope s__law_tied):=by right
abbrev s__law_order:ucy:=top 21
theorem sc__law_order:FnScope ["pot","many","left","found","turn"] ["pot","many"] (defScope s__law_order):=by right
abbrev s__law_web:ucy:=top 22
theorem sc__law_web:FnScope ["pot","most","n","style","way","names","ties","b","a","one","other"] ["pot","most"] (defScope s__law_web):=by right
abbrev s__law_keep:ucy:=top 23
theorem sc__law_keep:FnScope ["pot","web","way"] ["pot","web"] (defScope s__law_keep):=by right
abbrev s__law_beside:ucy:=top 24
theorem sc__law_beside:FnScope ["web","keep","found","number","a","b","length"] ["web","keep"] (defScope s__law_beside):=by right
abbrev s__law_weights:ucy:=top 25
theorem sc__law_weights:FnScope ["web","found","power","a","b","length"] ["web"] (defScope s__law_weights):=by right
abbrev s__law_weighed:ucy:=top 26
theorem sc__law_weighed:FnScope ["web","keep","start","weights","found","turn","elder","number","a","b","length","one","other","more"] ["web","keep","start"] (defScope s__law_weighed):=by right
abbrev s__law_tree:ucy:=top 27
theorem sc__law_tree:FnScope ["web","keep","root","weights","weighed","found","number","a","b","length","one","other"] ["web","keep","root"] (defScope s__law_tree):=by right
abbrev s__law_way_by:ucy:=top 28
theorem sc__law_way_by:FnScope ["tree","root","place","way","turn"] ["tree","root","place"] (defScope s__law_way_by):=by right
abbrev s__law_spare:ucy:=top 29
theorem sc__law_spare:FnScope ["web","keep","tie","left","a","b","length","tree"] ["web","keep","tie"] (defScope s__law_spare):=by right
abbrev s__law_as_ring:ucy:=top 30
theorem sc__law_as_ring:FnScope ["way","at","ring"] ["way"] (defScope s__law_as_ring):=by right
abbrev s__law_closed:ucy:=top 31
theorem sc__law_closed:FnScope ["web","keep","some","ways"] ["web","keep","some"] (defScope s__law_closed):=by right
abbrev s__law_most:ucy:=top 32
theorem sc__law_most:FnScope ["pot","k","most"] ["pot","k"] (defScope s__law_most):=by right
abbrev s__law_same:ucy:=top 33
theorem sc__law_same:FnScope ["found","due"] ["found","due"] (defScope s__law_same):=by right
abbrev s__law_all_rings:ucy:=top 34
theorem sc__law_all_rings:FnScope ["web","keep","beside","ways","found","size","longer","way"] ["web","keep"] (defScope s__law_all_rings):=by right
abbrev s__law_heavy:ucy:=top 35
theorem sc__law_heavy:FnScope ["web","ring","along","ties"] ["web","ring"] (defScope s__law_heavy):=by right
abbrev s_law:ucy:=top 36
theorem sc_law:FnScope ["script","k","pot","most","web","keep","rings","due"] ["script"] (defScope s_law):=by right
section
variable {P:j9}{w:v9}{K:a9}{mg:Str->Option b9}{base:Heap}
theorem rZ (T:Bi mg)(D:DefOk K mg "_law_take" s__law_take ["pot","many"]):‹1› "_law_take" ["pot","many"] spTake:=by
 exists 0,sc__law_take
 obtain⟨p,m,rfl,⟨a,b,hp,ha,hb,hb2⟩,hm,hm2,q⟩:=h
 refine⟨_,(aD (aW (aN cG (aF aQ (pv 0) aB (λ _ _=>rfl)) aB (nomark _)) (aD (aI (i:=2) nd rfl (j7 rfl) (aJ cF (aF aQ (pv 0) aB (λ _ _=>rfl)) (pv 1))) (aD (bJ (aJ oB (aF aQ (pv 0) aB (λ _ _=>rfl)) (pv 1)) (dD (pv 0) aB cX)) (aE (aL (pv 2))))) aX) (aD (bJ (aJ cF (aJ bL (aJ fP (aF aQ (pv 0) aB (λ _ _=>rfl)) aB) aB) aB) (dD (pv 0) aB cX)) (aE (aL (aJ cF (aJ oB (aJ cF (aJ bW (aF aQ (pv 0) aB (λ _ _=>rfl)) aB) aB) aB) (pv 1)))))),?_⟩
 refine⟨_,rfl,p,_,_,_,rfl,rfl,SqL.of hp,rfl,_,_,rfl,rfl,_,rfl,?_⟩
 refine ite2 (λ c=>?_) (λ c=>?_)
 ·refine⟨_,rfl,p,_,_,_,rfl,rfl,SqL.of hp,rfl,_,rfl,_,_,rfl,rfl,hm,?_⟩
  refine⟨_,rfl,p,_,_,_,rfl,rfl,SqL.of hp,rfl,_,rfl,_,_,rfl,rfl,⟨hm,hm2⟩,?_⟩
  refine⟨_,rfl,p,_,0,0,rfl,rfl,hp,rfl,_,rfl,?_⟩
  refine q _ _ (ub1 _ (by left)) (ubw _ hm) But.upd ⟨a / m,b,aK,Int.ediv_nonneg ha (by left),hb,hb2⟩
 ·refine⟨_,rfl,p,_,_,_,rfl,rfl,SqL.of hp,rfl,_,_,rfl,rfl,.inr ⟨by decide,by decide⟩,_,_,rfl,rfl,_,_,rfl,rfl,(by show (0:Int)<2147483647;decide),?_⟩
  refine⟨_,rfl,p,_,1,1,rfl,rfl,hp,rfl,?_⟩
  have n1:0<=(b*48271+12820163)%2147483647:=ub1 _ (by decide)
  have n2:(b*48271+12820163)%2147483647<2147483647:=ubw _ (by decide)
  refine⟨_,rfl,p,_,_,_,rfl,rfl,SqL.of aK,rfl,_,_,rfl,rfl,⟨by decide,by decide,by left⟩,_,_,rfl,rfl,(by show (0:Int)<2147483629;decide),_,_,rfl,rfl,⟨by decide,by decide⟩,_,rfl,_,_,rfl,rfl,hm,?_⟩
  exact q _ _ (ub1 _ (by left)) (ubw _ hm) But.upd ⟨a,_,aK,ha,n1,n2⟩
theorem sU (T:Bi mg)(D:DefOk K mg "_law_pot" s__law_pot ["script","k"]):‹1› "_law_pot" ["script","k"] (spPot K):=by
 exists 0,sc__law_pot
 obtain⟨a,k,ns,rfl,hS,hk0,hk1,q⟩:=h
 have hl:(ns.map V.int).length=ns.length:=c6 _
 refine⟨_,(aD (aI (i:=2) nd rfl (j7 rfl) aB) (aD (aW (aN dH (pv 1) (aU bX rfl T.z_len (by symm) (aA (pv 0) aC)) (nomark _)) (aE (aI (i:=2) nd rfl (j7 rfl) (aJ cF (aF aQ (pv 0) (pv 1) (λ _ _=>rfl)) (aJ oA (aJ oA (aJ bW aB aB) (aJ bW aB aB)) (aJ bW aB aB))))) aX) (aD (aI (i:=3) nd rfl (j7 rfl) (aF aQ (dU (aA aB (aA aB (aA aB (aA aB (aA aB aC)))))) (aJ cF (pv 1) aB) (λ _ _=>rfl))) (aE (aL (dU (aA (aU (gB rfl) rfl T.z_max (by symm) (aA aB (aA (aJ dW (pv 2) (aJ bW aB aB)) aC))) (aA (aJ cF (aJ bW (aJ bL (aJ bL (aJ cF (pv 2) (pv 3)) (aJ fP aB (pv 1))) aB) aB) aB) aC)))))))),?_⟩
  -- behind the test: cell is some number that is not below nought
 have rest : ∀ (cell : Int), 0 <= cell → ∀ (σ : L2.St), σ = [some (.ref a), some (.int k), some (.int cell), none] →
     (tSeq (tAsg (tOp (rIxL K) (tLst (tCons (tC (.int 2147483629)) (tCons (tC (.int 2147483587)) (tCons (tC (.int 2147483579)) (tCons (tC (.int 2147483563)) (tCons (tC (.int 2147483549)) tNil)))))) (tOp (rI (λ _ j=>0<j) λ i j=>.int (i%j)) (tVar 1) (tC (.int 5)))) (gName 3))
       (tRet (tLst (tCons (tCB (λ xs H Q=>∃ i j,xs=[.int i,.int j]/\Q (.int (if j>i then j else i)) H) (tCons (tC (.int 0)) (tCons (tOp (rI0 λ i j=>.int (i-j)) (tVar 2) (tOp (rI CPow λ i j=>.int (i^j.toNat)) (tC (.int 10)) (tC (.int 18)))) tNil)))
         (tCons (tOp (rI (λ _ j=>0<j) λ i j=>.int (i%j)) (tOp (rI CPow λ i j=>.int (i^j.toNat)) (tOp (rI0 λ i j=>.int (i+j)) (tOp (rI0 λ i j=>.int (i+j)) (tOp (rI (λ _ j=>0<j) λ i j=>.int (i%j)) (tVar 2) (tVar 3)) (tOp (rI CMul λ i j=>.int (i*j)) (tC (.int 7919)) (tVar 1))) (tC (.int 11))) (tC (.int 3))) (tC (.int 2147483647))) tNil)))))
       { nx:=λ _ H'=>Q .non H',rt:=Q } σ H:=by
  intro cell hc σ hσ
  subst hσ
  refine⟨(by show 5<=m3;decide),λ l hl=>?_⟩
  refine⟨_,rfl,_,_,rfl,rfl,(by show (0:Int)<5;decide),?_⟩
  have m0:0<=k%5:=ub1 _ (by decide)
  have m1:k%5<5:=ubw _ (by decide)
  have pr:∃ v:Int,atI [V.int 2147483629,V.int 2147483587,V.int 2147483579,V.int 2147483563,V.int 2147483549] (k%5)=some (.int v)/\2147483549<=v/\v<=2147483629:=by
   have:k%5=0\/k%5=1\/k%5=2\/k%5=3\/k%5=4:=by left
   rcases this with e | e | e | e | e <;> rw[e] <;> exact⟨_,rfl,by decide,by decide⟩
  obtain⟨v,hv,v1,v2⟩:=pr
  refine⟨l,_,_,_,rfl,rfl,SqL.of aK,hv,?_⟩
  have S1:Same H (upd H l (.lst [V.int 2147483629,V.int 2147483587,V.int 2147483579,V.int 2147483563,V.int 2147483549])):=aS hl
  refine⟨_,rfl,_,_,rfl,rfl,⟨by decide,by decide,by decide⟩,_,_,rfl,rfl,_,_,rfl,?_⟩
  refine⟨_,rfl,_,rfl,_,_,rfl,rfl,(by show (0:Int)<v;left),_,rfl,_,_,rfl,rfl,.inl ⟨by decide,by decide⟩,_,_,rfl,rfl,_,_,rfl,rfl,_,_,rfl,rfl,⟨by decide,by decide,?_⟩,_,_,rfl,rfl,(by show (0:Int)<2147483647;decide),?_⟩
  ·have c0:0<=cell%v:=ub1 _ (by left)
   have c1:cell%v<v:=ubw _ (by left)
   left
  refine⟨(by show 2<=m3;decide),λ l2 hl2=>?_⟩
  refine q l2 _ (S1.trans (aS hl2)) (S1.free hl2) ⟨_,_,aK,?_,ub1 _ (by decide),ubw _ (by decide)⟩
  split <;> left
 refine⟨_,rfl,_,rfl,a,_,rfl,.inl hS,_,_,rfl,rfl,_,rfl,?_⟩
 refine ite2 (λ c=>?_) (λ c=>?_)
 ·have c':k<(((ns.map V.int).length:Nat):Int):=uf4 c
  rw[hl] at c'
  obtain⟨v,hv⟩:∃ v:Int,atI (ns.map V.int) k=some (.int v):=by
   have hk:k.toNat<ns.length:=by left
   have ek:k=((k.toNat:Nat):Int):=by left
   have z:atI (ns.map V.int) ((k.toNat:Nat):Int)=some (.int ns[k.toNat]):=oP (by rw[j3,b6 hk] <;> rfl)
   rw[← ek] at z
   exact⟨_,z⟩
  refine⟨_,rfl,_,rfl,a,_,_,_,rfl,rfl,hS,hv,?_⟩
  refine⟨_,_,rfl,rfl,⟨by decide,by decide,by decide⟩,_,_,rfl,rfl,⟨by decide,by decide,by decide⟩,_,_,rfl,rfl,mulB,_,_,rfl,rfl,⟨by decide,by decide,by decide⟩,_,_,rfl,rfl,mulB2,_,_,rfl,rfl,posB,?_⟩
  exact rest _ (ub1 _ (by have:=posB;left)) _ rfl
 ·exact rest 5 (by decide) _ rfl
theorem qS (T:Bi mg)(D:DefOk K mg "_law_length" s__law_length ["pot","way"])(O__law_take:‹1› "_law_take" ["pot","many"] spTake):‹2› "_law_length" ["pot","way"] spLength:=by
 exists 1,sc__law_length
 obtain⟨p,y,rfl,hp,hy0,hy5,q⟩:=h
 refine⟨_,(aD (aW (aN dH (pv 1) aB (nomark _)) (aE (aL (aF aQ (dU (aA aB (aA (aJ bL aB (aM O__law_take hr rfl (aA (pv 0) (aA aB aC)))) aC))) (pv 1) (λ _ _=>rfl)))) aX) (aD (aW (aN bE (pv 1) aB (nomark _)) (aE (aL (aJ bL aB (aM O__law_take hr rfl (aA (pv 0) (aA aB aC)))))) aX) (aD (aW (aN bE (pv 1) aB (nomark _)) (aE (aL (aF aQ (dU (aA aB (aA aB (aA aB (aA (aJ bW aB aB) (aA (aJ dW (aJ bW aB aB) aB) (aA (aJ bW aB aB) aC))))))) (aM O__law_take hr rfl (aA (pv 0) (aA aB aC))) (λ _ _=>rfl)))) aX) (aE (aL (aJ bL aB (aJ fP (aM O__law_take hr rfl (aA (pv 0) (aA (aJ bW aB aB) aC))) (aM O__law_take hr rfl (aA (pv 0) (aA (aJ bL (aJ bW aB aB) aB) aC)))))))))),?_⟩
 refine⟨_,rfl,_,_,rfl,rfl,_,rfl,?_⟩
 refine ite2 (λ c=>?_) (λ c=>?_)
 ·have c':y<2:=uf4 c
  refine⟨_,rfl,p,3,rfl,hp,by decide,by decide,λ r H1 r0 r1 b1 p1=>?_⟩
  refine⟨_,_,rfl,rfl,(by show 2<=m3;decide),λ l hl=>?_⟩
  have at_:∃ v:Int,atI [V.int 1,V.int (1+r)] y=some (.int v)/\1<=v/\v<=10^18:=by
   have:y=0\/y=1:=by left
   rcases this with e | e <;> rw[e]
   ·exact⟨1,rfl,by symm,by symm⟩
   ·exact⟨1+r,rfl,by left,by left⟩
  obtain⟨v,hv,v0,v1⟩:=at_
  refine⟨_,rfl,l,_,_,_,rfl,rfl,SqL.of aK,hv,?_⟩
  obtain⟨a',b',e',z⟩:=p1
  exact q v _ v0 v1 (b1.trans (But.new hl)) ⟨a',b',(aS hl) _ _ e',z⟩
 refine⟨_,rfl,rfl,_,rfl,?_⟩
 refine ite2 (λ c2=>?_) (λ c2=>?_)
 ·refine⟨_,rfl,p,50,rfl,hp,by decide,by decide,λ r H1 r0 r1 b1 p1=>?_⟩
  exact⟨_,_,rfl,rfl,q _ _ (by left) (by left) b1 p1⟩
 refine⟨_,rfl,rfl,_,rfl,?_⟩
 refine ite2 (λ c3=>?_) (λ c3=>?_)
 ·refine⟨_,_,rfl,rfl,⟨by decide,by decide,by decide⟩,_,_,rfl,rfl,⟨by decide,by decide,by decide⟩,_,_,rfl,rfl,_,_,rfl,rfl,⟨by decide,by decide,by decide⟩,(by show 6<=m3;decide),λ l hl=>?_⟩
  have hp':Pot (upd H l (.lst [V.int 1,V.int 2,V.int 3,V.int ((10:Int)^(18:Int).toNat),V.int ((10:Int)^(18:Int).toNat-1),V.int ((10:Int)^(17:Int).toNat)])) p:=by
   obtain⟨a',b',e',z⟩:=hp
   exact⟨a',b',(aS hl) _ _ e',z⟩
  have lp:l≠p:=by
   obtain⟨a',b',e',z⟩:=hp
   exact λ e=>by rw[e,e'] at hl;cases hl
  refine⟨_,rfl,p,6,rfl,hp',by decide,by decide,λ r H1 r0 r1 b1 p1=>?_⟩
  have at_:∃ v:Int,atI [V.int 1,V.int 2,V.int 3,V.int ((10:Int)^(18:Int).toNat),V.int ((10:Int)^(18:Int).toNat-1),V.int ((10:Int)^(17:Int).toNat)] r=some (.int v)/\1<=v/\v<=10^18:=by
   have:r=0\/r=1\/r=2\/r=3\/r=4\/r=5:=by left
   rcases this with e | e | e | e | e | e <;> rw[e] <;> exact⟨_,rfl,by symm,by symm⟩
  obtain⟨v,hv,v0,v1⟩:=at_
  refine⟨l,_,_,_,rfl,rfl,SqL.of (b1 _ _ lp aK),hv,?_⟩
  exact q v _ v0 v1 ((But.new hl).trans b1) p1
 ·refine⟨_,rfl,_,_,rfl,rfl,⟨by decide,by decide,by decide⟩,p,_,rfl,hp,by decide,by decide,λ r H1 r0 r1 b1 p1=>?_⟩
  refine⟨_,rfl,_,_,rfl,rfl,⟨by decide,by decide,by decide⟩,_,_,rfl,rfl,p,_,rfl,p1,by decide,by decide,λ r2 H2 r20 r21 b2 p2=>?_⟩
  have e9:((10:Int)^(9:Int).toNat)=1000000000:=by decide
  rw[e9] at r1 r21
  refine⟨_,_,rfl,rfl,.inl ⟨by left,by left⟩,_,_,rfl,rfl,?_⟩
  have m0:0<=r*r2:=Int.mul_nonneg r0 r20
  have m1:r*r2<=999999999*1000000000:=Int.mul_le_mul (by left) (by left) r20 (by decide)
  exact q _ _ (by left) (by left) (b1.trans b2) p2
theorem rY (T:Bi mg)(D:DefOk K mg "_law_tied" s__law_tied ["pot","n","style","a","b"])(O__law_take:‹1› "_law_take" ["pot","many"] spTake):‹2› "_law_tied" ["pot","n","style","a","b"] spTied:=by
 exists 1,sc__law_tied
 obtain⟨p,n,y,a,b,rfl,hp,q⟩:=h
 have q0:∀ k,Q (.bl k) H:=λ k=>q k H But.refl hp
 refine⟨_,(aD (aI (i:=5) nd rfl (j7 rfl) (jU (bF bE (aJ dW (pv 4) (pv 3)) aB (nomark _)) (dE (bF bE (aJ dW (pv 4) (pv 3)) (aJ dW (pv 1) aB) (nomark _))))) (aD (aW (aN dH (pv 2) aB (nomark _)) (aE (aL (jU (pv 5) (dE (fN (bF bE (pv 2) aB (nomark _)) (dE (bF bE (aM O__law_take hr rfl (aA (pv 0) (aA aB aC))) aB (nomark _)))))))) aX) (aD (aW (aN dH (pv 2) aB (nomark _)) (aE (aL (bF bE (bF cG (aM O__law_take hr rfl (aA (pv 0) (aA aB aC))) aB (nomark _)) (bF bE (pv 2) aB (nomark _)) (nomark _)))) aX) (aD (aW (aN bE (pv 2) aB (nomark _)) (aE (aL (jU (bF bE (aJ dW (pv 4) (pv 3)) aB (nomark _)) (dE (fN (bF bE (aJ dW (pv 4) (pv 3)) aB (nomark _)) (dE (bF cG (aJ cF (pv 4) aB) aB (nomark _)))))))) aX) (aD (aW (aN dH (pv 2) aB (nomark _)) (aE (aL (fN (bF bE (bF bE (aJ cF (pv 3) aB) (aJ cF (pv 4) aB) (nomark _)) (bF bE (pv 2) aB (nomark _)) (nomark _)) (dE (bF cG (aM O__law_take hr rfl (aA (pv 0) (aA aB aC))) aB (nomark _)))))) aX) (aE (aL dG))))))),?_⟩
 refine⟨_,rfl,_,rfl,_,_,rfl,rfl,rfl,_,rfl,?_⟩
 refine ite2 (λ c=>?_) (λ c=>?_)
 all_goals (try refine⟨_,rfl,_,rfl,_,_,rfl,rfl,_,rfl,_,_,rfl,rfl,rfl,?_⟩)
 all_goals
  refine⟨_,rfl,_,_,rfl,rfl,_,rfl,?_⟩
  refine ite2 (λ c1=>?_) (λ c1=>?_)
  ·refine⟨_,rfl,_,rfl,?_⟩
   refine ite2 (λ d=>?_) (λ d=>?_)
   ·exact q0 _
   ·refine⟨_,rfl,rfl,_,rfl,?_⟩
    refine ite2 (λ d=>?_) (λ d=>?_)
    ·exact⟨_,rfl,p,_,rfl,hp,by decide,by decide,λ r H' _ _ b1 p1=>⟨rfl,q _ _ b1 p1⟩⟩
    ·exact q0 _
  refine⟨_,rfl,_,_,rfl,rfl,_,rfl,?_⟩
  refine ite2 (λ c2=>?_) (λ c2=>?_)
  ·exact⟨_,rfl,p,_,rfl,hp,by decide,by decide,λ r H' _ _ b1 p1=>⟨_,_,rfl,rfl,_,rfl,rfl,rfl,q _ _ b1 p1⟩⟩
  refine⟨_,rfl,rfl,_,rfl,?_⟩
  refine ite2 (λ c3=>?_) (λ c3=>?_)
  ·refine⟨_,rfl,_,rfl,_,_,rfl,rfl,rfl,_,rfl,?_⟩
   refine ite2 (λ d=>?_) (λ d=>?_)
   ·exact q0 _
   ·refine⟨_,rfl,_,rfl,_,_,rfl,rfl,rfl,_,rfl,?_⟩
    refine ite2 (λ d=>?_) (λ d=>?_)
    ·exact⟨_,rfl,_,_,rfl,rfl,(by show (0:Int)<3;decide),_,_,rfl,rfl,q0 _⟩
    ·exact q0 _
  refine⟨_,rfl,_,_,rfl,rfl,_,rfl,?_⟩
  refine ite2 (λ c4=>?_) (λ c4=>?_)
  ·refine⟨_,rfl,_,_,rfl,rfl,(by show (0:Int)<2;decide),_,rfl,_,_,rfl,rfl,(by show (0:Int)<2;decide),rfl,_,rfl,rfl,rfl,_,rfl,?_⟩
   refine ite2 (λ d=>?_) (λ d=>?_)
   ·exact⟨_,rfl,p,_,rfl,hp,by decide,by decide,λ r H' _ _ b1 p1=>⟨_,_,rfl,rfl,q _ _ b1 p1⟩⟩
   ·exact q0 _
  ·exact q0 _
theorem rL (T:Bi mg)(D:DefOk K mg "_law_order" s__law_order ["pot","many"])(O__law_take:‹1› "_law_take" ["pot","many"] spTake):‹2› "_law_order" ["pot","many"] spOrder:=by
 exists 1,sc__law_order
 obtain⟨p,m,rfl,hp,hm0,hm1,q⟩:=h
 refine⟨_,(aD (aI (i:=2) nd rfl (j7 rfl) (bY (rO rfl) rfl T.z_list (by symm) (aA (bY uF rfl T.z_range (by symm) (aA (pv 1) aC)) aC))) (aD (aI (i:=3) nd rfl (j7 rfl) (dU aC)) (aD (bD PassesOwn.never rfl (cM rfl T.z_range (aA (pv 1) aC)) (aH (i:=4) nd rfl (j7 rfl)) (aE (cQ (cJ z0 uau uat fW (pv 3) (aA (cJ z0 PySem.F.slot_list_pop PySem.F.type_list_pop wX (pv 2) (aA (aM O__law_take hr rfl (aA (pv 0) (aA (aU bX rfl T.z_len (by symm) (aA (pv 2) aC)) aC))) aC)) aC))))) (aE (aL (pv 3)))))),?_⟩
 refine⟨_,rfl,m,rfl,λ g hg=>?_⟩
 refine⟨g,m,rfl,aK,hm0,hm1,λ l hl=>?_⟩
 refine⟨(by show 0<=m3;decide),λ l2 hl2=>?_⟩
 obtain⟨H0,eH0⟩:∃ H0,H0=upd (upd (upd H g (.rng 0 m)) l (.lst ((c9 m.toNat).map λ i:Nat=>V.int (i:Int)))) l2 (.lst []):=⟨_,rfl⟩
 rw[← eH0]
 have S1:Same H (upd H g (.rng 0 m)):=aS hg
 have S2:=S1.trans (aS (o:=.lst ((c9 m.toNat).map λ i:Nat=>V.int (i:Int))) hl)
 have S3:Same H H0:=by rw[eH0];exact S2.trans (aS hl2)
 have fl:H l=none:=S1.free hl
 have fl2:H l2=none:=S2.free hl2
 have ll2:l≠l2:=λ e=>by rw[← e,aK] at hl2;cases hl2
 have el:H0 l=some (.lst ((c9 m.toNat).map λ i:Nat=>V.int (i:Int))):=by rw[eH0,aG ll2,aK]
 have el2:H0 l2=some (.lst []):=by rw[eH0,aK]
 have hp0:Pot H0 p:=by
  obtain⟨a,b,e,z⟩:=hp
  exact⟨a,b,S3 _ _ e,z⟩
 have nlp:l≠p:=by
  obtain⟨a,b,e,z⟩:=hp
  exact λ x=>by rw[x,e] at fl;cases fl
 have nl2p:l2≠p:=by
  obtain⟨a,b,e,z⟩:=hp
  exact λ x=>by rw[x,e] at fl2;cases fl2
 refine⟨_,rfl,m,rfl,by left,by left,?_⟩
 refine dL (n:=m.toNat) (λ i σ H'=>∃ (t:Option V)(ls ms:List Int),σ=[some (.ref p),some (.int m),some (.ref l),some (.ref l2),t]/\H' l=some (.lst (ls.map V.int))/\H' l2=some (.lst (ms.map V.int))/\Pot H' p /\
  (∀ b o,b≠p->H b=some o->H' b=some o)/\(ms++ls).Perm ((c9 m.toNat).map λ i:Nat=>(i:Int))/\ms.length=i) ?start ?turn ?fin
 case start=>exact⟨none,(c9 m.toNat).map λ i:Nat=>(i:Int),[],rfl,by rw[el,ubd];rfl,el2,hp0,λ b o _ e=>S3 b o e,udm.refl _,rfl⟩
 case turn =>
  rintro i σ H' hi ⟨t,ls,ms,rfl,e1,e2,hp',kp,pm,hl'⟩
  have hlen:ls.length=m.toNat-i:=by
   have:=pm.length_eq
   rw[d6,c6,p8] at this
   left
  refine⟨_,rfl,.inl ⟨rfl,_,SqL.of e2⟩,_,rfl,.inl ⟨rfl,_,SqL.of e1⟩,_,rfl,_,rfl,l,_,rfl,.inl (SqL.of e1),?_⟩
  refine⟨p,_,rfl,hp',(by rw[c6];left),(by rw[c6];left),λ r H1 r0 r1 b1 p1=>?_⟩
  rw[c6] at r1
  have hr1:r.toNat<ls.length:=by left
  have er:r=((r.toNat:Nat):Int):=by left
  have six:seqIndex? r (ls.map V.int).length=some r.toNat:=(jI (by unfold ixN;rw[uf7 r0,uf7 (by rw[c6];left)])).1
  refine⟨l,_,r,r.toNat,.int ls[r.toNat],rfl,rfl,b1 _ _ nlp e1,by left,by left,six,by rw[j3,b6 hr1];rfl,?_⟩
  refine⟨l2,_,_,rfl,rfl,by rw[aG ll2.symm];exact b1 _ _ nl2p e2,?_,?_⟩
  ·rw[c6]
   exact uak (by left:ms.length<=1000) (by decide)
  ·refine⟨_,ls.eraseIdx r.toNat,ms++[ls[r.toNat]],rfl,?_,?_,?_,?_,?_,by rw[d6,o6];left⟩
   ·rw[aG ll2,aK,lL]
   ·rw[aK,o3];rfl
   ·obtain⟨a,b,e,z⟩:=p1
    exact⟨a,b,by rw[aG nl2p.symm,aG nlp.symm];exact e,z⟩
   ·intro b o hb e
    have n1:b≠l:=λ x=>by rw[x,fl] at e;cases e
    have n2:b≠l2:=λ x=>by rw[x,fl2] at e;cases e
    rw[aG n2,aG n1]
    exact b1 _ _ hb (kp _ _ hb e)
   ·refine udm.trans ?_ pm
    rw[ucv]
    refine udm.append_left _ ?_
    show (ls[r.toNat]::ls.eraseIdx r.toNat).Perm ls
    exact kS ls r.toNat hr1
 case fin =>
  rintro σ H' ⟨t,ls,ms,rfl,e1,e2,hp',kp,pm,hl'⟩
  have hlen:ls=[]:=by
   have:=pm.length_eq
   rw[d6,c6,p8] at this
   exact ue5 (by left)
  subst hlen
  rw[ubz] at pm
  exact⟨_,rfl,q l2 H' ms kp hp' fl2 nl2p e2 pm⟩
def WInv (H:Hp)(p ln lt:j8)(m n st wy:Int)(ms:List Int)(b a:Nat)(σ:L2.St)(H':Hp):Prop :=
 ∃ (t7 t8 t9 t10:Option V)(ys:List V)(ties:List Tie),σ=[some (.ref p),some (.int m),some (.int n),some (.int st),some (.int wy),some (.ref ln),some (.ref lt),t7,t8,t9,t10] /\
  H' ln=some (.lst (ms.map V.int))/\H' lt=some (.lst ys)/\TieL H' ys ties/\Pot H' p/\(∀ b o,b≠p->H b=some o->H' b=some o)/\Grown n.toNat ms b a ties
theorem sS (T:Bi mg)(D:DefOk K mg "_law_web" s__law_web ["pot","most"])(O__law_take:‹2› "_law_take" ["pot","many"] spTake)(O__law_order:‹2› "_law_order" ["pot","many"] spOrder)
  (O__law_tied:‹2› "_law_tied" ["pot","n","style","a","b"] spTied) (O__law_length:‹2› "_law_length" ["pot","way"] spLength):‹3› "_law_web" ["pot","most"] (spWeb K):=by
 exists 2,sc__law_web
 obtain⟨p,m,rfl,hp,hm0,hm1,q⟩:=h
 refine⟨_,(aD (aI (i:=2) nd rfl (j7 rfl) (aJ bL aB (aM O__law_take hr rfl (aA (pv 0) (aA (pv 1) aC))))) (aD (aI (i:=3) nd rfl (j7 rfl) (aM O__law_take hr rfl (aA (pv 0) (aA aB aC)))) (aD (aI (i:=4) nd rfl (j7 rfl) (aM O__law_take hr rfl (aA (pv 0) (aA aB aC)))) (aD (aI (i:=5) nd rfl (j7 rfl) (aM O__law_order hr rfl (aA (pv 0) (aA (pv 2) aC)))) (aD (aI (i:=6) nd rfl (j7 rfl) (dU aC)) (aD (bD PassesOwn.never rfl (cM rfl T.z_range (aA (pv 2) aC)) (aH (i:=7) nd rfl (j7 rfl)) (aE (bD PassesOwn.never rfl (cM rfl T.z_range (aA (pv 7) aC)) (aH (i:=8) nd rfl (j7 rfl)) (aE (aW (PW.pt (eM (dS (aM O__law_tied hr rfl (aA (pv 0) (aA (pv 2) (aA (pv 3) (aA (pv 8) (aA (pv 7) aC))))))) (fI (aN dH (aU bX rfl T.z_len (by symm) (aA (pv 6) aC)) aB (nomark _))))) (aD (bJ (aU sD rfl T.z_sorted (by symm) (aA (dU (aA (aF aQ (pv 5) (pv 8) (λ _ _=>rfl)) (aA (aF aQ (pv 5) (pv 7) (λ _ _=>rfl)) aC))) aC)) (zM (n:=2) rfl (aO (aH (i:=9) nd rfl (j7 rfl)) (aO (aH (i:=10) nd rfl (j7 rfl)) bG)))) (aE (cQ (cJ z0 uau uat fW (pv 6) (aA (jP (aA (pv 9) (aA (pv 10) (aA (aM O__law_length hr rfl (aA (pv 0) (aA (pv 4) aC))) aC)))) aC))))) aX))))) (aE (aL (jP (aA (pv 2) (aA (bY hJ rfl T.z_tuple (by symm) (aA (aU sC rfl T.z_sorted (by symm) (aA (pv 6) aC)) aC)) aC))))))))))),?_⟩
 refine⟨_,rfl,_,rfl,p,m,rfl,hp,by left,by left,λ r1 H1 r10 r11 b1 p1=>?_⟩
 refine⟨_,_,rfl,rfl,?_⟩
 refine⟨_,rfl,p,8,rfl,p1,by decide,by decide,λ st H2 _ _ b2 p2=>?_⟩
 refine⟨_,rfl,p,5,rfl,p2,by decide,by decide,λ wy H3 wy0 wy1 b3 p3=>?_⟩
 refine⟨_,rfl,_,rfl,p,_,rfl,p3,by left,by left,λ ln H4 ms b4 p4 f4 n4 e4 pm=>?_⟩
 obtain⟨n,en⟩:∃ n:Int,n=1+r1:=⟨_,rfl⟩
 rw[← en] at pm
 have bt4:But p H H4:=b1.trans (b2.trans (b3.trans b4))
 have fln:H ln=none:=by
  cases e:H ln with
  | none=>rfl
  | some u=>rw[(b1.trans (b2.trans b3)) _ _ n4 e] at f4;cases f4
 refine⟨(by show 0<=m3;decide),λ lt hlt=>?_⟩
 have flt:H lt=none:=by
  by_cases z:lt=p
  ·obtain⟨a',b',e',_⟩:=p4;rw[z,e'] at hlt;cases hlt
  ·cases e:H lt with
   | none=>rfl
   | some u=>rw[bt4 _ _ z e] at hlt;cases hlt
 have nlt:lt≠p:=by
  obtain⟨a',b',e',_⟩:=p4
  exact λ x=>by rw[x,e'] at hlt;cases hlt
 have nln:ln≠lt:=λ x=>by rw[← x,e4] at hlt;cases hlt
 have pm0:Perm0 n.toNat ms:=Perm0.of pm
 refine⟨_,rfl,n,by rw[en],by left,by left,?_⟩
 refine dL (n:=n.toNat) (λ i σ H'=>WInv H p ln lt m n st wy ms i 0 σ H') ?start ?turn ?fin
 case start =>
  refine⟨none,none,none,none,[],[],by rw[en];rfl,by rw[aG nln];exact e4,aK,.nil,?_,λ b o hb e=>?_,Grown.start⟩
  ·obtain⟨a',b',e',z⟩:=p4
   exact⟨a',b',by rw[aG nlt.symm];exact e',z⟩
  ·rw[aG (λ x=>by rw[x,flt] at e;cases e)]
   exact bt4 _ _ hb e
 case turn =>
  rintro i σ H' hi ⟨t7,t8,t9,t10,ys,ties,rfl,g1,g2,g3,g4,g5,g6⟩
  refine⟨_,rfl,_,rfl,by left,by left,?_⟩
  have ei:((0+(i:Int)):Int).toNat=i:=by left
  rw[ei]
  refine dL (n:=i) (λ k σ H''=>(∃ t7,σ[7]?=some (some (.int (0+(i:Int))))/\t7=())/\WInv H p ln lt m n st wy ms i k σ H'') ?start2 ?turn2 ?fin2
  case start2=>exact⟨⟨(),rfl,rfl⟩,some (.int (0+(i:Int))),t8,t9,t10,ys,ties,rfl,g1,g2,g3,g4,g5,g6⟩
  case fin2 =>
   rintro σ H'' ⟨_,t7,t8,t9,t10,ys,ties,rfl,g1,g2,g3,g4,g5,g6⟩
   exact⟨t7,t8,t9,t10,ys,ties,rfl,g1,g2,g3,g4,g5,g6.down⟩
  case turn2 =>
   rintro k σ K1 hk ⟨⟨_,h7,_⟩,t7,t8,t9,t10,ys,ties,rfl,g1,g2,g3,g4,g5,g6⟩
   have e7:t7=some (.int (0+(i:Int))):=by simpa using h7
   subst e7
   have again : ∀ {u8 u9 u10 : Option V}{ys' : List V}{ts : List Tie}{J : Hp}, J ln = some (.lst (ms.map V.int)) → J lt = some (.lst ys') → TieL J ys' ts → Pot J p → (∀ b o, b ≠ p → H b = some o → J b = some o) → Grown n.toNat ms i (k+1) ts →
       (∃ t7,([some (.ref p),some (.int m),some (.int n),some (.int st),some (.int wy),some (.ref ln),some (.ref lt),some (.int (0+(i:Int))),u8,u9,u10]:L2.St)[7]?=some (some (.int (0+(i:Int))))/\t7=())/\WInv H p ln lt m n st wy ms i (k+1) [some (.ref p),some (.int m),some (.int n),some (.int st),some (.int wy),some (.ref ln),some (.ref lt),some (.int (0+(i:Int))),u8,u9,u10] J :=
    λ a1 a2 a3 a4 a5 a6=>⟨⟨(),rfl,rfl⟩,_,_,_,_,_,_,rfl,a1,a2,a3,a4,a5,a6⟩
   refine⟨_,rfl,_,rfl,_,rfl,_,rfl,_,rfl,p,_,_,_,_,rfl,g4,λ kk K2 c2 d2=>⟨kk,rfl,?_⟩⟩
   have nlnp:ln≠p:=n4
   have l1:K2 ln=some (.lst (ms.map V.int)):=c2 _ _ nlnp g1
   have l2:K2 lt=some (.lst ys):=c2 _ _ nlt g2
   have tup2:∀ a xs,K1 a=some (.tup xs)->K2 a=some (.tup xs):=λ a xs e=>c2 _ _ (λ x=>by
    obtain⟨a',b',e',_⟩:=g4
    rw[x,e'] at e;cases e) e
   have l3:TieL K2 ys ties:=g3.keep tup2
   have l5:∀ b o,b≠p->H b=some o->K2 b=some o:=λ b o hb e=>c2 _ _ hb (g5 _ _ hb e)
   have ylen:ys.length=ties.length:=Paired.length g3
   cases kk with
   | false =>
    refine iteF (iteF ?_)
    exact again l1 l2 l3 d2 l5 g6.skip
   | true =>
    refine iteT ?_
    refine⟨_,rfl,lt,_,rfl,.inl (SqL.of l2),_,_,rfl,rfl,_,rfl,?_⟩
    refine ite2 (λ c=>?_) (λ c=>?_)
    case refine_2=>exact again l1 l2 l3 d2 l5 g6.skip
    have c':((ys.length:Nat):Int)<60:=uf4 c
    have hkn:k<n.toNat:=by left
    have at_:∀ j:Nat,j<n.toNat->atI (ms.map V.int) (j:Int)=some (.int (ms.getD j 0)):=λ j hj=>by
     have hj':j<ms.length:=by rw[pm0.len];exact hj
     refine oP ?_
     rw[j3,b6 hj']
     simp [ucb,hj']
    have ak:atI (ms.map V.int) (0+(k:Int))=some (.int (ms.getD k 0)):=by rw[Int.zero_add];exact at_ k hkn
    have ai:atI (ms.map V.int) (0+(i:Int))=some (.int (ms.getD i 0)):=by rw[Int.zero_add];exact at_ i hi
    refine⟨_,rfl,_,rfl,ln,_,_,_,rfl,rfl,SqL.of l1,ak,_,rfl,_,rfl,ln,_,_,_,rfl,rfl,SqL.of l1,ai,(by show 2<=m3;decide),λ s1 hs1=>?_⟩
    refine⟨s1,[ms.getD k 0,ms.getD i 0],rfl,SqL.of aK,(by show 2<64;decide),λ zs pz wz s2 hs2=>?_⟩
    obtain⟨x,y,rfl,hxy,hor⟩:=tO pz wz
    refine⟨s2,_,rfl,SqL.of aK,rfl,?_⟩
    refine⟨_,_,rfl,_,_,rfl,rfl,?_⟩
    have n1:∀ b o,K2 b=some o->b≠s1:=λ b o e=>aV e hs1
    have n2:∀ b o,K2 b=some o->b≠s2:=λ b o e=>aV (aS hs1 b o e) hs2
    have up:∀ b o,K2 b=some o->upd (upd K2 s1 (.lst [.int (ms.getD k 0),.int (ms.getD i 0)])) s2 (.lst [.int x,.int y]) b=some o:=λ b o e=>by rw[aG (n2 b o e),aG (n1 b o e)];exact e
    refine⟨_,rfl,.inl ⟨rfl,_,SqL.of (up _ _ l2)⟩,_,rfl,_,rfl,_,rfl,_,rfl,?_⟩
    refine⟨p,wy,rfl,?_,wy0,wy1,λ len K5 ln0 ln1 c5 d5=>?_⟩
    ·obtain⟨a',b',e',z⟩:=d2
     exact⟨a',b',up _ _ e',z⟩
    refine⟨(by show 3<=m3;decide),λ tp htp=>?_⟩
    have pl:∃ xs,K2 p=some (.lst xs):=d2.lst
    have up5:∀ b o,b≠p->K2 b=some o->upd K5 tp (.tup [.int x,.int y,.int len]) b=some o:=λ b o hb e=>by
     have e5:=c5 b o hb (up b o e)
     rw[aG (aV e5 htp)];exact e5
    refine⟨lt,_,_,rfl,rfl,up5 _ _ nlt l2,?_,?_⟩
    ·exact uak (by left:ys.length<=1000) (by decide)
    have k5:∀ b o,b≠p->b≠lt->K2 b=some o->upd (upd K5 tp (.tup [.int x,.int y,.int len])) lt (.lst (ys++[.ref tp])) b=some o:=λ b o hb hb2 e=>by rw[aG hb2];exact up5 b o hb e
    have ntp:tp≠lt:=λ z=>by
     have:=c5 _ _ nlt (up _ _ l2)
     rw[← z,htp] at this;cases this
    refine again (k5 _ _ nlnp nln l1) aK (TieL.snoc (TieL.keep l3 λ a xs e=>k5 _ _ ?_ ?_ e) ?_) ?_ (λ b o hb e=>k5 _ _ hb (λ z=>by rw[z,flt] at e;cases e) (l5 _ _ hb e))
     (g6.add (x:=x) (y:=y) (l:=len) pm0 hk hi (by left) ln0 ln1 hor hxy)
    ·intro z
     obtain⟨xs',e'⟩:=pl
     rw[z,e'] at e;cases e
    ·intro z
     rw[z,l2] at e;cases e
    ·rw[aG ntp,aK];rfl
    ·obtain⟨a',b',e',z⟩:=d5
     exact⟨a',b',by rw[aG nlt.symm,aG (aV e' htp)];exact e',z⟩
 case fin =>
  rintro σ H' ⟨t7,t8,t9,t10,ys,ties,rfl,g1,g2,g3,g4,g5,g6⟩
  have ylen:ys.length=ties.length:=Paired.length g3
  have few:=g6.few
  refine⟨_,rfl,_,rfl,lt,ys,ties.map tieI,rfl,SqL.of g2,by left,kH (λ y t ⟨a,e1,e2⟩=>⟨a,e1,SqT.of e2⟩) g3,λ k hk=>?_,λ qs pq wq l hl=>?_⟩
  ·obtain⟨t,_,rfl⟩:=ua5.mp hk
   exact λ z=>by cases z
  obtain⟨ts,pt,tl,wt⟩:=yA g3 pq wq
  refine⟨l,_,rfl,.inl ⟨SqL.of aK,λ l' hl'=>?_⟩⟩
  refine⟨(by show 2<=m3;decide),λ v hv=>?_⟩
  have S1:Same H' (upd H' l (.lst (qs.map (·.1)))):=aS hl
  have S2:=S1.trans (aS (o:=.tup (qs.map (·.1))) hl')
  have S3:=S2.trans (aS (o:=.tup [.int n,.ref l']) hv)
  refine q (.ref v) _ n ts (λ b o hb e=>S3 _ _ (g5 _ _ hb e)) ?_ ⟨by left,by left,yI wt ((pt.pairwise_iff (λ {a b} h z=>h ⟨z.1.symm,z.2.symm⟩)).mpr g6.nd),by have:=pt.length_eq;left,λ t ht=>?_⟩ (by left) ?_
  ·obtain⟨a',b',e',z⟩:=g4
   exact⟨a',b',S3 _ _ e',z⟩
  ·have:=g6.ok t (pt.mem_iff.mp ht)
   have e:((n.toNat:Nat):Int)=n:=by left
   rw[e] at this
   exact this
  ·refine⟨v,_,rfl,aK,_,_,rfl,rfl,_,_,rfl,⟨l',qs.map (·.1),rfl,?_,?_⟩,rfl⟩
   ·exact (aS hv) _ _ aK
   ·exact TieL.is (tl.keep λ a xs e=>S3 _ _ e)
theorem sB (T:Bi mg)(D:DefOk K mg "_law_keep" s__law_keep ["pot","web"])(O__law_take:‹1› "_law_take" ["pot","many"] spTake):‹2› "_law_keep" ["pot","web"] (spKeep K):=by
 exists 1,sc__law_keep
 obtain⟨p,n,ts,v,rfl,hp,hw,few60,q⟩:=h
 refine⟨_,(aD (aI (i:=2) nd rfl (ueu rfl) (aM O__law_take hr rfl (aA (pv 0) (aA aB aC)))) (aE (aL (bY hJ rfl T.z_tuple (by symm) (aA (cC (N:=["pot","web","way"]) (sc0:=defScope s__law_keep) (own:=["number"]) (fr:=["way","pot"]) (js:=[2,0]) rfl (cM rfl T.z_range (aA (aU bX rfl T.z_len (by symm) (aA (aF aP (pv 1) aB (λ _ _=>rfl)) aC)) aC)) (λ _ _ _ _=>(aH (i:=0) (by show uai [("number":Str),("way":Str),("pot":Str)];decide +kernel) rfl (j7 rfl))) (λ _ _ _ _=>(dQ (PW.pt (eN (aN bE (pv 1) aB (nomark _)) (eK (PW.pt (eM (aN cG (pv 1) aB (nomark _)) (fI (aN bE (bF bE (aM O__law_take hr rfl (aA (pv 2) (aA aB aC))) aB (nomark _)) (bF bE (pv 1) aB (nomark _)) (nomark _)))))))))) (λ _ _ _ _=>(pv 0))) aC))))),?_⟩
 refine⟨_,rfl,p,4,rfl,hp,by decide,by decide,λ way H1 w0 w1 b1 p1=>?_⟩
 obtain⟨g0,g,ws,rfl,hg0,hg,hall,hlw⟩:=bM hw
 obtain⟨xs0,e0⟩:=hp.lst
 have tup1:∀ c zs,H c=some (.tup zs)->H1 c=some (.tup zs):=λ c zs e=>b1 _ _ (λ x=>by rw[x,e0] at e;cases e) e
 refine⟨_,rfl,g0,_,_,_,rfl,rfl,SqT.of (tup1 _ _ hg0),rfl,g,_,rfl,.inr (SqT.of (tup1 _ _ hg)),_,rfl,by left,by left,λ L hL=>?_⟩
 have nLp:L≠p:=by
  obtain⟨a',b',e',_⟩:=p1
  exact λ z=>by rw[z,e'] at hL;cases hL
 have en:(((ws.length:Nat):Int)).toNat=ts.length:=by left
 rw[en]
 refine⟨λ i m ys σ' H'=>m=ts.length-i/\i<=ts.length/\(∃ o,σ'=[o,some (.int way),some (.ref p)])/\But p H1 H'/\Pot H' p/\∃ ks:List Nat,ys=(keepI ks).map V.int/\KeepOk i ks,⟨ts.length,rfl,v4 _,⟨none,rfl⟩,But.new hL,?_,[],rfl,.nil,λ k hk=>by cases hk⟩,?_⟩
 ·obtain⟨a',b',e',z⟩:=p1
  exact⟨a',b',by rw[aG nLp.symm];exact e',z⟩
 rintro i m ys σ' H' ⟨rfl,hi,⟨o,rfl⟩,bt,pt,ks,rfl,ko⟩ hd
 by_cases hlt:i<ts.length
 ·refine .inr ⟨hlt,λ x H2 hy=>?_⟩
  obtain⟨rfl,rfl⟩:=hy
  have lenk:ks.length<=i:=ko.len
  have takeIt : ∀ {J : Hp}, But p H2 J → Pot J p → J L = some (.lst ((keepI ks).map V.int)) /\ ((keepI ks).map V.int).length<m3 /\ ∃ m', m'<ts.length-i /\ (m' = ts.length-(i+1) /\ i+1 <= ts.length /\ (∃ o, ([some (V.int (0+(i : Int))), some (.int way), some (.ref p)] : L2.St) = [o, some (.int way), some (.ref p)]) /\
      But p H1 (upd J L (.lst ((keepI ks).map V.int++[.int (0+(i:Int))])))/\Pot (upd J L (.lst ((keepI ks).map V.int++[.int (0+(i:Int))]))) p/\∃ ks':List Nat,(keepI ks).map V.int++[.int (0+(i:Int))]=(keepI ks').map V.int/\KeepOk (i+1) ks'):=λ {J} bj pj=>by
   refine⟨bj _ _ nLp hd,?_,ts.length-(i+1),by left,rfl,hlt,⟨_,rfl⟩,λ b o hb e=>?_,?_,ks++[i],?_,?_⟩
   ·rw[c6];unfold keepI;rw[c6]
    exact uak (by left:ks.length<=1000) (by decide)
   ·rw[aG (aV e hL)];exact bj _ _ hb (bt _ _ hb e)
   ·obtain⟨a',b',e',z⟩:=pj
    exact⟨a',b',by rw[aG nLp.symm];exact e',z⟩
   ·unfold keepI
    rw[o3,o3]
    simp
   ·refine⟨List.pairwise_append.mpr ⟨ko.1,uf0 _ _,λ x hx y hy=>?_⟩,λ k hk=>?_⟩
    ·have:y=i:=by simpa using hy
     rw[this];exact ko.2 x hx
    ·rcases l8.mp hk with hk | hk
     ·have:=ko.2 k hk;left
     ·have:k=i:=by simpa using hk
      left
  have leaveIt:∀ {J:Hp},But p H2 J->Pot J p->J L=some (.lst ((keepI ks).map V.int))/\∃ m',m'<ts.length-i/\(m'=ts.length-(i+1)/\i+1<=ts.length/\(∃ o,([some (V.int (0+(i:Int))),some (.int way),some (.ref p)]:L2.St)=[o,some (.int way),some (.ref p)])/\But p H1 J/\Pot J p/\∃ ks':List Nat,(keepI ks).map V.int=(keepI ks').map V.int/\KeepOk (i+1) ks'):=λ {J} bj pj =>
   ⟨bj _ _ nLp hd,ts.length-(i+1),by left,rfl,hlt,⟨_,rfl⟩,bt.trans bj,pj,ks,rfl,ko.1,λ k hk=>by have:=ko.2 k hk;left⟩
  refine⟨_,rfl,rfl,_,rfl,ite2 (λ c=>?_) (λ c=>?_)⟩
  ·exact iteT ⟨_,rfl,takeIt But.refl pt⟩
  ·refine⟨_,rfl,_,_,rfl,rfl,_,rfl,ite2 (λ c2=>?_) (λ c2=>?_)⟩
   ·refine⟨_,rfl,p,4,rfl,pt,by decide,by decide,λ r J _ _ bj pj=>⟨rfl,_,rfl,rfl,rfl,_,rfl,ite2 (λ c3=>?_) (λ c3=>?_)⟩⟩
    ·exact⟨_,rfl,takeIt bj pj⟩
    ·exact leaveIt bj pj
   ·exact iteF (leaveIt But.refl pt)
 ·have e:i=ts.length:=by left
  subst e
  refine .inl ⟨c8 _,L,_,rfl,.inl ⟨SqL.of hd,λ l hl=>?_⟩⟩
  refine q _ _ ks (b1.trans (bt.trans (But.new hl))) ?_ ko ⟨l,_,rfl,aK,IsAll.ints _⟩
  obtain⟨a',b',e',z⟩:=pt
  exact⟨a',b',(aS hl) _ _ e',z⟩
def spSame0 (K:a9):Sp:=λ _ _ _ _=>False
def spSame1 (K:a9):Sp:=λ vs H Q _=>∃ v,vs=[v,v]/\(v=.non\/∃ i,v=.int i)/\∀ H',Same H H'->Q (.bl true) H'
def spSame2 (K:a9):Sp:=λ vs H Q _=>∃ v u,vs=[v,u]/\((v=.non/\u=.non)\/∃ t t' ws,v=.ref t/\u=.ref t'/\H t=some (.tup (natV ws))/\H t'=some (.tup (natV ws))/\ws.length<=24)/\∀ H',Same H H'->Q (.bl true) H'
theorem wR:DefOk K mg "_law_same" s__law_same ["found","due"]->‹0› "_law_same" ["found","due"] (spSame0 K):=λ ⟨f,fd,F,b,m⟩=>by
 have no:∀ vs H Q E,¬ spSame0 K vs H Q E:=λ vs H Q E h=>h
 exact⟨f,fd,⟨λ vs H Q E h=>absurd h (no vs H Q E),λ A outer s H args us vs Q E _ _ _ _ h=>absurd h (no vs H Q E)⟩,b,F.kp,m⟩
theorem wQ (T:Bi mg)(D:DefOk K mg "_law_same" s__law_same ["found","due"])(O__law_same:‹0› "_law_same" ["found","due"] (spSame0 K)):‹1› "_law_same" ["found","due"] (spSame1 K):=by
 exists 0,sc__law_same
 obtain⟨v,rfl,hv,q⟩:=h
 refine⟨_,(aD (aW (dS (aU (eG (n:="tuple")) rfl T.z_isinstance (by symm) (aA (pv 1) (aA (eI (v:=.ty "tuple") rfl T.z_tuple (by symm) rfl) aC)))) (aD (aW (PW.pt (eN (jO (dS (aU (eG (n:="tuple")) rfl T.z_isinstance (by symm) (aA (pv 0) (aA (eI (v:=.ty "tuple") rfl T.z_tuple (by symm) rfl) aC))))) (eK (aN eO (aU bX rfl T.z_len (by symm) (aA (pv 0) aC)) (aU bX rfl T.z_len (by symm) (aA (pv 1) aC)) (nomark _))))) (aE (aL dG)) aX) (aE (aL (aU (nI rfl) rfl T.z_all (by symm) (aA (cC (N:=["found","due"]) (sc0:=defScope s__law_same) (own:=["one","other"]) (fr:=[]) (js:=[]) rfl (gS true true rfl T.z_zip (aA (pv 0) (aA (pv 1) aC))) (λ _ _ _ _=>(fJ (n:=2) rfl (aO (aH (i:=0) (by show uai [("one":Str),("other":Str)];decide +kernel) rfl (j7 rfl)) (aO (aH (i:=1) (by show uai [("one":Str),("other":Str)];decide +kernel) rfl (j7 rfl)) bG)))) (λ _ _ _ _=>cP) (λ _ _ _ _=>(aM O__law_same hr rfl (aA (pv 0) (aA (pv 1) aC))))) aC))))) aX) (aE (aL (fN (bF bE (pv 0) (pv 1) (nomark _)) (dE (oV (aU (eG (n:="bool")) rfl T.z_isinstance (by symm) (aA (pv 0) (aA (eI (v:=.ty "bool") rfl T.z_bool (by symm) rfl) aC))))))))),?_⟩
 rcases hv with rfl | ⟨i,rfl⟩
 ·refine⟨_,rfl,_,_,_,rfl,.non,rfl,_,rfl,iteF ?_⟩
  refine⟨_,rfl,_,rfl,rfl,_,rfl,?_⟩
  exact iteT ⟨_,rfl,_,_,_,rfl,.non,rfl,_,rfl,q H (Same.refl H)⟩
 ·refine⟨_,rfl,_,_,_,rfl,.int _,rfl,_,rfl,iteF ?_⟩
  refine⟨_,rfl,_,rfl,rfl,_,rfl,?_⟩
  have e:decide (V.int i=V.int i)=true:=uf3 rfl
  rw[e]
  exact iteT ⟨_,rfl,_,_,_,rfl,.int _,rfl,_,rfl,q H (Same.refl H)⟩
theorem wP (T:Bi mg)(D:DefOk K mg "_law_same" s__law_same ["found","due"])(O__law_same:‹1› "_law_same" ["found","due"] (spSame1 K)):‹2› "_law_same" ["found","due"] (spSame2 K):=by
 exists 1,sc__law_same
 obtain⟨v,u,rfl,hv,q⟩:=h
 refine⟨_,(aD (aW (dS (aU (eG (n:="tuple")) rfl T.z_isinstance (by symm) (aA (pv 1) (aA (eI (v:=.ty "tuple") rfl T.z_tuple (by symm) rfl) aC)))) (aD (aW (PW.pt (eN (jO (dS (aU (eG (n:="tuple")) rfl T.z_isinstance (by symm) (aA (pv 0) (aA (eI (v:=.ty "tuple") rfl T.z_tuple (by symm) rfl) aC))))) (eK (aN eO (aU bX rfl T.z_len (by symm) (aA (pv 0) aC)) (aU bX rfl T.z_len (by symm) (aA (pv 1) aC)) (nomark _))))) (aE (aL dG)) aX) (aE (aL (aU (nI rfl) rfl T.z_all (by symm) (aA (cC (N:=["found","due"]) (sc0:=defScope s__law_same) (own:=["one","other"]) (fr:=[]) (js:=[]) rfl (gS true true rfl T.z_zip (aA (pv 0) (aA (pv 1) aC))) (λ _ _ _ _=>(fJ (n:=2) rfl (aO (aH (i:=0) (by show uai [("one":Str),("other":Str)];decide +kernel) rfl (j7 rfl)) (aO (aH (i:=1) (by show uai [("one":Str),("other":Str)];decide +kernel) rfl (j7 rfl)) bG)))) (λ _ _ _ _=>cP) (λ _ _ _ _=>(aM O__law_same hr rfl (aA (pv 0) (aA (pv 1) aC))))) aC))))) aX) (aE (aL (fN (bF bE (pv 0) (pv 1) (nomark _)) (dE (oV (aU (eG (n:="bool")) rfl T.z_isinstance (by symm) (aA (pv 0) (aA (eI (v:=.ty "bool") rfl T.z_bool (by symm) rfl) aC))))))))),?_⟩
 rcases hv with ⟨rfl,rfl⟩ | ⟨p,g,ws,rfl,rfl,hp,hg,l24⟩
 ·refine⟨_,rfl,_,_,_,rfl,.non,rfl,_,rfl,iteF ?_⟩
  refine⟨_,rfl,_,rfl,rfl,_,rfl,?_⟩
  exact iteT ⟨_,rfl,_,_,_,rfl,.non,rfl,_,rfl,q H (Same.refl H)⟩
 ·have lenN:(natV ws).length=ws.length:=by unfold natV;rw[c6]
  refine⟨_,rfl,_,_,_,rfl,TyOf.tup hg,rfl,_,rfl,iteT ?_⟩
  refine⟨_,rfl,_,_,_,rfl,TyOf.tup hp,rfl,_,rfl,iteF ⟨_,rfl,p,_,rfl,.inr (SqT.of hp),_,rfl,g,_,rfl,.inr (SqT.of hg),rfl,_,rfl,iteNS rfl ?_⟩⟩
  refine⟨_,rfl,_,rfl,p,g,rfl,⟨_,SqT.of hp⟩,⟨_,SqT.of hg⟩,?_⟩
  refine iZ (t1:=true) (t2:=true) (xs:=natV ws) (zs:=natV ws) hp hg (λ σ'=>σ'.length=2) (λ i v _=>v=.bl true) (by left) (by rfl) (λ _ _ _ _ _ h=>h) (λ i x z U σ' H' hxi hzi s hU sg C hC=>?_) (λ L ys H' hL s hH hly hys=>?_)
  ·match σ',sg with
   | [o1,o2],_ =>
    rw[hxi] at hzi
    cases hzi
    obtain⟨j,hj,rfl⟩:=bQ hxi
    refine⟨U,_,rfl,SqT.of aK,rfl,_,_,rfl,_,_,rfl,rfl,?_⟩
    exact⟨_,rfl,_,rfl,_,rfl,.inr ⟨_,rfl⟩,λ H5 s5=>hC _ _ _ rfl ((aS hU).trans s5) rfl⟩
  ·refine⟨L,_,rfl,SqL.of (by rw[hH,xQ (f:=λ _=>true) hly hys]),?_⟩
   have e:((c9 (min (natV ws).length (natV ws).length)).map λ _=>true).all id=true:=by simp
   rw[e]
   exact q H' s
theorem pick2 (m m':Int)(b:Bool):atI [V.int m,V.int m'] (if b=true then 1 else 0)=some (.int (if b=true then m' else m)):=by cases b <;> rfl
theorem qR (T:Bi mg)(D:DefOk K mg "_law_most" s__law_most ["pot","k"])(O__law_take:‹1› "_law_take" ["pot","many"] spTake):‹2› "_law_most" ["pot","k"] spMost:=by
 exists 1,sc__law_most
 obtain⟨p,k,rfl,hp,q⟩:=h
 refine⟨_,(aD (aI (i:=2) nd rfl (j7 rfl) (aF aQ (bK (aA aB (aA aB (aA aB (aA aB (aA aB (aA aB (aA aB (aA aB aC))))))))) (aM O__law_take hr rfl (aA (pv 0) (aA aB aC))) (λ _ _=>rfl))) (aE (aL (aF aQ (bK (aA (pv 2) (aA (aU (fZ rfl) rfl T.z_min (by symm) (aA (pv 2) (aA aB aC))) aC))) (bY vZ rfl T.z_int (by symm) (aA (bF cG (pv 1) aB (nomark _)) aC)) (λ _ _=>rfl))))),?_⟩
 refine⟨(by show 8<=1000;decide),λ l0 J1 S1 f1 e1=>?_⟩
 have n0:l0≠p:=λ z=>by
  obtain⟨a',b',e',_⟩:=hp
  rw[z,e'] at f1;cases f1
 refine⟨_,rfl,p,8,rfl,hp.same S1,by decide,by decide,λ rr J2 rr0 rr1 b2 p2=>?_⟩
 obtain⟨mm,mm1,mm24,hatm⟩:∃ m:Int,1<=m/\m<=24/\atI [V.int 8,V.int 8,V.int 5,V.int 8,V.int 12,V.int 8,V.int 8,V.int 24] rr=some (.int m):=by
  have:rr=0\/rr=1\/rr=2\/rr=3\/rr=4\/rr=5\/rr=6\/rr=7:=by left
  rcases this with rfl | rfl | rfl | rfl | rfl | rfl | rfl | rfl
  ·exact⟨8,by decide,by decide,rfl⟩
  ·exact⟨8,by decide,by decide,rfl⟩
  ·exact⟨5,by decide,by decide,rfl⟩
  ·exact⟨8,by decide,by decide,rfl⟩
  ·exact⟨12,by decide,by decide,rfl⟩
  ·exact⟨8,by decide,by decide,rfl⟩
  ·exact⟨8,by decide,by decide,rfl⟩
  ·exact⟨24,by decide,by decide,rfl⟩
 refine⟨l0,_,_,_,rfl,rfl,SqL.of (b2 _ _ n0 e1),hatm,?_⟩
 refine⟨_,rfl,_,rfl,_,_,rfl,(by show 2<=1000;decide),λ l1 J3 S3 f3 e3=>?_⟩
 have B:But p H J3:=(Same.but S1).trans (b2.trans (Same.but S3))
 refine⟨_,rfl,_,_,rfl,rfl,.inr ⟨_,rfl,l1,_,_,_,rfl,rfl,SqL.of e3,pick2 _ _ _,?_⟩⟩
 generalize decide ((0:Int)<k)=bb
 refine q _ J3 B (p2.same S3) ?_ ?_
 ·cases bb with
  | true=>rw[uf7 rfl];split <;> left
  | false=>exact mm1
 ·cases bb with
  | true=>rw[uf7 rfl];split <;> left
  | false=>exact mm24
theorem qO (T:Bi mg)(D:DefOk K mg "tie_weights" s_tie_weights ["web"]):‹1› "tie_weights" ["web"] (spWeights K):=by
 exists 0,sc_tie_weights
 obtain⟨n,ts,v,rfl,hw,few60,q⟩:=h
 obtain⟨g0,g,ws,rfl,hg0,hg,hall,hlw⟩:=bM hw
 refine⟨_,(aD (aI (i:=1) nd rfl (j7 rfl) (bK aC)) (aD (aI (i:=2) nd rfl (j7 rfl) aB) (aD (bD PassesOwn.never rfl (cT (aF aP (pv 0) aB (λ _ _=>rfl))) (aH (i:=3) nd rfl (j7 rfl)) (aD (cQ (cJ z0 uau uat eZ (pv 1) (aA (pv 2) aC))) (aE (aI (i:=2) nd rfl (j7 rfl) (aJ fP aB (pv 2)))))) (aE (aL (pv 1)))))),?_⟩
 refine⟨(by show 0<=1000;decide),λ l J0 S0 f0 e0=>?_⟩
 refine⟨_,rfl,g0,_,_,_,rfl,rfl,SqT.of (S0 _ _ hg0),rfl,g,rfl,⟨_,SqT.of (S0 _ _ hg)⟩,?_⟩
 refine eJ (xs:=ws) (λ i σ J=>∃ y3:Option V,σ=[some (.ref g0),some (.ref l),some (.int (2^i)),y3]/\Same H J/\J l=some (.lst (pows i))) ⟨none,rfl,S0,e0⟩ (λ i σ J _ h=>by obtain⟨_,_,s,_⟩:=h;exact SqT.of (s _ _ hg)) (λ i x σ J hx h=>?_) (λ σ J h=>?_)
 ·obtain⟨y3,rfl,s1,e1⟩:=h
  have hi:i<ws.length:=(i3.mp hx).1
  refine⟨_,rfl,.inl ⟨rfl,_,SqL.of e1⟩,_,rfl,l,_,_,rfl,rfl,e1,(by unfold pows;rw[c6,p8];left),λ J1 b1 e2=>?_⟩
  refine⟨_,rfl,_,_,rfl,rfl,.inl ⟨by decide,by decide⟩,?_⟩
  refine⟨some x,?_,λ b o e=>b1 _ _ (aV e f0) (s1 _ _ e),by rw[e2,uW]⟩
  have ep:(2:Int)*2^i=2^(i+1):=by rw[Int.pow_succ,Int.mul_comm]
  show [some (V.ref g0),some (V.ref l),some (V.int (2*2^i)),some x]=_
  rw[ep]
 ·obtain⟨y3,rfl,s1,e1⟩:=h
  exact⟨_,rfl,q l J s1 f0 (by rw[e1,hlw])⟩
theorem rX (T:Bi mg)(D:DefOk K mg "cost_with" s_cost_with ["cost","length","weight"]):‹1› "cost_with" ["cost","length","weight"] (spCost K):=by
 exists 0,sc_cost_with
 obtain⟨c,x,y,l,ww,rfl,hc,q⟩:=h
 refine⟨_,(aE (aL (bH (aA (aJ bL (aF aP (pv 0) aB (λ _ _=>rfl)) (pv 1)) (aA (aJ bL (aF aP (pv 0) aB (λ _ _=>rfl)) (pv 2)) aC))))),?_⟩
 exact⟨_,rfl,c,_,_,_,rfl,rfl,SqT.of hc,rfl,_,rfl,_,_,rfl,rfl,_,rfl,c,_,_,_,rfl,rfl,SqT.of hc,rfl,_,rfl,_,_,rfl,rfl,(by show 2<=1000;decide),λ t J S f e=>q t J S e⟩
def rWB (H:Hp)(wv kv:V)(n r:Int)(ts:List Tie)(ks:List Nat)(lw lc la:j8)(m:Nat)(σ:L2.St)(J:Hp):Prop:=∃ (cs:List (Option (Int × Int)))(as:List (Option Nat))(ag:Bool)(y7 y8 y9 y10 y11 y12 y13:Option V),σ=[some wv,some kv,some (.int r),some (.ref lw),some (.ref lc),some (.ref la),some (.bl ag),y7,y8,y9,y10,y11,y12,y13] /\
 RA H J lw lc la (pows ts.length) cs as/\Far.Good (arcs ts ks) n.toNat r.toNat cs/\Far.Run (arcsB ts ks) r.toNat cs as/\(ag=false->Far.Stab2 (arcsB ts ks) cs)/\m=Far.mu cs+(if ag=true then 1 else 0)
theorem pY (T:Bi mg)(D:DefOk K mg "reached_from" s_reached_from ["web","keep","root"])(O_tie_weights:‹1› "tie_weights" ["web"] (spWeights K))(O_cost_with:‹1› "cost_with" ["cost","length","weight"] (spCost K)):‹2› "reached_from" ["web","keep","root"] (spReachedB K):=by
 exists 1,sc_reached_from
 obtain⟨n,ts,ks,wv,kv,r,rfl,⟨isw,ok,isk,ko⟩,r0,r1,q⟩:=h
 have few60:=ok.few
 have n1:=ok.n1
 have n24:=ok.n24
 obtain⟨g0,g,ws,rfl,hg0,hg,hall,hlw⟩:=bM isw
 obtain⟨kp,rfl,hkp⟩:=cL isk
 have P:=nK ok ko
 refine⟨_,(aD (aI (i:=3) nd rfl (j7 rfl) (aM O_tie_weights hr rfl (aA (pv 0) aC))) (aD (aI (i:=4) nd rfl (j7 rfl) (aJ gL (bK (aA bC aC)) (aF aP (pv 0) aB (λ _ _=>rfl)))) (aD (aI (i:=5) nd rfl (j7 rfl) (aJ gL (bK (aA bC aC)) (aF aP (pv 0) aB (λ _ _=>rfl)))) (aD (bJ (bH (aA aB (aA aB aC))) (dD (pv 4) (pv 2) cX)) (aD (aI (i:=6) nd rfl (j7 rfl) dG) (aD (mP PassesOwn.never (dS (pv 6)) (aD (aI (i:=6) nd rfl (j7 rfl) dG) (aE (bD PassesOwn.never rfl (cT (pv 1)) (aH (i:=7) nd rfl (j7 rfl)) (aD (bJ (aF aP (aF aP (pv 0) aB (λ _ _=>rfl)) (pv 7) (λ _ _=>rfl)) (bP (n:=3) rfl (aO (aH (i:=8) nd rfl (j7 rfl)) (aO (aH (i:=9) nd rfl (j7 rfl)) (aO (aH (i:=10) nd rfl (j7 rfl)) bG))))) (aE (bD PassesOwn.never rfl (cT (bH (aA (bH (aA (pv 8) (aA (pv 9) aC))) (aA (bH (aA (pv 9) (aA (pv 8) aC))) aC)))) (bP (n:=2) rfl (aO (aH (i:=11) nd rfl (j7 rfl)) (aO (aH (i:=12) nd rfl (j7 rfl)) bG))) (aD (aW (aN dF (aF aQ (pv 4) (pv 11) (λ _ _=>rfl)) bC (nomark _)) (aE kG) aX) (aD (aI (i:=13) nd rfl (j7 rfl) (aM O_cost_with hr rfl (aA (aF aQ (pv 4) (pv 11) (λ _ _=>rfl)) (aA (pv 10) (aA (aF aQ (pv 3) (pv 7) (λ _ _=>rfl)) aC))))) (aE (aW (PW.pt (eN (aN dF (aF aQ (pv 4) (pv 12) (λ _ _=>rfl)) bC (nomark _)) (eK (aN (oW hr.units0) (pv 13) (aF aQ (pv 4) (pv 12) (λ _ _=>rfl)) (nomark _))))) (aD (bJ (pv 13) (dD (pv 4) (pv 12) cX)) (aD (bJ (pv 11) (dD (pv 5) (pv 12) cX)) (aE (aI (i:=6) nd rfl (j7 rfl) dG)))) aX))))))))))) (aE (aL (bH (aA (pv 4) (aA (pv 5) aC))))))))))),?_⟩
 refine⟨_,rfl,n,ts,_,rfl,isw,few60,λ lw J1 S1 f1 e1=>?_⟩
 refine⟨(by show 1<=1000;decide),λ t0 J2 S2 f2 e2=>⟨_,rfl,g0,_,_,_,rfl,rfl,SqT.of (S2 _ _ (S1 _ _ hg0)),rfl,t0,n,_,rfl,rfl,e2,by left,by left,λ lc J3 S3 f3 e3=>?_⟩⟩
 have S13:=S1.trans (S2.trans S3)
 refine⟨(by show 1<=1000;decide),λ t1 J4 S4 f4 e4=>⟨_,rfl,g0,_,_,_,rfl,rfl,SqT.of (S4 _ _ (S13 _ _ hg0)),rfl,t1,n,_,rfl,rfl,e4,by left,by left,λ la J5 S5 f5 e5=>?_⟩⟩
 refine⟨(by show 2<=1000;decide),λ t2 J6 S6 f6 e6=>?_⟩
 have S36:=S4.trans (S5.trans S6)
 have elc:=S36 _ _ e3
 refine⟨_,rfl,_,rfl,lc,_,r,r.toNat,rfl,rfl,elc,cR r0 (by rw[m5];left),?_⟩
 have Sall:Same H J6:=S13.trans S36
 have fc:H lc=none:=(S1.trans S2).free f3
 have fa:H la=none:=(S13.trans S4).free f5
 have nwc:lw≠lc:=λ z=>by rw[← z,S2 _ _ e1] at f3;cases f3
 have nwa:lw≠la:=λ z=>by rw[← z,S4 _ _ (S3 _ _ (S2 _ _ e1))] at f5;cases f5
 have nca:lc≠la:=λ z=>by rw[← z,S4 _ _ e3] at f5;cases f5
 have R0:RA H J6 lw lc la (pows ts.length) (j6 n.toNat none) (j6 n.toNat none):=⟨Sall,fc,fa,nwc,nwa,nca,S36 _ _ (S3 _ _ (S2 _ _ e1)),⟨_,elc,CostL.first _⟩,by rw[S6 _ _ e5,ueo];rfl⟩
 have R1:=R0.put (k:=r.toNat) elc (by rw[m5];left) e6
  -- the passes
 refine⟨rWB H (.ref g0) (.ref kp) n r ts ks lw lc la,⟨_,_,_,true,none,none,none,none,none,none,none,rfl,R1,Far.Good.first (by left),Far.Run.first (by left),λ z=>(by cases z),rfl⟩,?_⟩
 rintro m σ J ⟨c0,as0,ag,y7,y8,y9,y10,y11,y12,y13,rfl,R,G,AH,St,rfl⟩
 refine⟨_,rfl,ag,rfl,?_⟩
 cases ag with
 | false =>
  refine iteF ?_
  obtain⟨cvs,hc,cl⟩:=R.co
  exact⟨_,rfl,_,rfl,(by show 2<=1000;decide),λ p J' S' f' e'=>q p lc la cvs as0 c0 J' (R.same.trans S') e' (S' _ _ hc) (S' _ _ R.ah) (cl.keep (nN S')) (AH.best P G (St rfl))⟩
 | true =>
  refine iteT ⟨λ σ' J'=>∃ m',m'<Far.mu c0+1/\rWB H (.ref g0) (.ref kp) n r ts ks lw lc la m' σ' J',λ _ _ h=>h,?_⟩
  refine⟨_,rfl,kp,rfl,⟨_,SqT.of (R.same _ _ hkp)⟩,?_⟩
  refine eJ (xs:=(keepI ks).map V.int) (λ i σ J=>∃ (cs:List (Option (Int × Int)))(as:List (Option Nat))(ag:Bool)(y7 y8 y9 y10 y11 y12 y13:Option V),σ=[some (.ref g0),some (.ref kp),some (.int r),some (.ref lw),some (.ref lc),some (.ref la),some (.bl ag),y7,y8,y9,y10,y11,y12,y13] /\
   RA H J lw lc la (pows ts.length) cs as/\Far.Good (arcs ts ks) n.toNat r.toNat cs/\Far.Run (arcsB ts ks) r.toNat cs as/\Far.PS2 c0 (λ z=>z∈arcsB ts (ks.take i)) cs ag) ⟨c0,as0,false,_,_,_,_,_,_,_,rfl,R,G,AH,.inl ⟨rfl,rfl,λ u v l k c z=>by cases z⟩⟩ (λ i σ J _ h=>?_) (λ i x σ J hx h=>?_) (λ σ J h=>?_)
  ·obtain⟨cs,as,ag,y7,y8,y9,y10,y11,y12,y13,rfl,R,_⟩:=h
   exact SqT.of (R.same _ _ hkp)
  ·obtain⟨cs,as,ag,y7,y8,y9,y10,y11,y12,y13,rfl,R,G,AH,Pt⟩:=h
   obtain⟨k,hk,rfl⟩:=gN hx
   have hkl:k<ts.length:=ko.2 k (i9 hk)
   obtain⟨ta,hta,htie⟩:=bR hall hkl
   obtain⟨t,et⟩:∃ t,t=tieAt ts k:=⟨_,rfl⟩
   rw[← et] at htie
   have tk:=ok.tie _ (aZ hkl).2
   rw[← et] at tk
   refine⟨_,rfl,g0,_,_,_,rfl,rfl,SqT.of (R.same _ _ hg0),rfl,_,rfl,g,_,_,_,rfl,rfl,SqT.of (R.same _ _ hg),bA (m9 _) hta,ta,_,rfl,SqT.of (R.same _ _ htie),rfl,_,_,rfl,_,_,rfl,_,_,rfl,rfl,?_⟩
   refine⟨_,rfl,_,rfl,(by show 2<=1000;decide),λ t1 K1 T1 u1 v1=>⟨_,rfl,_,rfl,(by show 2<=1000;decide),λ t2 K2 T2 u2 v2=>⟨(by show 2<=1000;decide),λ t3 K3 T3 u3 v3=>⟨t3,rfl,⟨_,SqT.of v3⟩,?_⟩⟩⟩⟩
   have R3:=R.step (T1.trans (T2.trans T3))
   have v1':=T3 _ _ (T2 _ _ v1)
   have v2':=T3 _ _ v2
   refine eJ (xs:=[V.ref t1,.ref t2]) (λ j σ J=>∃ (cs:List (Option (Int × Int)))(as:List (Option Nat))(ag:Bool)(y11 y12 y13:Option V),σ=[some (.ref g0),some (.ref kp),some (.int r),some (.ref lw),some (.ref lc),some (.ref la),some (.bl ag),some (.int (k:Int)),some (.int t.1),some (.int t.2.1),some (.int t.2.2),y11,y12,y13] /\
    RA H J lw lc la (pows ts.length) cs as/\Far.Good (arcs ts ks) n.toNat r.toNat cs/\Far.Run (arcsB ts ks) r.toNat cs as/\Far.PS2 c0 (λ z=>z∈arcsB ts (ks.take i)\/z∈(arcs2B t k).take j) cs ag/\TupKeep K3 J) ⟨cs,as,ag,_,_,_,rfl,R3,G,AH,Pt.less λ a z=>z.elim id λ z=>(by cases z),λ _ _ e=>e⟩ (λ j σ J _ h=>?_) (λ j x σ J hx h=>?_) (λ σ J h=>?_)
   ·obtain⟨cs,as,ag,y11,y12,y13,rfl,R,G,AH,Pt,tk⟩:=h
    exact SqT.of (tk _ _ v3)
   ·obtain⟨cs,as,ag,y11,y12,y13,rfl,R,G,AH,Pt,tkp⟩:=h
    obtain⟨p,u,v,rfl,hp,u0,un,v0,vn,arc,arcB,more⟩:∃ p u v,x=.ref p/\J p=some (.tup [.int u,.int v])/\0<=u/\u<n/\0<=v/\v<n/\(u.toNat,v.toNat,t.2.2)∈arcs ts ks/\(u.toNat,v.toNat,t.2.2,k)∈arcsB ts ks/\∀ z,z∈(arcs2B t k).take (j+1)->z∈(arcs2B t k).take j\/z=(u.toNat,v.toNat,t.2.2,k):=by
     have memB:∀ z,z∈arcs2B t k->z∈arcsB ts ks:=λ z hz=>arcsB_mem.mpr ⟨k,i9 hk,by rw[← et];exact hz⟩
     have mem:∀ z,z∈arcs2 t->z∈arcs ts ks:=λ z hz=>arcs_mem.mpr ⟨k,i9 hk,by rw[← et];exact hz⟩
     match j,hx with
     | 0,hx=>cases hx;exact⟨t1,t.1,t.2.1,rfl,tkp _ _ v1',by left,by left,by left,by left,mem _ (arcs2_mem.mpr (.inl rfl)),memB _ (arcs2B_mem.mpr (.inl rfl)),λ z hz=>by unfold arcs2B at *;simpa using hz⟩
     | 1,hx=>cases hx;exact⟨t2,t.2.1,t.1,rfl,tkp _ _ v2',by left,by left,by left,by left,mem _ (arcs2_mem.mpr (.inr rfl)),memB _ (arcs2B_mem.mpr (.inr rfl)),λ z hz=>by unfold arcs2B at *;simpa using hz⟩
    refine⟨p,_,rfl,SqT.of hp,rfl,_,_,rfl,_,_,rfl,rfl,?_⟩
    obtain⟨cvs,hc,cl⟩:=R.co
    have lenC:cvs.length=n.toNat:=by rw[cl.1];exact G.len
    obtain⟨x1,at1,cv1⟩:=oM cl u0 (by rw[G.len];left)
    obtain⟨x2,at2,cv2⟩:=oM cl v0 (by rw[G.len];left)
    have next:∀ {cs':List (Option (Int × Int))}{ag':Bool},Far.PS2 c0 (Far.plusA (λ z=>z∈arcsB ts (ks.take i)\/z∈(arcs2B t k).take j) (u.toNat,v.toNat,t.2.2,k)) cs' ag'->Far.PS2 c0 (λ z=>z∈arcsB ts (ks.take i)\/z∈(arcs2B t k).take (j+1)) cs' ag':=λ h=>h.less λ z hz=>by
     rcases hz with hz | hz
     ·exact .inl (.inl hz)
     ·exact (more z hz).elim (λ y=>.inl (.inr y)) .inr
    refine⟨_,rfl,_,rfl,lc,_,_,_,rfl,rfl,SqL.of hc,at1,rfl,_,rfl,ite2 (λ c1=>?_) (λ c1=>?_)⟩
    ·-- not reached
     have gu:Far.get cs u.toNat=none:=by
      cases e:Far.get cs u.toNat with
      | none=>rfl
      | some d =>
       rw[e] at cv1
       obtain⟨tt,rfl,_⟩:=cv1
       cases uf4 c1
     exact⟨cs,as,ag,_,_,_,rfl,R,G,AH,next (Pt.no gu),tkp⟩
    ·obtain⟨d,gu⟩:∃ d,Far.get cs u.toNat=some d:=by
      cases e:Far.get cs u.toNat with
      | none=>rw[e] at cv1;exact absurd (uf3 (show x1=V.non from cv1)) c1
      | some d=>exact⟨d,rfl⟩
     rw[gu] at cv1
     obtain⟨td,rfl,htd⟩:=cv1
     have pw:=oU (i:=k) (by left)
     refine⟨_,rfl,_,rfl,lc,_,_,_,rfl,rfl,SqL.of hc,at1,_,rfl,_,rfl,_,rfl,lw,_,_,_,rfl,rfl,SqL.of R.wl,bA (m9 _) (nW hkl),td,_,_,_,_,rfl,htd,λ tn L1 Z1 en=>?_⟩
     have R':=R.step Z1
     have hc':=Z1 _ _ hc
     have tkp':TupKeep K3 L1:=λ a xs e=>Z1 _ _ (tkp a xs e)
     have done : ∀ (hlt : Far.get cs v.toNat = none \/ ∃ c', Far.get cs v.toNat = some c' /\ Far.lt2 (d.1+t.2.2, d.2+2^k) c') , ∀ L, L = upd (upd L1 lc (.lst (cvs.set v.toNat (.ref tn)))) la (.lst ((as.map oa).set v.toNat (.int u))) →
         RA H L lw lc la (pows ts.length) (cs.set v.toNat (some (d.1+t.2.2,d.2+2^k))) (as.set v.toNat (some u.toNat))/\Far.Good (arcs ts ks) n.toNat r.toNat (cs.set v.toNat (some (d.1+t.2.2,d.2+2^k)))/\Far.Run (arcsB ts ks) r.toNat (cs.set v.toNat (some (d.1+t.2.2,d.2+2^k))) (as.set v.toNat (some u.toNat))/\Far.PS2 c0 (λ z=>z∈arcsB ts (ks.take i)\/z∈(arcs2B t k).take (j+1)) (cs.set v.toNat (some (d.1+t.2.2,d.2+2^k))) true/\TupKeep K3 L:=λ hlt L eL=>by
      subst eL
      obtain⟨G',mm⟩:=G.step P (by left) arc (by left) pw.1 pw.2 (by left) gu hlt
      have Rp:=R'.put hc' (k:=v.toNat) (by left) en
      have Rm:=Rp.mark (k:=v.toNat) (u:=u.toNat)
      rw[v8 u0] at Rm
      exact⟨Rm,G',Far.Run.step P G AH arc arcB (by left) gu hlt,next (Pt.put mm),λ a xs e=>fM Rp.ah _ _ (fM hc' _ _ (tkp' a xs e))⟩
     have ha:=R'.ah
     have hal:(as.map oa).length=n.toNat:=by rw[c6,AH.len];exact G.len
     refine⟨_,rfl,_,rfl,lc,_,_,_,rfl,rfl,SqL.of hc',at2,rfl,_,rfl,ite2 (λ c2=>iteT ?_) (λ c2=>?_)⟩
     ·have gv:Far.get cs v.toNat=none:=by
       cases e:Far.get cs v.toNat with
       | none=>rfl
       | some d =>
        rw[e] at cv2
        obtain⟨tt,rfl,_⟩:=cv2
        cases uf4 c2
      obtain⟨R2,G2,A2,P2,k2⟩:=done (.inl gv) _ rfl
      exact⟨_,rfl,_,rfl,_,rfl,lc,_,_,_,rfl,rfl,hc',cR v0 (by left),_,rfl,_,rfl,_,rfl,la,_,_,_,rfl,rfl,(by rw[aG R.nca.symm];exact ha),cR v0 (by left),_,_,true,_,_,_,rfl,R2,G2,A2,P2,k2⟩
     ·obtain⟨d2,gv⟩:∃ d,Far.get cs v.toNat=some d:=by
       cases e:Far.get cs v.toNat with
       | none=>rw[e] at cv2;exact absurd (uf3 (show x2=V.non from cv2)) c2
       | some d=>exact⟨d,rfl⟩
      rw[gv] at cv2
      obtain⟨te,rfl,hte⟩:=cv2
      refine⟨_,rfl,_,rfl,_,rfl,lc,_,_,_,rfl,rfl,SqL.of hc',at2,tn,te,L3.e2 (d.1+t.2.2,d.2+2^k),L3.e2 d2,rfl,rfl,SqT.of en,SqT.of (Z1 _ _ hte),_,rfl,ite2 (λ c3=>?_) (λ c3=>?_)⟩
      ·have hl:=(mU _ _).mp c3
       obtain⟨R2,G2,A2,P2,k2⟩:=done (.inr ⟨d2,gv,hl⟩) _ rfl
       exact⟨_,rfl,_,rfl,_,rfl,lc,_,_,_,rfl,rfl,hc',cR v0 (by left),_,rfl,_,rfl,_,rfl,la,_,_,_,rfl,rfl,(by rw[aG R.nca.symm];exact ha),cR v0 (by left),_,_,true,_,_,_,rfl,R2,G2,A2,P2,k2⟩
      ·have hn:¬ Far.lt2 (d.1+t.2.2,d.2+2^k) d2:=λ z=>c3 ((mU _ _).mpr z)
       exact⟨cs,as,ag,_,_,_,rfl,R',G,AH,next (Pt.old gu gv hn),tkp'⟩
   ·obtain⟨cs,as,ag,y11,y12,y13,rfl,R,G,AH,Pt,tkp⟩:=h
    refine⟨cs,as,ag,_,_,_,_,_,_,_,rfl,R,G,AH,Pt.less λ z hz=>?_⟩
    exact (kX hk hz).elim .inl λ y=>.inr (by rw[← et] at y;exact y)
  ·obtain⟨cs,as,ag,y7,y8,y9,y10,y11,y12,y13,rfl,R2,G2,A2,Pt⟩:=h
   have lk:((keepI ks).map V.int).length=ks.length:=by unfold keepI;rw[c6,c6]
   rw[lk,ubk] at Pt
   rcases Pt with ⟨ea,ec,st⟩ | ⟨ea,lt⟩
   ·subst ea
    rw[← ec] at st
    exact⟨Far.mu cs+0,by rw[ec];left,cs,as,false,_,_,_,_,_,_,_,rfl,R2,G2,A2,λ _=>st,rfl⟩
   ·subst ea
    exact⟨Far.mu cs+1,by left,cs,as,true,_,_,_,_,_,_,_,rfl,R2,G2,A2,λ z=>(by cases z),rfl⟩
theorem rH (T:Bi mg)(D:DefOk K mg "tree_from" s_tree_from ["web","keep","root"])(O_reached_from:‹2› "reached_from" ["web","keep","root"] (spReachedB K)):‹3› "tree_from" ["web","keep","root"] (spTreeB K):=by
 exists 2,sc_tree_from
 obtain⟨n,ts,ks,wv,kv,r,rfl,wk,r0,r1,q⟩:=h
 refine⟨_,(aD (bJ (aM O_reached_from hr rfl (aA (pv 0) (aA (pv 1) (aA (pv 2) aC)))) (bP (n:=2) rfl (aO (aH (i:=3) nd rfl (j7 rfl)) (aO (aH (i:=4) nd rfl (j7 rfl)) bG)))) (aE (aL (bY eQ rfl T.z_tuple (by symm) (aA (pv 4) aC))))),?_⟩
 refine⟨_,rfl,_,rfl,_,rfl,n,ts,ks,wv,kv,r,rfl,wk,r0,r1,λ p lc la cvs as cs J S ep ec ea cl G=>?_⟩
 refine⟨p,_,rfl,SqT.of ep,rfl,_,_,rfl,_,_,rfl,rfl,?_⟩
 exact⟨_,rfl,la,_,rfl,ea,λ t J2 S2 f2 e2=>q t as cs J2 (S.trans S2) e2 G⟩
theorem nJ {ws:List V}{x:V}:atI (ws++[x]) (-1)=some x:=by
 unfold atI ixN
 rw[uf8 (by decide),uf7 (by rw[d6,o6];left)]
 show (ws++[x])[(-1+((ws++[x]).length:Int)).toNat]?=some x
 rw[d6,o6,show (-1+((ws.length+1:Nat):Int)).toNat=ws.length by left]
 simp
theorem sQ (T:Bi mg)(D:DefOk K mg "the_way" s_the_way ["web","keep","a","b"])(O_tree_from:‹3› "tree_from" ["web","keep","root"] (spTreeB K)):‹4› "the_way" ["web","keep","a","b"] (spWayB K):=by
 exists 3,sc_the_way
 obtain⟨n,ts,ks,wv,kv,a,b,rfl,wk,a0,a1,b0,b1,q⟩:=h
 have n24:=wk.2.1.n24
 have KB:=bB wk.2.1 wk.2.2.2
 refine⟨_,(aD (aI (i:=4) nd rfl (j7 rfl) (aM O_tree_from hr rfl (aA (pv 0) (aA (pv 1) (aA (pv 3) aC))))) (aD (aI (i:=5) nd rfl (j7 rfl) (bK (aA (pv 2) aC))) (aD (mP PassesOwn.never (aN eO (aF aQ (pv 5) (cV cS aB) (λ _ _=>rfl)) (pv 3) (nomark _)) (aD (aW (aN dF (aF aP (pv 4) (aF aQ (pv 5) (cV cS aB) (λ _ _=>rfl)) (λ _ _=>rfl)) bC (nomark _)) (aE (aL bC)) aX) (aE (cQ (cJ z0 uau uat eZ (pv 5) (aA (aF aP (pv 4) (aF aQ (pv 5) (cV cS aB) (λ _ _=>rfl)) (λ _ _=>rfl)) aC)))))) (aE (aL (bY eQ rfl T.z_tuple (by symm) (aA (pv 5) aC))))))),?_⟩
 refine⟨_,rfl,_,rfl,_,rfl,n,ts,ks,wv,kv,b,rfl,wk,b0,b1,λ p as cs J S ep G=>?_⟩
 refine⟨_,rfl,(by show 1<=1000;decide),λ lw J1 S1 f1 e1=>?_⟩
 have lA:=G.alen
 have ep1:=S1 _ _ ep
 have fw:H lw=none:=S.free f1
 have nlp:p≠lw:=λ z=>by rw[z,f1] at ep;cases ep
 refine⟨λ m σ J2=>∃ (pre:List Nat)(c:Nat),σ=[some wv,some kv,some (.int a),some (.int b),some (.ref p),some (.ref lw)]/\Same H J2/\J2 p=some (.tup (as.map oa))/\J2 lw=some (.lst (natV (pre++[c])))/\c<n.toNat /\
  ((pre=[]/\c=a.toNat/\Far.get cs c=none/\m=0)\/∃ ca cc,Far.get cs a.toNat=some ca/\Far.get cs c=some cc/\(∀ P,Far.TPw as b.toNat P c->Far.TPw as b.toNat (P++pre.reverse) a.toNat)/\pre.length+1<=Far.beyond n.toNat cs cc.1/\m=cc.1.toNat),?_,?_⟩
 ·have e1':J1 lw=some (.lst (natV ([]++[a.toNat]))):=by rw[e1];show some (HO.lst [V.int a])=some (HO.lst [V.int ((a.toNat:Nat):Int)]);rw[v8 a0]
  cases e:Far.get cs a.toNat with
  | none=>exact⟨0,[],a.toNat,rfl,S.trans S1,ep1,e1',by left,.inl ⟨rfl,rfl,e,rfl⟩⟩
  | some ca=>exact⟨_,[],a.toNat,rfl,S.trans S1,ep1,e1',by left,.inr ⟨ca,ca,rfl,e,λ P t=>by rw[List.reverse_nil,ubz];exact t,Far.uI (by left) e,rfl⟩⟩
 rintro m σ J2 ⟨pre,c,rfl,sm,hp,hw,hc,inv⟩
 have lastV:atI (natV (pre++[c])) (-1)=some (.int (c:Int)):=by
  unfold natV;rw[o3];exact nJ
 have hat:atI (as.map oa) (c:Int)=some (oa (Far.get as c)):=bA (m9 _) (by rw[uaq];exact jV (by left))
 refine⟨_,rfl,_,rfl,lw,_,_,_,rfl,rfl,SqL.of hw,lastV,_,rfl,rfl,_,rfl,?_⟩
 by_cases cb:c=b.toNat
 ·refine iteNS (by rw[cb,v8 b0]) ?_
  refine⟨_,rfl,lw,_,rfl,hw,λ t J3 S3 f3 e3=>q _ J3 (sm.trans S3) ⟨cs,as,G,.inr ?_⟩⟩
  rcases inv with ⟨_,_,ec,_⟩ | ⟨ca,cc,e1',e2',tp,hl,_⟩
  ·rw[cb,G.start] at ec;cases ec
  ·have:=Far.lZ n.toNat cs cc.1
   refine⟨t,pre++[c],ca,rfl,e3,by rw[d6,o6];left,e1',?_⟩
   rw[uci]
   have:=tp [b.toNat] (by rw[cb];exact .root)
   rw[cb];exact this
 ·have ne:decide (V.int (c:Int)=V.int b)=false:=uf5 λ z=>cb (by injection z with z;left)
  rw[ne]
  refine iteT ⟨λ σ' J'=>∃ m',m'<m/\∃ (pre:List Nat)(c:Nat),σ'=[some wv,some kv,some (.int a),some (.int b),some (.ref p),some (.ref lw)]/\Same H J'/\J' p=some (.tup (as.map oa))/\J' lw=some (.lst (natV (pre++[c])))/\c<n.toNat /\
   ((pre=[]/\c=a.toNat/\Far.get cs c=none/\m'=0)\/∃ ca cc,Far.get cs a.toNat=some ca/\Far.get cs c=some cc/\(∀ P,Far.TPw as b.toNat P c->Far.TPw as b.toNat (P++pre.reverse) a.toNat)/\pre.length+1<=Far.beyond n.toNat cs cc.1/\m'=cc.1.toNat),λ _ _ h=>h,?_⟩
  refine⟨_,rfl,_,rfl,_,rfl,lw,_,_,_,rfl,rfl,SqL.of hw,lastV,p,_,_,_,rfl,rfl,SqT.of hp,hat,rfl,_,rfl,?_⟩
  cases ea:Far.get as c with
  | none =>
   refine iteT (q _ _ sm ⟨cs,as,G,.inl ⟨rfl,?_⟩⟩)
   rcases inv with ⟨_,ec,e2',_⟩ | ⟨ca,cc,_,e2',_⟩
   ·rw[← ec];exact e2'
   ·exact absurd ea (G.has c cc e2' cb)
  | some u =>
   obtain⟨l,k,cu,mm,e1',e2'⟩:=G.arc _ _ ea
   rw[ea] at hat
   rcases inv with ⟨_,_,ec,_⟩ | ⟨ca,cc,e3',e4',tp,hl,rfl⟩
   ·rw[ec] at e2';cases e2'
   ·have ecc:cc=(cu.1+l,cu.2+2^k):=j5 (e4'.symm.trans e2')
    have l1:=KB.pos _ _ _ _ mm
    have cu0:=G.nn _ _ e1'
    have hu:=(eH wk.2.1 wk.2.2.2 mm).1
    have c1:cc.1=cu.1+l:=by rw[ecc]
    have bl:=Far.wB hu e1' (show cu.1<cc.1 by left)
    have ble:=Far.lZ n.toNat cs cu.1
    have lenW:(natV (pre++[c])).length=pre.length+1:=by unfold natV;rw[c6,d6,o6]
    refine iteF ⟨_,rfl,.inl ⟨rfl,_,SqL.of hw⟩,_,rfl,_,rfl,_,rfl,lw,_,_,_,rfl,rfl,SqL.of hw,lastV,p,_,_,_,rfl,rfl,SqT.of hp,hat,lw,_,_,rfl,rfl,hw,by left,λ J3 b3 e3=>?_⟩
    refine⟨cu.1.toNat,by left,pre++[c],u,rfl,λ c o z=>b3 _ _ (aV z fw) (sm _ _ z),b3 _ _ nlp hp,?_,hu,.inr ⟨ca,cu,e3',e1',λ P t=>?_,by rw[d6,o6];left,rfl⟩⟩
    ·rw[e3];unfold natV;rw[o3 (l₂:=[u])];rfl
    ·have:=tp (P++[c]) (.step ea t)
     rw[uci]
     rw[ucv] at this
     exact this
theorem tZ (T:Bi mg)(D:DefOk K mg "without" s_without ["keep","tie"]):‹1› "without" ["keep","tie"] (spWithout K):=by
 exists 0,sc_without
 obtain⟨m,ks,kv,k,rfl,isk,ko,m60,q⟩:=h
 obtain⟨kp,rfl,hkp⟩:=cL isk
 rw[← bN] at hkp
 have lks:=ko.len
 have len:(natV ks).length=ks.length:=by unfold natV;rw[c6]
 refine⟨_,(aE (aL (bY eQ rfl T.z_tuple (by symm) (aA (cC (N:=["keep","tie"]) (sc0:=defScope s_without) (own:=["other"]) (fr:=["tie"]) (js:=[1]) rfl (cT (pv 0)) (λ _ _ _ _=>(aH (i:=0) (by show uai [("other":Str),("tie":Str)];decide +kernel) rfl (j7 rfl))) (λ _ _ _ _=>(dQ (aN eO (pv 0) (pv 1) (nomark _)))) (λ _ _ _ _=>(pv 0))) aC)))),?_⟩
 refine⟨_,rfl,kp,rfl,⟨_,SqT.of hkp⟩,?_⟩
 refine lQ hkp (λ σ'=>∃ o,σ'=[o,some (.int (k:Int))]) (λ i=>if decide (ks.getD i 0≠k)=true then some (V.int ((ks.getD i 0:Nat):Int)) else none) (by left) (by exact⟨none,rfl⟩) (λ i x σ' H' hx s2 sg C L hC hL=>?_) (λ L H2 hL s2 hH=>?_)
 ·obtain⟨o,rfl⟩:=sg
  obtain⟨j,hj,rfl⟩:=bQ hx
  have ej:ks.getD i 0=j:=by rw[b8,hj];rfl
  refine⟨_,rfl,_,rfl,rfl,_,rfl,?_⟩
  by_cases z:j=k
  ·refine iteNS (by rw[z]) (hL _ _ ⟨_,rfl⟩ (Same.refl _) ?_)
   rw[ej,uf8]
   exact λ y=>uf4 y z
  ·have ne:decide (V.int (j:Int)=V.int (k:Int))=false:=uf5 λ y=>z (by injection y with y;left)
   rw[ne]
   refine iteT ⟨_,rfl,hC _ _ _ ⟨_,rfl⟩ (Same.refl _) ?_⟩
   rw[ej,uf7 (uf3 z)]
 ·refine⟨L,_,rfl,hH,λ t J S f e=>q t J (s2.trans S) ?_⟩
  rw[e,len]
  exact congrArg (λ z=>some (HO.tup z)) (mK (λ j=>decide (j≠k)) ks)
theorem vC (T:Bi mg)(D:DefOk K mg "spare" s_spare ["web","keep","tie"])(O_without:‹4› "without" ["keep","tie"] (spWithout K))(O_the_way:‹4› "the_way" ["web","keep","a","b"] (spWayM K)):‹5› "spare" ["web","keep","tie"] (spSpareM K):=by
 exists 4,sc_spare
 obtain⟨n,ts,ks,wv,kv,k,rfl,wk,hkl,q⟩:=h
 have ok:=wk.2.1
 obtain⟨g0,g,ws,rfl,hg0,hg,hall,hlw⟩:=bM wk.1
 obtain⟨ta,hta,htie⟩:=bR hall hkl
 have tk:=ok.tie _ (aZ hkl).2
 refine⟨_,(aD (bJ (aF aP (aF aP (pv 0) aB (λ _ _=>rfl)) (pv 2) (λ _ _=>rfl)) (bP (n:=3) rfl (aO (aH (i:=3) nd rfl (j7 rfl)) (aO (aH (i:=4) nd rfl (j7 rfl)) (aO (aH (i:=5) nd rfl (j7 rfl)) bG))))) (aE (aL (aM O_the_way hr rfl (aA (pv 0) (aA (aM O_without hr rfl (aA (pv 1) (aA (pv 2) aC))) (aA (pv 3) (aA (pv 4) aC)))))))),?_⟩
 refine⟨_,rfl,g0,_,_,_,rfl,rfl,SqT.of hg0,rfl,_,rfl,g,_,_,_,rfl,rfl,SqT.of hg,bA (m9 _) hta,ta,_,rfl,SqT.of htie,rfl,_,_,rfl,_,_,rfl,_,_,rfl,rfl,?_⟩
 refine⟨_,rfl,_,rfl,_,rfl,_,ks,kv,k,rfl,wk.2.2.1,wk.2.2.2,ok.few,λ p J S e=>?_⟩
 refine⟨_,rfl,_,rfl,n,ts,but ks k,_,_,_,_,rfl,⟨Is.same S _ wk.1,ok,⟨p,_,rfl,e,by rw[bN];exact IsAll.ints _⟩,bI wk.2.2.2⟩,by left,by left,by left,by left,λ v J2 S2 hv=>q v J2 (S.trans S2) hv⟩
theorem qP (T:Bi mg)(D:DefOk K mg "tie_between" s_tie_between ["web","a","b"]):‹1› "tie_between" ["web","a","b"] (spTB K):=by
 exists 0,sc_tie_between
 obtain⟨n,ts,wv,u,v,rfl,isw,few60,q⟩:=h
 have units:∀ {x:Nat},x<=3->(A.deeper (envOfC "tie_between" (defScope s_tie_between) s.heap.objs.size f cdv)).units+x<cLine:=λ {x} hu=>by have:=hr.units;left
 obtain⟨g0,g,ws,rfl,hg0,hg,hall,hlw⟩:=bM isw
 refine⟨_,(aD (aI (i:=3) nd rfl (j7 rfl) (bH (aA (aU (fZ rfl) rfl T.z_min (by symm) (aA (pv 1) (aA (pv 2) aC))) (aA (aU (gB rfl) rfl T.z_max (by symm) (aA (pv 1) (aA (pv 2) aC))) aC)))) (aD (bD PassesOwn.never rfl (nX true rfl T.z_enumerate (aA (aF aP (pv 0) aB (λ _ _=>rfl)) aC)) (bP (n:=2) rfl (aO (aH (i:=4) nd rfl (j7 rfl)) (aO (aH (i:=5) nd rfl (j7 rfl)) bG))) (aE (aW (aN oX (bZ cB (pv 5) bU (bT aB)) (pv 3) (nomark _)) (aE (aL (pv 4))) aX))) (aE (aL bC)))),?_⟩
 refine⟨_,rfl,_,rfl,_,_,rfl,_,rfl,_,rfl,_,_,rfl,(by show 2<=1000;decide),λ te J1 S1 f1 e1=>?_⟩
 have eMin:(if (v:Int)<(u:Int) then (v:Int) else u)=min (u:Int) v:=by split <;> left
 have eMax:(if (v:Int)>(u:Int) then (v:Int) else u)=max (u:Int) v:=by split <;> left
 rw[eMin,eMax] at e1
 refine⟨_,rfl,g0,_,_,_,rfl,rfl,SqT.of (S1 _ _ hg0),rfl,g,rfl,⟨ws,SqX.of (S1 _ _ hg)⟩,?_⟩
 refine⟨λ i m σ J=>m=ts.length-i/\i<=ts.length/\(∃ y4 y5:Option V,σ=[some (.ref g0),some (.int (u:Int)),some (.int (v:Int)),some (.ref te),y4,y5])/\Same J1 J/\∀ k,k<i->isTB ts u v k=false,⟨_,rfl,v4 _,⟨none,none,rfl⟩,Same.refl _,λ k hk=>(by left)⟩,?_⟩
 rintro i m σ J ⟨rfl,hi,⟨y4,y5,rfl⟩,sm,pre⟩
 have sH:=S1.trans sm
 have sq:SqX true K J g ws:=SqX.of (sH _ _ hg)
 by_cases hlt:i<ts.length
 ·refine .inr ⟨⟨ws,ws[i]'(by left),sq,by simp [show i<ws.length by left]⟩,λ σ' J'=>∃ m',m'<ts.length-i/\(m'=ts.length-(i+1)/\i+1<=ts.length/\(∃ y4 y5:Option V,σ'=[some (.ref g0),some (.int (u:Int)),some (.int (v:Int)),some (.ref te),y4,y5])/\Same J1 J'/\∀ k,k<i+1->isTB ts u v k=false),λ _ _ h=>h,λ x J' hy=>?_⟩
  obtain⟨T',y,hT,rfl,rfl,ey⟩:=hy
  have hyi:=ey ws sq
  obtain⟨ta,hta,htie⟩:=bR hall hlt
  rw[hta] at hyi
  cases hyi
  have S2:=aS (o:=.tup [.int (i:Nat),.ref ta]) hT
  have htie':=S2 _ _ (sH _ _ htie)
  refine⟨T',_,rfl,SqT.of aK,rfl,_,_,rfl,_,_,rfl,rfl,?_⟩
  refine⟨_,rfl,_,rfl,ta,_,rfl,htie',λ tc J3 S3 e3=>?_⟩
  have e3':J3 tc=some (.tup (([(tieAt ts i).1,(tieAt ts i).2.1]:List Int).map V.int)):=e3
  have e1':J3 te=some (.tup (([min (u:Int) v,max (u:Int) v]:List Int).map V.int)):=S3 _ _ (S2 _ _ (sm _ _ e1))
  refine⟨_,rfl,.tuple (([(tieAt ts i).1,(tieAt ts i).2.1]:List Int).map .int),.tuple (([min (u:Int) v,max (u:Int) v]:List Int).map .int),⟨tc,_,rfl,e3',IsAll.ints _⟩,⟨te,_,rfl,e1',IsAll.ints _⟩,cH _,cH _,?_,_,rfl,?_⟩
  ·have d1:=iJ [(tieAt ts i).1,(tieAt ts i).2.1]
   have d2:uar (.tuple (([(tieAt ts i).1,(tieAt ts i).2.1]:List Int).map .int))=ubl (([(tieAt ts i).1,(tieAt ts i).2.1]:List Int).map .int)+1:=rfl
   exact units (o8 (Nat.min_le_left _ _) (by rw[d2];left))
  have eq:uav (.tuple (([(tieAt ts i).1,(tieAt ts i).2.1]:List Int).map .int)) (.tuple (([min (u:Int) v,max (u:Int) v]:List Int).map .int))=isTB ts u v i:=iR _ _ _ _
  rw[eq]
  have SS:=S2.trans S3
  refine ite2 (λ c=>?_) (λ c=>?_)
  ·have et:tbN ts u v=some i:=by
    unfold tbN
    refine List.find?_range_eq_some.mpr ⟨c,o9.mpr hlt,λ j hj=>?_⟩
    rw[pre j hj];rfl
   have q1:=q J3 (sH.trans SS)
   rw[et] at q1
   exact⟨_,rfl,q1⟩
  ·refine⟨ts.length-(i+1),by left,rfl,hlt,⟨_,_,rfl⟩,sm.trans SS,λ k hk=>?_⟩
   by_cases z:k=i
   ·rw[z];exact ub4.mpr c
   ·exact pre k (by left)
 ·have e:i=ts.length:=by left
  subst e
  refine .inl ⟨⟨ws,sq,by left⟩,?_⟩
  have et:tbN ts u v=none:=by
   unfold tbN
   refine List.find?_eq_none.mpr λ k hk=>?_
   rw[pre k (o9.mp hk)];exact i6
  have q1:=q J sH
  rw[et] at q1
  exact q1
theorem qN (T:Bi mg)(D:DefOk K mg "ties_along" s_ties_along ["web","places"])(O_tie_between:‹1› "tie_between" ["web","a","b"] (spTB K)):‹2› "ties_along" ["web","places"] (spAlongW K):=by
 exists 1,sc_ties_along
 obtain⟨n,ts,wv,t,ws,rfl,isw,few60,ht,l24,lk,q⟩:=h
 have lenW:(natV ws).length=ws.length:=by unfold natV;rw[c6]
 have ecut:cutV (natV ws) (some 1) none=natV (ws.drop 1):=by
  unfold cutV
  have h1:HT.sIx (natV ws).length (natV ws).length none=(natV ws).length:=rfl
  rw[h1]
  by_cases z:ws=[]
  ·subst z;rfl
  ·have pos:=uc9.mpr z
   have h0:HT.sIx (natV ws).length 0 (some 1)=1:=by
    unfold HT.sIx
    simp
    left
   rw[h0,ua7 (by rw[p9];exact c8 _)]
   unfold natV
   rw[uep]
 refine⟨_,(aE (aL (cC (N:=["web","places"]) (sc0:=defScope s_ties_along) (own:=["one","other"]) (fr:=["web"]) (js:=[0]) rfl (gS true true rfl T.z_zip (aA (pv 1) (aA (bZ cB (pv 1) (bT aB) bU) aC))) (λ _ _ _ _=>(fJ (n:=2) rfl (aO (aH (i:=0) (by show uai [("one":Str),("other":Str),("web":Str)];decide +kernel) rfl (j7 rfl)) (aO (aH (i:=1) (by show uai [("one":Str),("other":Str),("web":Str)];decide +kernel) rfl (j7 rfl)) bG)))) (λ _ _ _ _=>cP) (λ _ _ _ _=>(aM O_tie_between hr rfl (aA (pv 2) (aA (pv 0) (aA (pv 1) aC)))))))),?_⟩
 refine⟨_,rfl,_,rfl,_,rfl,t,_,rfl,ht,λ t2 J1 S1 e1=>?_⟩
 rw[ecut] at e1
 refine⟨t,t2,rfl,⟨_,SqX.of (t:=true) (S1 _ _ ht)⟩,⟨_,SqX.of (t:=true) e1⟩,?_⟩
 have lenD:(natV (ws.drop 1)).length=ws.length-1:=by unfold natV;rw[c6,p9]
 refine iZ (t1:=true) (t2:=true) (xs:=natV ws) (zs:=natV (ws.drop 1)) (S1 _ _ ht) e1 (λ σ'=>∃ o1 o2,σ'=[o1,o2,some wv]) (λ i x _=>x=V.int (((tbN ts (ws.getD i 0) (ws.getD (i+1) 0)).getD 0:Nat):Int)) (by left) (by exact⟨none,none,rfl⟩) (λ _ _ _ _ _ h=>h) (λ i x z U σ' H' hxi hzi s2 hU sg C hC=>?_) (λ L ys H2 hL s2 hH hly hys=>?_)
 ·obtain⟨o1,o2,rfl⟩:=sg
  obtain⟨u,hu,rfl⟩:=bQ hxi
  obtain⟨v,hv,rfl⟩:=bQ hzi
  rw[ueq,Nat.add_comm] at hv
  obtain⟨k,ek,hk⟩:=fX lk hu hv
  have eu:ws.getD i 0=u:=by rw[b8,hu];rfl
  have ev:ws.getD (i+1) 0=v:=by rw[b8,hv];rfl
  refine⟨U,_,rfl,SqT.of aK,rfl,_,_,rfl,_,_,rfl,rfl,?_⟩
  have SU:=aS (o:=.tup [V.int (u:Int),.int (v:Int)]) hU
  refine⟨_,rfl,_,rfl,_,rfl,n,ts,wv,u,v,rfl,Is.same (S1.trans (s2.trans SU)) _ isw,few60,λ H5 s5=>hC _ _ _ ⟨_,_,rfl⟩ (SU.trans s5) ?_⟩
  rw[eu,ev,ek];rfl
 ·refine q L H2 (S1.trans s2) ?_
  rw[hH]
  refine congrArg (λ z=>some (HO.lst z)) (uba λ i=>?_)
  have hl2:ys.length=ws.length-1:=by rw[hly,lenW,lenD];left
  unfold alongN natV
  rw[ubd,j3]
  by_cases hi:i<ws.length-1
  ·have e:ys[i]?=some ys[i]:=b6 (by left)
   rw[e,hys i _ e,uaw hi];rfl
  ·rw[o7 (by left),o7 (by rw[p8];left)];rfl
def spCostA (K:a9):Sp:=λ vs H Q _=>∃ (n:Int)(ts:List Tie)(wv:V)(t:j8)(ws:List Nat),vs=[wv,.ref t]/\Is K H (webD n ts) wv/\ts.length<=60/\H t=some (.tup (natV ws))/\ws.length<=25/\linked ts ws/\∀ p H',Same H H'->H' p=some (.tup [.int ((alongN ts ws).map (tL ts)).sum,.int ((Far.sumP (alongN ts ws):Nat):Int)])->Q (.ref p) H'
theorem rJ (T:Bi mg)(D:DefOk K mg "cost_along" s_cost_along ["web","places"])(O_tie_weights:‹4› "tie_weights" ["web"] (spWeights K))(O_ties_along:‹4› "ties_along" ["web","places"] (spAlongW K))(O_cost_with:‹4› "cost_with" ["cost","length","weight"] (spCost K)):‹5› "cost_along" ["web","places"] (spCostA K):=by
 exists 4,sc_cost_along
 obtain⟨n,ts,wv,t,ws,rfl,isw,few60,ht,l25,lk,q⟩:=h
 obtain⟨g0,g,tws,rfl,hg0,hg,hall,hlw⟩:=bM isw
 refine⟨_,(aD (aI (i:=2) nd rfl (j7 rfl) (aM O_tie_weights hr rfl (aA (pv 0) aC))) (aD (aI (i:=3) nd rfl (j7 rfl) (jP (aA aB (aA aB aC)))) (aD (bD PassesOwn.never rfl (bV (aM O_ties_along hr rfl (aA (pv 0) (aA (pv 1) aC)))) (aH (i:=4) nd rfl (j7 rfl)) (aE (aI (i:=3) nd rfl (j7 rfl) (aM O_cost_with hr rfl (aA (pv 3) (aA (aF aP (aF aP (aF aP (pv 0) aB (λ _ _=>rfl)) (pv 4) (λ _ _=>rfl)) aB (λ _ _=>rfl)) (aA (aF aQ (pv 2) (pv 4) (λ _ _=>rfl)) aC))))))) (aE (aL (pv 3)))))),?_⟩
 refine⟨_,rfl,n,ts,_,rfl,isw,few60,λ l J1 S1 f1 e1=>?_⟩
 refine⟨(by show 2<=m3;rw[ubj];decide),λ c fc=>?_⟩
 have e2:(upd J1 c (.tup [.int 0,.int 0])) c=some (.tup [.int 0,.int 0]):=aK
 have S2:Same J1 (upd J1 c (.tup [.int 0,.int 0])):=aS fc
 generalize upd J1 c (.tup [.int 0,.int 0])=J2 at e2 S2
 have S12:=S1.trans S2
 refine⟨_,rfl,_,rfl,n,ts,_,t,ws,rfl,Is.same S12 _ isw,few60,S12 _ _ ht,l25,lk,λ l2 J3 S3 e3=>?_⟩
 refine⟨l2,rfl,⟨_,SqL.of e3⟩,?_⟩
 have S13:=S12.trans S3
 refine dP (xs:=natV (alongN ts ws)) (λ i σ J=>∃ (c':j8)(y:Option V),σ=[some (.ref g0),some (.ref t),some (.ref l),some (.ref c'),y]/\Same J3 J/\J c'=some (.tup [.int (((alongN ts ws).take i).map (tL ts)).sum,.int ((Far.sumP ((alongN ts ws).take i):Nat):Int)])) ⟨c,none,rfl,Same.refl _,S3 _ _ e2⟩ (λ i σ J _ h=>?_) (λ i x σ J hx h=>?_) (λ σ J h=>?_)
 ·obtain⟨c',y,rfl,sm,_⟩:=h
  exact SqL.of (sm _ _ e3)
 ·obtain⟨c',y,rfl,sm,hc⟩:=h
  obtain⟨k,hk,rfl⟩:=bQ hx
  have hkl:=xS lk k (i9 hk)
  obtain⟨ta,hta,htie⟩:=bR hall hkl
  have s4:=S13.trans sm
  have tk:(alongN ts ws).take (i+1)=(alongN ts ws).take i++[k]:=by rw[ub2,hk];rfl
  have s34:=(S2.trans S3).trans sm
  refine⟨_,rfl,_,rfl,g0,_,_,_,rfl,rfl,SqT.of (s4 _ _ hg0),rfl,_,rfl,g,_,_,_,rfl,rfl,SqT.of (s4 _ _ hg),bA (m9 _) hta,ta,_,_,_,rfl,rfl,SqT.of (s4 _ _ htie),rfl,_,rfl,_,rfl,l,_,_,_,rfl,rfl,SqL.of (s34 _ _ e1),bA (m9 _) (by rw[uaq];exact nW hkl),?_⟩
  refine⟨c',_,_,_,_,rfl,hc,λ t' J4 S4 e4=>⟨t',_,rfl,sm.trans S4,?_⟩⟩
  rw[e4,tk,o3,ud2,Far.kE]
  have e5:((Far.sumP [k]:Nat):Int)=2^k:=by
   show ((2^k+0:Nat):Int)=2^k
   norm_cast
  have e6:([k].map (tL ts)).sum=tL ts k:=by simp
  rw[e6]
  show some (HO.tup [.int (_+tL ts k),.int (_+2^k)])=_
  rw[← e5,← Int.natCast_add]
 ·obtain⟨c',y,rfl,sm,hc⟩:=h
  have:(natV (alongN ts ws)).length=(alongN ts ws).length:=by unfold natV;rw[c6]
  rw[this,ubk] at hc
  exact⟨_,rfl,q c' J (S13.trans sm) hc⟩
def RoundV (H:Hp)(ts:List Tie)(ks:List Nat)(k:Nat)(v:V):Prop:=(v=.non/\∀ L,¬ Wk ts ks k L)\/∃ t ws S x y,v=.ref t/\H t=some (.tup (natV (ringL ws)))/\RtK ts ks k ws S x y/\3<=ws.length/\ws.length<=24/\∀ L,Wk ts ks k L->Far.comb (x,y)<=L
def spRound (K:a9):Sp:=λ vs H Q _=>∃ (n:Int)(ts:List Tie)(ks:List Nat)(wv kv:V)(k:Nat),vs=[wv,kv,.int (k:Int)]/\WK K H n ts ks wv kv/\k∈ks/\∀ v H',Same H H'->RoundV H' ts ks k v->Q v H'
theorem sR (T:Bi mg)(D:DefOk K mg "round_by" s_round_by ["web","keep","tie"])(O_spare:‹5› "spare" ["web","keep","tie"] (spSpareM K)):‹6› "round_by" ["web","keep","tie"] (spRound K):=by
 exists 5,sc_round_by
 obtain⟨n,ts,ks,wv,kv,k,rfl,wk,hk,q⟩:=h
 have ok:=wk.2.1
 have ko:=wk.2.2.2
 refine⟨_,(aD (aI (i:=3) nd rfl (j7 rfl) (aM O_spare hr rfl (aA (pv 0) (aA (pv 1) (aA (pv 2) aC))))) (aD (aW (aN dF (pv 3) bC (nomark _)) (aE (aL bC)) aX) (aE (aL (aJ dR (bZ cB (pv 3) bU (bT aB)) (uZ rfl rfl T.z_tuple rfl T.z_reversed (aA (bZ cB (pv 3) (bT aB) bU) aC))))))),?_⟩
 refine⟨_,rfl,_,rfl,_,rfl,n,ts,ks,wv,kv,k,rfl,wk,ko.2 k hk,λ v J1 S1 hv=>?_⟩
 rcases hv with ⟨rfl,d⟩ | ⟨t,ws,x,rfl,ht,l24,mw,_,_⟩
 ·exact⟨_,rfl,rfl,_,rfl,iteT (q _ J1 S1 (.inl ⟨rfl,λ L w=>pN ok ko hk d w⟩))⟩
 ·have l3:=eU ok ko hk mw
  obtain⟨S,x',y',r,le⟩:=mw
  have lenN:∀ W:List Nat,(natV W).length=W.length:=λ W=>by unfold natV;rw[c6]
  refine⟨_,rfl,rfl,_,rfl,iteF ?_⟩
  refine⟨_,rfl,_,rfl,t,_,rfl,ht,λ p1 J2 S2 e2=>?_⟩
  refine⟨_,rfl,_,rfl,t,_,rfl,S2 _ _ ht,λ p2 J3 S3 e3=>?_⟩
  have c1:cutV (natV ws) none (some 1)=natV (ws.take 1):=by
   unfold cutV
   rw[HT.cY,show HT.sIx (natV ws).length (natV ws).length (some 1)=min 1 (natV ws).length from HT.dA _ _ 1]
   unfold natV
   rw[c6,ubo (by left),ud9,ubu,uen]
  have c2:cutV (natV ws) (some 1) none=natV (ws.drop 1):=by
   unfold cutV
   rw[show HT.sIx (natV ws).length 0 (some 1)=min 1 (natV ws).length from HT.dA _ _ 1,HT.cY,ua7 (by rw[p9,lenN];left)]
   unfold natV
   rw[c6,ubo (by left),uep]
  rw[c1] at e2
  rw[c2] at e3
  refine⟨p2,_,rfl,e3,by rw[lenN,p9];left,λ p3 J4 S4 f4 e4=>?_⟩
  refine⟨p1,p3,_,_,rfl,rfl,S4 _ _ (S3 _ _ e2),e4,?_,λ p5 J5 S5 e5=>?_⟩
  ·exact o8 (show _<=1000 by rw[lenN,u7,lenN,uag,p9];left) (by decide)
  refine q _ J5 (S1.trans (S2.trans (S3.trans (S4.trans S5)))) (.inr ⟨p5,ws,S,x',y',rfl,?_,r,l3,l24,le⟩)
  rw[e5]
  unfold ringL natV
  rw[o3,uds]
def ShortV (H:Hp)(ts:List Tie)(ks:List Nat)(v:V):Prop:=(v=.non/\∀ k∈ks,∀ L,¬ Wk ts ks k L)\/∃ t W,v=.ref t/\H t=some (.tup (natV W))/\W.length<=24/\IsSho ts ks W
def spShort (K:a9):Sp:=λ vs H Q _=>∃ (n:Int)(ts:List Tie)(ks:List Nat)(wv kv:V),vs=[wv,kv]/\WK K H n ts ks wv kv/\∀ v H',Same H H'->ShortV H' ts ks v->Q v H'
def ShI (H:Hp)(ts:List Tie)(ks pre:List Nat)(bv lv:V):Prop:=(bv=.non/\lv=.non/\∀ j∈pre,∀ L,¬ Wk ts ks j L)\/∃ t c k ws S x y,bv=.ref t/\lv=.ref c/\H t=some (.tup (natV (ringL ws)))/\H c=some (.tup (([x+tL ts k,y+2^k]:List Int).map V.int))/\ws.length<=24/\k∈pre/\RtK ts ks k ws S x y/\(∀ j∈pre,∀ L,Wk ts ks j L->rC ts k x y<=L+(tL ts j*2^61+2^j))/\∀ j∈pre,j<k->∀ L,Wk ts ks j L->rC ts k x y<L+(tL ts j*2^61+2^j)
theorem ShI.same {H H':Hp}{ts:List Tie}{ks pre:List Nat}{bv lv:V}(S:Same H H')(h:ShI H ts ks pre bv lv):ShI H' ts ks pre bv lv:=by
 rcases h with h | ⟨t,c,k,ws,Sx,x,y,a,b,h1,h2,h3⟩
 ·exact .inl h
 ·exact .inr ⟨t,c,k,ws,Sx,x,y,a,b,S _ _ h1,S _ _ h2,h3⟩
theorem pX (T:Bi mg)(D:DefOk K mg "shortest_ring" s_shortest_ring ["web","keep"])(O_round_by:‹6› "round_by" ["web","keep","tie"] (spRound K))(O_cost_along:‹6› "cost_along" ["web","places"] (spCostA K)):‹7› "shortest_ring" ["web","keep"] (spShort K):=by
 exists 6,sc_shortest_ring
 obtain⟨n,ts,ks,wv,kv,rfl,wk,q⟩:=h
 have ok:=wk.2.1
 have ko:=wk.2.2.2
 obtain⟨kp,rfl,hkp⟩:=cL wk.2.2.1
 rw[← bN] at hkp
 have lenK:(natV ks).length=ks.length:=by unfold natV;rw[c6]
 have lenN:∀ W:List Nat,(natV W).length=W.length:=λ W=>by unfold natV;rw[c6]
 refine⟨_,(aD (aI (i:=2) nd rfl (j7 rfl) bC) (aD (aI (i:=3) nd rfl (j7 rfl) bC) (aD (bD PassesOwn.never rfl (cT (pv 1)) (aH (i:=4) nd rfl (j7 rfl)) (aD (aI (i:=5) nd rfl (j7 rfl) (aM O_round_by hr rfl (aA (pv 0) (aA (pv 1) (aA (pv 4) aC))))) (aD (aW (aN dF (pv 5) bC (nomark _)) (aE kG) aX) (aD (aI (i:=6) nd rfl (j7 rfl) (aM O_cost_along hr rfl (aA (pv 0) (aA (aJ dR (pv 5) (bZ cB (pv 5) bU (bT aB))) aC)))) (aE (aW (PW.pt (eN (aN dF (pv 3) bC (nomark _)) (eK (aN (oW hr.units0) (pv 6) (pv 3) (nomark _))))) (aD (aI (i:=2) nd rfl (j7 rfl) (pv 5)) (aE (aI (i:=3) nd rfl (j7 rfl) (pv 6)))) aX)))))) (aE (aL (pv 2)))))),?_⟩
 refine⟨_,rfl,kp,rfl,⟨_,SqT.of hkp⟩,?_⟩
 refine eJ (xs:=natV ks) (λ i σ J=>∃ (bv lv:V)(y4 y5 y6:Option V),σ=[some wv,some (.ref kp),some bv,some lv,y4,y5,y6]/\Same H J/\ShI J ts ks (ks.take i) bv lv) ⟨.non,.non,none,none,none,rfl,Same.refl _,.inl ⟨rfl,rfl,λ j hj=>by cases hj⟩⟩ (λ i σ J _ h=>?_) (λ i v σ J hx h=>?_) (λ σ J h=>?_)
 ·obtain⟨bv,lv,y4,y5,y6,rfl,sm,_⟩:=h
  exact SqT.of (sm _ _ hkp)
 ·obtain⟨bv,lv,y4,y5,y6,rfl,sm,I⟩:=h
  obtain⟨j,hj,rfl⟩:=bQ hx
  have hjm:=i9 hj
  have tk:ks.take (i+1)=ks.take i++[j]:=by rw[ub2,hj];rfl
  have mem1:∀ m,m∈ks.take (i+1)↔m∈ks.take i\/m=j:=λ m=>by rw[tk,l8,d8]
  have below:∀ m∈ks.take i,m<j:=λ m hm=>by
   obtain⟨a,ha,ea⟩:=ua9 hm
   have hi:=(i3.mp hj).1
   have ha':a<i:=by rw[uag] at ha;left
   have:=uas.mp ko.1 a i (by left) hi ha'
   rw[List.getElem_take] at ea
   rw[ea,(i3.mp hj).2] at this
   exact this
  refine⟨_,rfl,_,rfl,_,rfl,n,ts,ks,wv,_,j,rfl,wk.same sm,hjm,λ rv J1 S1 hr1=>?_⟩
  have I1:=I.same S1
  rcases hr1 with ⟨rfl,no⟩ | ⟨t,ws,S,x,y,rfl,ht,r,l3,l24,le⟩
  ·refine⟨_,rfl,rfl,_,rfl,iteT ⟨_,_,_,_,_,rfl,sm.trans S1,?_⟩⟩
   rcases I1 with ⟨a,b,h⟩ | ⟨t,c,k,ws,Sx,x,y,a,b,h1,h2,l24,hk,r,m1,m2⟩
   ·exact .inl ⟨a,b,λ m hm=>by
     rcases (mem1 m).mp hm with z | z
     ·exact h m z
     ·rw[z];exact no⟩
   ·refine .inr ⟨t,c,k,ws,Sx,x,y,a,b,h1,h2,l24,(mem1 k).mpr (.inl hk),r,λ m hm L w=>?_,λ m hm mk L w=>?_⟩
    ·rcases (mem1 m).mp hm with z | z
     ·exact m1 m z L w
     ·rw[z] at w;exact absurd w (no L)
    ·rcases (mem1 m).mp hm with z | z
     ·exact m2 m z mk L w
     ·rw[z] at w;exact absurd w (no L)
  ·refine⟨_,rfl,rfl,_,rfl,iteF ?_⟩
   obtain⟨ering,lk,esum,ep⟩:=nR ok ko hjm r
   have lr:=oS ok ko r
   refine⟨_,rfl,_,rfl,_,rfl,_,rfl,t,_,rfl,ht,λ p1 J2 S2 e2=>?_⟩
   have c1:cutV (natV (ringL ws)) none (some 1)=natV ((ringL ws).take 1):=by
    unfold cutV
    rw[HT.cY,show HT.sIx (natV (ringL ws)).length (natV (ringL ws)).length (some 1)=min 1 (natV (ringL ws)).length from HT.dA _ _ 1]
    unfold natV
    rw[c6,ubo (by left),ud9,ubu,uen]
   rw[c1] at e2
   refine⟨t,p1,_,_,rfl,rfl,S2 _ _ ht,e2,?_,λ p2 J3 S3 e3=>?_⟩
   ·exact o8 (show _<=1000 by rw[lenN,lenN,uag];left) (by decide)
   have e3':J3 p2=some (.tup (natV (eA ts j::ws.reverse))):=by
    rw[e3,← ering];unfold natV;rw[o3]
   have S13:=S1.trans (S2.trans S3)
   refine⟨n,ts,_,p2,_,rfl,Is.same (sm.trans S13) _ wk.1,ok.few,e3',by rw[k9,u7];left,lk,λ c J4 S4 e4=>?_⟩
   rw[esum,ep] at e4
   have S14:=S13.trans S4
   have ht4:=S4 _ _ (S3 _ _ (S2 _ _ ht))
   have Lj:∀ L,Wk ts ks j L->rC ts j x y<=L+(tL ts j*2^61+2^j):=λ L w=>by
    rw[fQ];have:=le L w;left
   have fresh:(∀ m∈ks.take i,∀ L,Wk ts ks m L->rC ts j x y<L+(tL ts m*2^61+2^m))->ShI J4 ts ks (ks.take (i+1)) (.ref t) (.ref c):=λ h=>by
    refine .inr ⟨t,c,j,ws,S,x,y,rfl,rfl,ht4,e4,l24,(mem1 j).mpr (.inr rfl),r,λ m hm L w=>?_,λ m hm mk L w=>?_⟩
    ·rcases (mem1 m).mp hm with z | z
     ·exact ue8 (h m z L w)
     ·subst z;exact Lj L w
    ·rcases (mem1 m).mp hm with z | z
     ·exact h m z L w
     ·left
   rcases I1.same (S2.trans (S3.trans S4)) with ⟨rfl,rfl,h⟩ | ⟨t',c',k,ws',Sx,x',y',rfl,rfl,h1,h2,l24',hk,r',m1,m2⟩
   ·refine⟨_,rfl,rfl,_,rfl,iteT ?_⟩
    exact⟨_,rfl,_,rfl,_,_,_,_,_,rfl,sm.trans S14,fresh λ m hm L w=>absurd w (h m hm L)⟩
   ·refine⟨_,rfl,rfl,_,rfl,iteF ?_⟩
    have b1:=(cN ok ko hjm r).1
    have hks:k∈ks:=List.mem_of_mem_take hk
    have b2:=(cN ok ko hks r').1
    have cmp:=wZ (a:=x+tL ts j) (c:=x'+tL ts k) b1 b2
    refine⟨_,rfl,_,rfl,c,c',[x+tL ts j,y+2^j],[x'+tL ts k,y'+2^k],rfl,rfl,SqT.of e4,SqT.of h2,_,rfl,ite2 (λ cc=>?_) (λ cc=>?_)⟩
    ·have lt:=cmp.mp cc
     exact⟨_,rfl,_,rfl,_,_,_,_,_,rfl,sm.trans S14,fresh λ m hm L w=>Int.lt_of_lt_of_le lt (m1 m hm L w)⟩
    ·have nlt:¬ rC ts j x y<rC ts k x' y':=λ z=>cc (cmp.mpr z)
     refine⟨_,_,_,_,_,rfl,sm.trans S14,.inr ⟨t',c',k,ws',Sx,x',y',rfl,rfl,h1,h2,l24',(mem1 k).mpr (.inl hk),r',λ m hm L w=>?_,λ m hm mk L w=>?_⟩⟩
     ·rcases (mem1 m).mp hm with z | z
      ·exact m1 m z L w
      ·subst z;have:=Lj L w;left
     ·rcases (mem1 m).mp hm with z | z
      ·exact m2 m z mk L w
      ·have:=below k hk;left
 ·obtain⟨bv,lv,y4,y5,y6,rfl,sm,I⟩:=h
  rw[lenK,ubk] at I
  rcases I with ⟨rfl,rfl,h⟩ | ⟨t,c,k,ws,S,x,y,rfl,rfl,h1,h2,l24,hk,r,m1,m2⟩
  ·exact⟨_,rfl,q _ J sm (.inl ⟨rfl,h⟩)⟩
  ·have fm:FM ts ks k ws S x y:=⟨hk,r,m1,m2⟩
   exact⟨_,rfl,q _ J sm (.inr ⟨t,_,rfl,h1,by rw[oS ok ko r];exact l24,fm.sho ok ko⟩)⟩
theorem qC (T:Bi mg)(D:DefOk K mg "_law_weights" s__law_weights ["web"]):‹1› "_law_weights" ["web"] (spLWeights K):=by
 exists 0,sc__law_weights
 obtain⟨n,ts,v,rfl,hw,ok,q⟩:=h
 have few60:=ok.few
 obtain⟨g0,g,ws,rfl,hg0,hg,hall,hlw⟩:=bM hw
 refine⟨_,(aD (aI (i:=1) nd rfl (j7 rfl) (bK aC)) (aD (aI (i:=2) nd rfl (j7 rfl) aB) (aD (bD PassesOwn.never rfl (cT (aF aP (pv 0) aB (λ _ _=>rfl))) (bP (n:=3) rfl (aO (aH (i:=3) nd rfl (j7 rfl)) (aO (aH (i:=4) nd rfl (j7 rfl)) (aO (aH (i:=5) nd rfl (j7 rfl)) bG)))) (aD (cQ (cJ z0 uau uat eZ (pv 1) (aA (aJ bL (aJ fP (pv 5) (aJ bW aB aB)) (pv 2)) aC))) (aE (aI (i:=2) nd rfl (j7 rfl) (aJ bL (pv 2) (pv 2)))))) (aE (aL (pv 1)))))),?_⟩
 refine⟨(by show 0<=1000;decide),λ l J0 S0 f0 e0=>?_⟩
 refine⟨_,rfl,g0,_,_,_,rfl,rfl,SqT.of (S0 _ _ hg0),rfl,g,rfl,⟨_,SqT.of (S0 _ _ hg)⟩,?_⟩
 refine eJ (xs:=ws) (λ i σ J=>∃ y3 y4 y5:Option V,σ=[some (.ref g0),some (.ref l),some (.int (2^i)),y3,y4,y5]/\Same H J/\J l=some (.lst (wts ts i))) ⟨none,none,none,rfl,S0,e0⟩ (λ i σ J _ h=>by obtain⟨_,_,_,_,s,_⟩:=h;exact SqT.of (s _ _ hg)) (λ i x σ J hx h=>?_) (λ σ J h=>?_)
 ·obtain⟨y3,y4,y5,rfl,s1,e1⟩:=h
  have hi:i<ts.length:=by have:=(i3.mp hx).1;left
  obtain⟨ta,hta,htie⟩:=bR hall hi
  have tk:=ok.tie _ (aZ hi).2
  rw[hta] at hx
  cases hx
  refine⟨ta,_,rfl,SqT.of (s1 _ _ htie),rfl,_,_,rfl,_,_,rfl,_,_,rfl,rfl,?_⟩
  refine⟨_,rfl,.inl ⟨rfl,_,SqL.of e1⟩,_,rfl,_,_,rfl,rfl,⟨by decide,by decide,by decide⟩,_,_,rfl,rfl,.inl ⟨by left,by left⟩,_,rfl,_,_,rfl,rfl,l,_,_,rfl,rfl,e1,(by unfold wts;rw[c6,p8];left),λ J1 b1 e2=>?_⟩
  refine⟨_,rfl,_,rfl,_,_,rfl,rfl,?_⟩
  refine⟨some (V.int (tieAt ts i).1),some (V.int (tieAt ts i).2.1),some (V.int (tieAt ts i).2.2),?_,λ b o e=>b1 _ _ (aV e f0) (s1 _ _ e),by rw[e2,wI];rfl⟩
  have ep:(2:Int)^i+2^i=2^(i+1):=by rw[Int.pow_succ];left
  show [some (V.ref g0),some (V.ref l),some (V.int (2^i+2^i)),some (V.int (tieAt ts i).1),some (V.int (tieAt ts i).2.1),some (V.int (tieAt ts i).2.2)]=_
  rw[ep]
 ·obtain⟨y3,y4,y5,rfl,s1,e1⟩:=h
  exact⟨_,rfl,q l J s1 f0 (by rw[e1,hlw])⟩
theorem pZ (T:Bi mg)(D:DefOk K mg "_law_weighed" s__law_weighed ["web","keep","start"])(O__law_weights:‹1› "_law_weights" ["web"] (spLWeights K)):‹2› "_law_weighed" ["web","keep","start"] (spWeighedL K):=by
 exists 1,sc__law_weighed
 obtain⟨n,ts,ks,wv,kp,r,rfl,⟨isw,ok,hkp,ko⟩,r0,r1,q⟩:=h
 have units:∀ {u:Nat},u<=4->(A.deeper (envOfC "_law_weighed" (defScope s__law_weighed) s.heap.objs.size f cdv)).units+u<cLine:=λ {u} hu=>by have:=hr.units;left
 have few60:=ok.few
 have n1:=ok.n1
 have n24:=ok.n24
 obtain⟨g0,g,ws,rfl,hg0,hg,hall,hlw⟩:=bM isw
 have KB:=bB ok ko
 have P:Far.Pos (arcsW ts ks):=by rw[jB];exact Far.wD KB
 have inn:∀ u v l,(u,v,l)∈arcsW ts ks->u<n.toNat/\v<n.toNat:=λ u v l h=>by
  rw[jB] at h
  obtain⟨l',k',m',_⟩:=Far.arcsC_mem.mp h
  exact eH ok ko m'
 obtain⟨δ,dd⟩:∃ δ:Nat->Option Int,∀ v,Far.Dst (arcsW ts ks) r.toNat v (δ v):=⟨λ v=>Classical.choose (Far.kT P r.toNat v),λ v=>Classical.choose_spec (Far.kT P r.toNat v)⟩
 refine⟨_,(aD (aI (i:=3) nd rfl (j7 rfl) (aM O__law_weights hr rfl (aA (pv 0) aC))) (aD (aI (i:=4) nd rfl (j7 rfl) (aJ gL (bK (aA bC aC)) (aF aP (pv 0) aB (λ _ _=>rfl)))) (aD (bJ aB (dD (pv 4) (pv 2) cX)) (aD (bD PassesOwn.never rfl (cM rfl T.z_range (aA (aF aP (pv 0) aB (λ _ _=>rfl)) aC)) (aH (i:=5) nd rfl (j7 rfl)) (aD (aI (i:=6) nd rfl (j7 rfl) (bY uH rfl T.z_list (by symm) (aA (pv 4) aC))) (aD (bD PassesOwn.never rfl (bV (pv 1)) (aH (i:=7) nd rfl (j7 rfl)) (aD (bJ (aF aP (aF aP (pv 0) aB (λ _ _=>rfl)) (pv 7) (λ _ _=>rfl)) (bP (n:=3) rfl (aO (aH (i:=8) nd rfl (j7 rfl)) (aO (aH (i:=9) nd rfl (j7 rfl)) (aO (aH (i:=10) nd rfl (j7 rfl)) bG))))) (aE (bD PassesOwn.never rfl (bV (bK (aA (bH (aA (pv 8) (aA (pv 9) aC))) (aA (bH (aA (pv 9) (aA (pv 8) aC))) aC)))) (bP (n:=2) rfl (aO (aH (i:=11) nd rfl (j7 rfl)) (aO (aH (i:=12) nd rfl (j7 rfl)) bG))) (aE (aW (aN jH (aF aQ (pv 4) (pv 11) (λ _ _=>rfl)) bC (nomark _)) (aD (aI (i:=13) nd rfl (j7 rfl) (aJ bL (aF aQ (pv 4) (pv 11) (λ _ _=>rfl)) (aF aQ (pv 3) (pv 7) (λ _ _=>rfl)))) (aE (aW (PW.pt (eN (aN dF (aF aQ (pv 4) (pv 12) (λ _ _=>rfl)) bC (nomark _)) (eK (aN cG (aF aQ (pv 4) (pv 12) (λ _ _=>rfl)) (pv 13) (nomark _))))) (aE (bJ (pv 13) (dD (pv 4) (pv 12) cX))) aX))) aX)))))) (aE (aW (aN oX (pv 6) (pv 4) (nomark _)) (aE (aL (pv 4))) aX))))) (aE (aL (pv 4))))))),?_⟩
 refine⟨_,rfl,n,ts,_,rfl,isw,ok,λ lw Jw Sw fw ew=>?_⟩
 refine⟨(by show 1<=1000;decide),λ t0 J1 S1 f1 e1=>⟨_,rfl,g0,_,_,_,rfl,rfl,SqT.of (S1 _ _ (Sw _ _ hg0)),rfl,t0,n,_,rfl,rfl,e1,by left,by left,λ lf J2 S2 f2 e2=>?_⟩⟩
 have S12:=Sw.trans (S1.trans S2)
 have ff:H lf=none:=(Sw.trans S1).free f2
 have nwf:lw≠lf:=λ z=>by rw[← z,S1 _ _ ew] at f2;cases f2
 have ew2:=S2 _ _ (S1 _ _ ew)
 refine⟨_,rfl,_,rfl,lf,_,r,r.toNat,rfl,rfl,e2,cR r0 (by rw[m5];left),?_⟩
 have keepF:∀ {J:Hp}{o:HO},Same H J->Same H (upd J lf o):=λ {J o} s b o e=>by rw[aG (aV e ff)];exact s _ _ e
 have fst:(j6 n.toNat V.non).set r.toNat (.int 0)=(((j6 n.toNat (none:Option Int)).set r.toNat (some 0)).map ov):=by
  rw[uex,ueo];rfl
 rw[fst]
 have S0:Far.Snd (arcsW ts ks) n.toNat r.toNat ((j6 n.toNat none).set r.toNat (some 0)):=Far.Snd.first (by left)
 refine⟨_,rfl,g0,_,_,_,rfl,rfl,SqT.of (keepF S12 _ _ hg0),rfl,n,rfl,by left,by left,?_⟩
 refine dL (n:=n.toNat) (λ i σ J=>∃ (DD:List (Option Int))(y4 ye y5 y6 y7 y8 y9 y10 y11:Option V),σ=[some (.ref g0),some (.ref kp),some (.int r),some (.ref lw),some (.ref lf),y4,ye,y5,y6,y7,y8,y9,y10,y11]/\J lw=some (.lst (wts ts ts.length))/\Same H J/\J lf=some (.lst (DD.map ov))/\Far.Snd (arcsW ts ks) n.toNat r.toNat DD/\Far.Done n.toNat δ DD i)
  ⟨_,none,none,none,none,none,none,none,none,none,rfl,(by rw[aG nwf];exact ew2),keepF S12,aK,S0,Far.tT P (by left) dd S0⟩ (λ i σ J hi h=>?_) (λ σ J h=>?_)
 ·obtain⟨D0,y4,ye,y5,y6,y7,y8,y9,y10,y11,rfl,hw,sm,hf,sd,dn⟩:=h
  refine⟨_,rfl,lf,_,rfl,.inl hf,λ le Je Se fe ee=>?_⟩
  have nel:le≠lf:=λ z=>by rw[z,hf] at fe;cases fe
  refine⟨_,rfl,kp,rfl,⟨_,SqL.of (Se _ _ (sm _ _ hkp))⟩,?_⟩
  refine dP (xs:=(keepI ks).map V.int) (λ i' σ J=>∃ (DD:List (Option Int))(y4 y5 y6 y7 y8 y9 y10 y11:Option V),σ=[some (.ref g0),some (.ref kp),some (.int r),some (.ref lw),some (.ref lf),y4,some (.ref le),y5,y6,y7,y8,y9,y10,y11]/\J le=some (.lst (D0.map ov))/\J lw=some (.lst (wts ts ts.length))/\Same H J/\J lf=some (.lst (DD.map ov))/\Far.Rnd (arcsW ts ks) n.toNat r.toNat δ D0 (λ z=>z∈arcsW ts (ks.take i')) DD)
   ⟨D0,_,_,_,_,_,_,_,_,rfl,ee,Se _ _ hw,sm.trans Se,Se _ _ hf,(Far.Rnd.start sd).less λ a z=>(by cases z)⟩ (λ i' σ J _ h=>?_) (λ i' x σ J hx h=>?_) (λ σ J h=>?_)
  ·obtain⟨DD,y4,y5,y6,y7,y8,y9,y10,y11,rfl,_,_,sm,_⟩:=h
   exact SqL.of (sm _ _ hkp)
  ·obtain⟨DD,y4,y5,y6,y7,y8,y9,y10,y11,rfl,hle,hw,sm,hf,rn⟩:=h
   obtain⟨k,hk,rfl⟩:=gN hx
   have hkl:k<ts.length:=ko.2 k (i9 hk)
   obtain⟨ta,hta,htie⟩:=bR hall hkl
   obtain⟨t,et⟩:∃ t,t=tieAt ts k:=⟨_,rfl⟩
   rw[← et] at htie
   have tk:=ok.tie _ (aZ hkl).2
   rw[← et] at tk
   refine⟨_,rfl,g0,_,_,_,rfl,rfl,SqT.of (sm _ _ hg0),rfl,_,rfl,g,_,_,_,rfl,rfl,SqT.of (sm _ _ hg),bA (m9 _) hta,ta,_,rfl,SqT.of (sm _ _ htie),rfl,_,_,rfl,_,_,rfl,_,_,rfl,rfl,?_⟩
   refine⟨_,rfl,_,rfl,(by show 2<=1000;decide),λ t1 K1 T1 u1 v1=>⟨_,rfl,_,rfl,(by show 2<=1000;decide),λ t2 K2 T2 u2 v2=>⟨(by show 2<=1000;decide),λ t3 K3 T3 u3 v3=>⟨t3,rfl,⟨_,SqL.of v3⟩,?_⟩⟩⟩⟩
   have T13:=T1.trans (T2.trans T3)
   have v1':=T3 _ _ (T2 _ _ v1)
   have v2':=T3 _ _ v2
   have n3:t3≠lf:=λ z=>by rw[z,T2 _ _ (T1 _ _ hf)] at u3;cases u3
   refine dP (xs:=[V.ref t1,.ref t2]) (λ j σ J=>∃ (DD:List (Option Int))(y9 y10 y11:Option V),σ=[some (.ref g0),some (.ref kp),some (.int r),some (.ref lw),some (.ref lf),y4,some (.ref le),some (.int (k:Int)),some (.int t.1),some (.int t.2.1),some (.int t.2.2),y9,y10,y11]/\J le=some (.lst (D0.map ov))/\J lw=some (.lst (wts ts ts.length))/\Same H J/\J lf=some (.lst (DD.map ov))/\Far.Rnd (arcsW ts ks) n.toNat r.toNat δ D0 (λ z=>z∈arcsW ts (ks.take i')\/z∈(arcs2W ts k).take j) DD/\But lf K3 J)
    ⟨DD,_,_,_,rfl,T13 _ _ hle,T13 _ _ hw,sm.trans T13,T13 _ _ hf,rn.less λ a z=>z.elim id λ z=>(by cases z),But.refl⟩ (λ j σ J _ h=>?_) (λ j x σ J hx h=>?_) (λ σ J h=>?_)
   ·obtain⟨DD,y9,y10,y11,rfl,_,_,_,_,_,b3⟩:=h
    exact SqL.of (b3 _ _ n3 v3)
   ·obtain⟨DD,y9,y10,y11,rfl,hle,hw,sm,hf,rn,b3⟩:=h
    have tkp:TupKeep K3 J:=λ a xs e=>b3 _ _ (λ z=>by rw[z,T13 _ _ ‹_›] at e;cases e) e
    obtain⟨p,u,v,rfl,hp,u0,un,v0,vn,arc,more⟩:∃ p u v,x=.ref p/\J p=some (.tup [.int u,.int v])/\0<=u/\u<n/\0<=v/\v<n/\(u.toNat,v.toNat,wOf ts k)∈arcsW ts ks/\∀ z,z∈(arcs2W ts k).take (j+1)->z∈(arcs2W ts k).take j\/z=(u.toNat,v.toNat,wOf ts k):=by
     have mem:∀ z,z∈arcs2W ts k->z∈arcsW ts ks:=λ z hz=>arcsW_mem.mpr ⟨k,i9 hk,hz⟩
     have mW:∀ {z},z=(t.1.toNat,t.2.1.toNat,wOf ts k)\/z=(t.2.1.toNat,t.1.toNat,wOf ts k)->z∈arcs2W ts k:=λ {z} hz=>by unfold arcs2W;rw[← et];simpa using hz
     match j,hx with
     | 0,hx=>cases hx;exact⟨t1,t.1,t.2.1,rfl,tkp _ _ v1',by left,by left,by left,by left,mem _ (mW (.inl rfl)),λ z hz=>by unfold arcs2W at *;rw[← et] at *;simpa using hz⟩
     | 1,hx=>cases hx;exact⟨t2,t.2.1,t.1,rfl,tkp _ _ v2',by left,by left,by left,by left,mem _ (mW (.inr rfl)),λ z hz=>by unfold arcs2W at *;rw[← et] at *;simpa using hz⟩
    refine⟨p,_,rfl,SqT.of hp,rfl,_,_,rfl,_,_,rfl,rfl,?_⟩
    have lD:=rn.snd.len
    have next:∀ {D':List (Option Int)},Far.Rnd (arcsW ts ks) n.toNat r.toNat δ D0 (Far.plus (λ z=>z∈arcsW ts (ks.take i')\/z∈(arcs2W ts k).take j) (u.toNat,v.toNat,wOf ts k)) D'->Far.Rnd (arcsW ts ks) n.toNat r.toNat δ D0 (λ z=>z∈arcsW ts (ks.take i')\/z∈(arcs2W ts k).take (j+1)) D':=λ h=>h.less λ z hz=>by
     rcases hz with hz | hz
     ·exact .inl (.inl hz)
     ·exact (more z hz).elim (λ y=>.inl (.inr y)) .inr
    have at1:=bA u0 (gZ (D:=DD) (i:=u.toNat) (by left))
    have at2:=bA v0 (gZ (D:=DD) (i:=v.toNat) (by left))
    refine⟨_,rfl,_,rfl,lf,_,_,_,rfl,rfl,SqL.of hf,at1,rfl,_,rfl,?_⟩
    cases gu:Far.get DD u.toNat with
    | none=>exact iteF ⟨DD,_,_,_,rfl,hle,hw,sm,hf,next (rn.no gu),b3⟩
    | some d =>
     rw[gu] at at1
     refine iteT ⟨_,rfl,_,rfl,lf,_,_,_,rfl,rfl,SqL.of hf,at1,_,rfl,_,rfl,lw,_,_,_,rfl,rfl,SqL.of hw,nL hkl,_,_,rfl,rfl,?_⟩
     refine⟨_,rfl,_,rfl,lf,_,_,_,rfl,rfl,SqL.of hf,at2,rfl,_,rfl,?_⟩
     have put:∀ (hv:Far.get DD v.toNat=none\/∃ y,Far.get DD v.toNat=some y/\d+wOf ts k<y),Far.Rnd (arcsW ts ks) n.toNat r.toNat δ D0 (λ z=>z∈arcsW ts (ks.take i')\/z∈(arcs2W ts k).take (j+1)) (DD.set v.toNat (some (d+wOf ts k))):=λ hv=>next (rn.put dd arc (by left) gu hv P)
     have eset:(DD.map ov).set v.toNat (.int (d+wOf ts k))=(DD.set v.toNat (some (d+wOf ts k))).map ov:=by rw[uex];rfl
     cases gv:Far.get DD v.toNat with
     | none =>
      refine iteT (iteT ?_)
      refine⟨_,rfl,_,rfl,_,rfl,lf,_,_,_,rfl,rfl,hf,cR v0 (by rw[c6];left),?_⟩
      exact⟨_,_,_,_,rfl,(by rw[aG nel];exact hle),(by rw[aG nwf];exact hw),keepF sm,(by rw[aK,eset]),put (.inl gv),b3.trans But.upd⟩
     | some y =>
      rw[gv] at at2
      refine iteF ⟨_,rfl,_,rfl,lf,_,_,_,rfl,rfl,SqL.of hf,at2,_,rfl,_,_,rfl,rfl,_,rfl,ite2 (λ c=>?_) (λ c=>?_)⟩
      ·refine⟨_,rfl,_,rfl,_,rfl,lf,_,_,_,rfl,rfl,hf,cR v0 (by rw[c6];left),?_⟩
       exact⟨_,_,_,_,rfl,(by rw[aG nel];exact hle),(by rw[aG nwf];exact hw),keepF sm,(by rw[aK,eset]),put (.inr ⟨y,gv,uf4 c⟩),b3.trans But.upd⟩
      ·have hy:y<=d+wOf ts k:=by
        have:=uf6 (ub4.mpr c);left
       exact⟨DD,_,_,_,rfl,hle,hw,sm,hf,next (rn.old gu gv hy),b3⟩
   ·obtain⟨DD,y9,y10,y11,rfl,hle,hw,sm,hf,rn,_⟩:=h
    refine⟨DD,_,_,_,_,_,_,_,_,rfl,hle,hw,sm,hf,rn.less λ z hz=>?_⟩
    exact (uL hk hz).elim .inl .inr
  ·obtain⟨DD,y4,y5,y6,y7,y8,y9,y10,y11,rfl,hle,hw',sm',hf',rn⟩:=h
   have lk:((keepI ks).map V.int).length=ks.length:=by unfold keepI;rw[c6,c6]
   rw[lk,ubk] at rn
   refine⟨_,rfl,_,rfl,.list (D0.map ovD),.list (DD.map ovD),pB hle,pB hf',gM _,gM _,units ?_,_,rfl,ite2 (λ c=>?_) (λ c=>?_)⟩
   ·have:=iY D0
    have:=Nat.min_le_left (uar (.list (D0.map ovD))) (uar (.list (DD.map ovD)))
    have e:uar (.list (D0.map ovD))=ubl (D0.map ovD)+1:=rfl
    left
   ·have eD:D0=DD:=oG c
    subst eD
    refine⟨_,rfl,q lf D0 J sm' ff hf' sd.len λ v hv=>?_⟩
    have ev:Far.get D0 v=δ v:=Classical.byContradiction λ ne=>by
     obtain⟨v',hv',n0,n1⟩:=rn.next dd P inn sd (λ a h=>h) ((δ v).getD 0).toNat v hv ne λ d e=>by rw[e];exact c8 _
     exact n0 n1
    rw[ev];exact dd v
   ·exact⟨DD,_,_,_,_,_,_,_,_,_,rfl,hw',sm',hf',rn.snd,Far.Done.round dd P inn sd rn (λ a h=>h) dn⟩
 ·obtain⟨DD,y4,ye,y5,y6,y7,y8,y9,y10,y11,rfl,hw,sm,hf,sd,dn⟩:=h
  have all:=dn.all
  exact⟨_,rfl,q lf DD J sm ff hf sd.len λ v hv=>by rw[all v hv];exact dd v⟩
theorem rK (T:Bi mg)(D:DefOk K mg "_law_tree" s__law_tree ["web","keep","root"])(O__law_weights:‹2› "_law_weights" ["web"] (spLWeights K))(O__law_weighed:‹2› "_law_weighed" ["web","keep","start"] (spWeighedL K)):‹3› "_law_tree" ["web","keep","root"] (spLTreeL K):=by
 exists 2,sc__law_tree
 obtain⟨n,ts,ks,wv,kp,r,rfl,wk,r0,r1,q⟩:=h
 have ok:=wk.2.1
 have ko:=wk.2.2.2
 have few60:=ok.few
 have n1:=ok.n1
 have n24:=ok.n24
 have KB:=bB ok ko
 obtain⟨g0,g,ws,rfl,hg0,hg,hall,hlw⟩:=bM wk.1
 have hkp:=wk.2.2.1
 refine⟨_,(aD (aI (i:=3) nd rfl (j7 rfl) (aM O__law_weights hr rfl (aA (pv 0) aC))) (aD (aI (i:=4) nd rfl (j7 rfl) (aM O__law_weighed hr rfl (aA (pv 0) (aA (pv 1) (aA (pv 2) aC))))) (aD (aI (i:=5) nd rfl (j7 rfl) (aJ gL (bK (aA bC aC)) (aF aP (pv 0) aB (λ _ _=>rfl)))) (aD (bD PassesOwn.never rfl (bV (pv 1)) (aH (i:=6) nd rfl (j7 rfl)) (aD (bJ (aF aP (aF aP (pv 0) aB (λ _ _=>rfl)) (pv 6) (λ _ _=>rfl)) (bP (n:=3) rfl (aO (aH (i:=7) nd rfl (j7 rfl)) (aO (aH (i:=8) nd rfl (j7 rfl)) (aO (aH (i:=9) nd rfl (j7 rfl)) bG))))) (aE (bD PassesOwn.never rfl (bV (bK (aA (bH (aA (pv 7) (aA (pv 8) aC))) (aA (bH (aA (pv 8) (aA (pv 7) aC))) aC)))) (bP (n:=2) rfl (aO (aH (i:=10) nd rfl (j7 rfl)) (aO (aH (i:=11) nd rfl (j7 rfl)) bG))) (aE (aW (PW.pt (eM (aN jH (aF aQ (pv 4) (pv 10) (λ _ _=>rfl)) bC (nomark _)) (fI (aN bE (aF aQ (pv 4) (pv 11) (λ _ _=>rfl)) (aJ bL (aF aQ (pv 4) (pv 10) (λ _ _=>rfl)) (aF aQ (pv 3) (pv 6) (λ _ _=>rfl))) (nomark _))))) (aE (bJ (pv 10) (dD (pv 5) (pv 11) cX))) aX)))))) (aE (aL (bY eQ rfl T.z_tuple (by symm) (aA (pv 5) aC)))))))),?_⟩
 refine⟨_,rfl,n,ts,_,rfl,wk.1,ok,λ lw J1 S1 f1 e1=>?_⟩
 refine⟨_,rfl,_,rfl,_,rfl,n,ts,ks,_,_,r,rfl,wk.same S1,r0,r1,λ ld DD J2 S2 f2 e2 lD hD=>?_⟩
 have S12:=S1.trans S2
 refine⟨(by show 1<=1000;decide),λ t0 J3 S3 f3 e3=>⟨_,rfl,g0,_,_,_,rfl,rfl,SqT.of (S3 _ _ (S12 _ _ hg0)),rfl,t0,n,_,rfl,rfl,e3,by left,by left,λ lf J4 S4 f4 e4=>?_⟩⟩
 have S34:=S3.trans S4
 have S14:=S12.trans S34
 have ff:H lf=none:=(S12.trans S3).free f4
 have ew:=S34 _ _ (S2 _ _ e1)
 have ed:=S34 _ _ e2
 have nwf:lw≠lf:=λ z=>by rw[← z,S3 _ _ (S2 _ _ e1)] at f4;cases f4
 have ndf:ld≠lf:=λ z=>by rw[← z,S3 _ _ e2] at f4;cases f4
 have e4':J4 lf=some (.lst ((j6 n.toNat (none:Option Nat)).map oa)):=by rw[e4,ueo];rfl
 have comb_of:∀ {cs as},Far.Best (arcsB ts ks) n.toNat r.toNat cs as->∀ v,v<n.toNat->Far.get DD v=(Far.get cs v).map Far.comb:=λ {cs as} b v hv=>by
  have h1:=hD v hv
  rw[jB] at h1
  exact Far.Dst.unique h1 (b.dst KB v)
  -- what is put in is the tree's
 have right:∀ {cs as} (b:Far.Best (arcsB ts ks) n.toNat r.toNat cs as) {u v l k du dv},(u,v,l,k)∈arcsB ts ks->Far.get DD u=some du->Far.get DD v=some dv->dv=du+(l*2^61+2^k)->Far.get as v=some u:=λ {cs as} b {u v l k du dv} m hu hv he=>by
  obtain⟨iu,iv⟩:=eH ok ko m
  rw[comb_of b u iu] at hu
  rw[comb_of b v iv] at hv
  obtain⟨cu,eu,rfl⟩:=uad.mp hu
  obtain⟨cv,ev,rfl⟩:=uad.mp hv
  have s1:=b.small KB eu
  have s2:=b.small KB ev
  have k60:=KB.few _ _ _ _ m
  have p1:=Far.gH k
  have p2:=(oU (i:=k) k60).2
  have e:cv=(cu.1+l,cu.2+2^k):=Far.gE ⟨s2.1,by left⟩ ⟨by show 0<=cu.2+2^k;left,by show cu.2+2^k<2^61;left⟩ (by rw[he];unfold Far.comb;simp only;left)
  rw[e] at ev
  exact b.tree KB m eu ev
 refine⟨_,rfl,kp,rfl,⟨_,SqL.of (S14 _ _ hkp)⟩,?_⟩
 refine dP (xs:=(keepI ks).map V.int) (λ i σ J=>∃ (F:List (Option Nat))(y6 y7 y8 y9 y10 y11:Option V),σ=[some (.ref g0),some (.ref kp),some (.int r),some (.ref lw),some (.ref ld),some (.ref lf),y6,y7,y8,y9,y10,y11]/\But lf J4 J/\Same H J/\J lf=some (.lst (F.map oa))/\F.length=n.toNat/\(∀ cs as,Far.Best (arcsB ts ks) n.toNat r.toNat cs as->∀ v u,Far.get F v=some u->Far.get as v=some u) /\
  ∀ u v l k du,(u,v,l,k)∈arcsB ts (ks.take i)->Far.get DD u=some du->Far.get DD v=some (du+(l*2^61+2^k))->Far.get F v≠none)
  ⟨_,none,none,none,none,none,none,rfl,But.refl,S14,e4',by rw[m5],(λ cs as _ v u z=>by rw[Far.cD] at z;cases z),(λ u v l k du z=>by cases z)⟩ (λ i σ J _ h=>?_) (λ i x σ J hx h=>?_) (λ σ J h=>?_)
 ·obtain⟨F,y6,y7,y8,y9,y10,y11,rfl,_,sm,_⟩:=h
  exact SqL.of (sm _ _ hkp)
 ·obtain⟨F,y6,y7,y8,y9,y10,y11,rfl,bf,sm,hf,lF,invA,invB⟩:=h
  obtain⟨k,hk,rfl⟩:=gN hx
  have hkl:k<ts.length:=ko.2 k (i9 hk)
  obtain⟨ta,hta,htie⟩:=bR hall hkl
  obtain⟨t,et⟩:∃ t,t=tieAt ts k:=⟨_,rfl⟩
  rw[← et] at htie
  have tk:=ok.tie _ (aZ hkl).2
  rw[← et] at tk
  refine⟨_,rfl,g0,_,_,_,rfl,rfl,SqT.of (sm _ _ hg0),rfl,_,rfl,g,_,_,_,rfl,rfl,SqT.of (sm _ _ hg),bA (m9 _) hta,ta,_,rfl,SqT.of (sm _ _ htie),rfl,_,_,rfl,_,_,rfl,_,_,rfl,rfl,?_⟩
  refine⟨_,rfl,_,rfl,(by show 2<=1000;decide),λ t1 K1 T1 u1 v1=>⟨_,rfl,_,rfl,(by show 2<=1000;decide),λ t2 K2 T2 u2 v2=>⟨(by show 2<=1000;decide),λ t3 K3 T3 u3 v3=>⟨t3,rfl,⟨_,SqL.of v3⟩,?_⟩⟩⟩⟩
  have T13:=T1.trans (T2.trans T3)
  have v1':=T3 _ _ (T2 _ _ v1)
  have v2':=T3 _ _ v2
  have hf3:=T13 _ _ hf
  have n3:t3≠lf:=λ z=>by rw[z,T2 _ _ (T1 _ _ hf)] at u3;cases u3
  have bf3:But lf J4 K3:=bf.trans (Same.but T13)
  refine dP (xs:=[V.ref t1,.ref t2]) (λ j σ J=>∃ (F:List (Option Nat))(y10 y11:Option V),σ=[some (.ref g0),some (.ref kp),some (.int r),some (.ref lw),some (.ref ld),some (.ref lf),some (.int (k:Int)),some (.int t.1),some (.int t.2.1),some (.int t.2.2),y10,y11]/\But lf K3 J/\Same H J/\J lf=some (.lst (F.map oa))/\F.length=n.toNat/\(∀ cs as,Far.Best (arcsB ts ks) n.toNat r.toNat cs as->∀ v u,Far.get F v=some u->Far.get as v=some u) /\
   ∀ u v l k' du,((u,v,l,k')∈arcsB ts (ks.take i)\/(u,v,l,k')∈(arcs2B t k).take j)->Far.get DD u=some du->Far.get DD v=some (du+(l*2^61+2^k'))->Far.get F v≠none)
   ⟨F,_,_,rfl,But.refl,sm.trans T13,hf3,lF,invA,(λ u v l k' du z=>invB u v l k' du (z.elim id λ z=>(by cases z)))⟩ (λ j σ J _ h=>?_) (λ j x σ J hx h=>?_) (λ σ J h=>?_)
  ·obtain⟨F,y10,y11,rfl,b3,_⟩:=h
   exact SqL.of (b3 _ _ n3 v3)
  ·obtain⟨F,y10,y11,rfl,b3,sm,hf,lF,invA,invB⟩:=h
   have tkp:TupKeep K3 J:=λ a xs e=>b3 _ _ (λ z=>by rw[z,hf3] at e;cases e) e
   have hw:=b3 _ _ nwf (bf3 _ _ nwf ew)
   have hd:=b3 _ _ ndf (bf3 _ _ ndf ed)
   obtain⟨p,u,v,rfl,hp,u0,un,v0,vn,arcB,more⟩:∃ p u v,x=.ref p/\J p=some (.tup [.int u,.int v])/\0<=u/\u<n/\0<=v/\v<n/\(u.toNat,v.toNat,t.2.2,k)∈arcsB ts ks/\∀ z,z∈(arcs2B t k).take (j+1)->z∈(arcs2B t k).take j\/z=(u.toNat,v.toNat,t.2.2,k):=by
    have memB:∀ z,z∈arcs2B t k->z∈arcsB ts ks:=λ z hz=>arcsB_mem.mpr ⟨k,i9 hk,by rw[← et];exact hz⟩
    match j,hx with
    | 0,hx=>cases hx;exact⟨t1,t.1,t.2.1,rfl,tkp _ _ v1',by left,by left,by left,by left,memB _ (arcs2B_mem.mpr (.inl rfl)),λ z hz=>by unfold arcs2B at *;simpa using hz⟩
    | 1,hx=>cases hx;exact⟨t2,t.2.1,t.1,rfl,tkp _ _ v2',by left,by left,by left,by left,memB _ (arcs2B_mem.mpr (.inr rfl)),λ z hz=>by unfold arcs2B at *;simpa using hz⟩
   refine⟨p,_,rfl,SqT.of hp,rfl,_,_,rfl,_,_,rfl,rfl,?_⟩
   have at1:=bA u0 (gZ (D:=DD) (i:=u.toNat) (by left))
   have at2:=bA v0 (gZ (D:=DD) (i:=v.toNat) (by left))
   have wk_:wOf ts k=t.2.2*2^61+2^k:=by unfold wOf;rw[← et]
   have skip:(∀ du,Far.get DD u.toNat=some du->Far.get DD v.toNat=some (du+(t.2.2*2^61+2^k))->False)->∀ u' v' l k' du,((u',v',l,k')∈arcsB ts (ks.take i)\/(u',v',l,k')∈(arcs2B t k).take (j+1))->Far.get DD u'=some du->Far.get DD v'=some (du+(l*2^61+2^k'))->Far.get F v'≠none:=λ no u' v' l k' du z h1 h2=>by
    rcases z with z | z
    ·exact invB u' v' l k' du (.inl z) h1 h2
    ·rcases more _ z with z | z
     ·exact invB u' v' l k' du (.inr z) h1 h2
     ·cases z;exact (no du h1 h2).elim
   refine⟨_,rfl,_,rfl,ld,_,_,_,rfl,rfl,SqL.of hd,at1,rfl,_,rfl,?_⟩
   cases gu:Far.get DD u.toNat with
   | none=>exact iteF (iteF ⟨F,_,_,rfl,b3,sm,hf,lF,invA,skip λ du z=>by rw[gu] at z;cases z⟩)
   | some d =>
    rw[gu] at at1
    refine iteT ⟨_,rfl,_,rfl,ld,_,_,_,rfl,rfl,SqL.of hd,at2,_,rfl,_,rfl,ld,_,_,_,rfl,rfl,SqL.of hd,at1,_,rfl,_,rfl,lw,_,_,_,rfl,rfl,SqL.of hw,nL hkl,_,_,rfl,rfl,?_⟩
    rw[wk_]
    by_cases z:Far.get DD v.toNat=some (d+(t.2.2*2^61+2^k))
    ·rw[z]
     refine⟨rfl,_,rfl,?_⟩
     have tt:decide (ov (some (d+(t.2.2*2^61+2^k)))=V.int (d+(t.2.2*2^61+2^k)))=true:=uf3 rfl
     rw[tt]
     refine iteT ⟨_,rfl,_,rfl,_,rfl,lf,_,_,_,rfl,rfl,hf,cR v0 (by rw[c6];left),?_⟩
     have eset:(F.map oa).set v.toNat (.int u)=(F.set v.toNat (some u.toNat)).map oa:=by
      rw[uex]
      show _=(F.map oa).set v.toNat (V.int ((u.toNat:Nat):Int))
      rw[v8 u0]
     have hv:v.toNat<F.length:=by left
     refine⟨F.set v.toNat (some u.toNat),_,_,rfl,b3.trans But.upd,λ b o e=>?_,by rw[aK,eset],by rw[ual];exact lF,λ cs as b x y e=>?_,λ u' v' l k' du hz h1 h2=>?_⟩
     ·rw[aG (aV e ff)];exact sm _ _ e
     ·rw[Far.aY hv] at e
      split at e
      ·rename_i xe;rw[xe]
       cases e
       exact right b arcB gu z rfl
      ·exact invA cs as b x y e
     ·rw[Far.aY hv]
      split
      ·exact λ z=>by cases z
      ·rename_i ne
       rcases hz with hz | hz
       ·exact invB u' v' l k' du (.inl hz) h1 h2
       ·rcases more _ hz with hz | hz
        ·exact invB u' v' l k' du (.inr hz) h1 h2
        ·cases hz;exact absurd rfl ne
    ·have side:flatV (ov (Far.get DD v.toNat))=true:=by cases Far.get DD v.toNat <;> rfl
     have ff':decide (ov (Far.get DD v.toNat)=V.int (d+(t.2.2*2^61+2^k)))=false:=uf5 λ y=>z (by
      cases e:Far.get DD v.toNat with
      | none=>rw[e] at y;cases y
      | some q'=>rw[e] at y;rw[show q'=d+(t.2.2*2^61+2^k) by injection y])
     refine⟨?_,_,rfl,?_⟩
     ·cases Far.get DD v.toNat <;> rfl
     ·rw[ff']
      exact iteF ⟨F,_,_,rfl,b3,sm,hf,lF,invA,skip λ du h1 h2=>by rw[gu] at h1;cases h1;exact z h2⟩
  ·obtain⟨F,y10,y11,rfl,b3,sm,hf,lF,invA,invB⟩:=h
   refine⟨F,_,_,_,_,_,_,rfl,bf3.trans b3,sm,hf,lF,invA,λ u v l k' du hz=>invB u v l k' du ?_⟩
   exact (kX hk hz).elim .inl λ y=>.inr (by rw[← et] at y;exact y)
 ·obtain⟨F,y6,y7,y8,y9,y10,y11,rfl,bf,sm,hf,lF,invA,invB⟩:=h
  have lk:((keepI ks).map V.int).length=ks.length:=by unfold keepI;rw[c6,c6]
  rw[lk,ubk] at invB
  refine⟨_,rfl,lf,_,rfl,hf,λ tt J5 S5 f5 e5=>q tt F J5 (sm.trans S5) e5 λ cs as b=>?_⟩
  refine uba λ v=>?_
  have la:=b.alen
  by_cases hv:v<n.toNat
  ·have gF:F[v]?=some (Far.get F v):=by unfold Far.get;rw[b8,b6 (by left)];rfl
   have gA:as[v]?=some (Far.get as v):=by unfold Far.get;rw[b8,b6 (by left)];rfl
   rw[gF,gA]
   congr 1
   cases ea:Far.get as v with
   | none =>
    cases e:Far.get F v with
    | none=>rfl
    | some u=>rw[invA cs as b v u e] at ea;cases ea
   | some u =>
    obtain⟨l,k,cu,m,eu,ev⟩:=b.arc v u ea
    obtain⟨iu,iv⟩:=eH ok ko m
    have hne:=invB u v l k (Far.comb cu) m (by rw[comb_of b u iu,eu];rfl) (by
     rw[comb_of b v iv,ev]
     show some (Far.comb (cu.1+l,cu.2+2^k))=_
     congr 1
     unfold Far.comb;simp only;left)
    cases e:Far.get F v with
    | none=>exact absurd e hne
    | some u'=>rw[← ea,invA cs as b v u' e]
  ·rw[o7 (by left),o7 (by left)]
theorem qQ (T:Bi mg)(D:DefOk K mg "_law_way_by" s__law_way_by ["tree","root","place"]):‹1› "_law_way_by" ["tree","root","place"] spWayBy:=by
 exists 0,sc__law_way_by
 obtain⟨t,B,n,r,pl,cs,as,c0,rfl,ht,G,KB,n24,rn,pn,inn,ec,q⟩:=h
 have lA:=G.alen
 have lm:(as.map oa).length=n:=by rw[c6];exact lA
 refine⟨_,(aD (aI (i:=3) nd rfl (j7 rfl) (bH (aA (pv 2) aC))) (aD (bD PassesOwn.never rfl (cM rfl T.z_range (aA (aU bX rfl T.z_len (by symm) (aA (pv 0) aC)) aC)) (aH (i:=4) nd rfl (j7 rfl)) (aE (aW (aN eO (aF aP (pv 3) aB (λ _ _=>rfl)) (pv 1) (nomark _)) (aE (aI (i:=3) nd rfl (j7 rfl) (aJ dR (bH (aA (aF aP (pv 0) (aF aP (pv 3) aB (λ _ _=>rfl)) (λ _ _=>rfl)) aC)) (pv 3)))) aX))) (aE (aL (pv 3))))),?_⟩
 refine⟨_,rfl,(by show 1<=1000;decide),λ tw0 J0 S0 f0 e0=>?_⟩
 refine⟨_,rfl,t,_,rfl,.inr (SqT.of (S0 _ _ ht)),_,rfl,by left,by left,?_⟩
 rw[show (((as.map oa).length:Nat):Int).toNat=n by left]
 refine dL (n:=n) (λ i σ J=>∃ (c:Nat)(rest:List Nat)(tw:j8)(y4:Option V)(cc:Int × Int),σ=[some (.ref t),some (.int (r:Int)),some (.int (pl:Int)),some (.ref tw),y4]/\Same H J/\J tw=some (.tup (natV (c::rest)))/\c<n/\Far.get cs c=some cc/\(∀ P,Far.TPw as r P c->Far.TPw as r (P++rest) pl)/\(c=r\/Far.nearer n cs cc.1+i<n)/\rest.length<=i)
  ⟨pl,[],tw0,none,c0,rfl,S0,e0,pn,ec,λ P t=>by rw[ubz];exact t,.inr (Far.sV pn ec),c8 _⟩ (λ i σ J hi h=>?_) (λ σ J h=>?_)
 ·obtain⟨c,rest,tw,y4,cc,rfl,sm,hw,hc,e,tp,near,lr⟩:=h
  refine⟨_,rfl,tw,_,_,_,rfl,rfl,SqT.of hw,mR,_,rfl,rfl,_,rfl,?_⟩
  by_cases cr:c=r
  ·refine iteNS (by rw[cr]) ⟨c,rest,tw,_,cc,rfl,sm,hw,hc,e,tp,.inl cr,by left⟩
  ·have ne:decide (V.int (c:Int)=V.int (r:Int))=false:=uf5 λ z=>cr (by injection z with z;left)
   rw[ne]
   cases ea:Far.get as c with
   | none=>exact absurd ea (G.has c cc e cr)
   | some u =>
    obtain⟨l,k,cu,m,eu,ev⟩:=G.arc _ _ ea
    have ecc:cc=(cu.1+l,cu.2+2^k):=j5 (e.symm.trans ev)
    have c1:cc.1=cu.1+l:=by rw[ecc]
    have l1:=KB.pos _ _ _ _ m
    have hu:=(inn _ _ _ _ m).1
    have nl:=Far.lK hu eu (show cu.1<cc.1 by left)
    have hat:atI (as.map oa) (c:Int)=some (.int (u:Int)):=bA (m9 _) (by rw[uaq,jV (by left),ea];rfl)
    refine iteT ⟨_,rfl,_,rfl,tw,_,_,_,rfl,rfl,SqT.of hw,mR,t,_,_,_,rfl,rfl,SqT.of (sm _ _ ht),hat,(by show 1<=1000;decide),λ t1 J1 S1 f1 e1=>?_⟩
    have lenW:(natV (c::rest)).length=rest.length+1:=by unfold natV;rw[c6];rfl
    refine⟨_,rfl,t1,tw,_,_,rfl,rfl,e1,S1 _ _ hw,o8 (by rw[o6,lenW];left:_<=1000) (by decide),λ t2 J2 S2 e2=>?_⟩
    refine⟨u,c::rest,t2,_,cu,rfl,sm.trans (S1.trans S2),by rw[e2];rfl,hu,eu,λ P t=>?_,?_,by rw[k9];left⟩
    ·have:=tp (P++[c]) (.step ea t)
     rw[ucv] at this
     exact this
    ·rcases near with z | z
     ·exact absurd z cr
     ·exact .inr (by left)
 ·obtain⟨c,rest,tw,y4,cc,rfl,sm,hw,hc,e,tp,near,lr⟩:=h
  have cr:c=r:=by
   rcases near with z | z
   ·exact z
   ·left
  subst cr
  exact⟨_,rfl,q tw (c::rest) J sm hw (by rw[k9];left) (tp [c] .root)⟩
theorem qD (T:Bi mg)(D:DefOk K mg "_law_spare" s__law_spare ["web","keep","tie"])(O__law_tree:‹3› "_law_tree" ["web","keep","root"] (spLTreeL K))(O__law_way_by:‹3› "_law_way_by" ["tree","root","place"] spWayBy):‹4› "_law_spare" ["web","keep","tie"] (spSpareM K):=by
 exists 3,sc__law_spare
 obtain⟨n,ts,ks,wv,kv,k,rfl,wk,hkl,q⟩:=h
 have ok:=wk.2.1
 have ko:=wk.2.2.2
 have ko2:=bI (k:=k) ko
 have KB:=bB ok ko2
 have n1:=ok.n1
 have n24:=ok.n24
 obtain⟨g0,g,ws,rfl,hg0,hg,hall,hlw⟩:=bM wk.1
 obtain⟨ta,hta,htie⟩:=bR hall hkl
 have tk:=ok.tie _ (aZ hkl).2
 obtain⟨t,et⟩:∃ t,t=tieAt ts k:=⟨_,rfl⟩
 rw[← et] at htie tk q
 obtain⟨kp,rfl,hkp⟩:=cL wk.2.2.1
 rw[← bN] at hkp
 have lks:=ko.len
 have few:=ok.few
 have len:(natV ks).length=ks.length:=by unfold natV;rw[c6]
 refine⟨_,(aD (eY (i:=3) (N:=["web","keep","tie","left","a","b","length","tree"]) (sc0:=defScope s__law_spare) (own:=["number"]) (fr:=["tie"]) (js:=[2]) rfl (cT (pv 1)) (λ _ _ _ _=>(aH (i:=0) (by show uai [("number":Str),("tie":Str)];decide +kernel) rfl (j7 rfl))) (λ _ _ _ _=>(dQ (aN eO (pv 0) (pv 1) (nomark _)))) (λ _ _ _ _=>(pv 0)) nd rfl (j7 rfl)) (aD (bJ (aF aP (aF aP (pv 0) aB (λ _ _=>rfl)) (pv 2) (λ _ _=>rfl)) (bP (n:=3) rfl (aO (aH (i:=4) nd rfl (j7 rfl)) (aO (aH (i:=5) nd rfl (j7 rfl)) (aO (aH (i:=6) nd rfl (j7 rfl)) bG))))) (aD (aI (i:=7) nd rfl (j7 rfl) (aM O__law_tree hr rfl (aA (pv 0) (aA (pv 3) (aA (pv 4) aC))))) (aD (aW (aN dF (aF aP (pv 7) (pv 5) (λ _ _=>rfl)) bC (nomark _)) (aE (aL bC)) aX) (aE (aL (aM O__law_way_by hr rfl (aA (pv 7) (aA (pv 4) (aA (pv 5) aC)))))))))),?_⟩
 refine⟨_,rfl,kp,rfl,⟨_,SqT.of hkp⟩,?_⟩
 refine lQ hkp (λ σ'=>∃ o,σ'=[o,some (.int (k:Int))]) (λ i=>if decide (ks.getD i 0≠k)=true then some (V.int ((ks.getD i 0:Nat):Int)) else none) (by left) (by exact⟨none,rfl⟩) (λ i x σ' H' hx s2 sg C L hC hL=>?_) (λ L J1 hL S1 hH=>?_)
 ·obtain⟨o,rfl⟩:=sg
  obtain⟨j,hj,rfl⟩:=bQ hx
  have ej:ks.getD i 0=j:=by rw[b8,hj];rfl
  refine⟨_,rfl,_,rfl,rfl,_,rfl,?_⟩
  by_cases z:j=k
  ·refine iteNS (by rw[z]) (hL _ _ ⟨_,rfl⟩ (Same.refl _) ?_)
   rw[ej,uf8]
   exact λ y=>uf4 y z
  ·have ne:decide (V.int (j:Int)=V.int (k:Int))=false:=uf5 λ y=>z (by injection y with y;left)
   rw[ne]
   refine iteT ⟨_,rfl,hC _ _ _ ⟨_,rfl⟩ (Same.refl _) ?_⟩
   rw[ej,uf7 (uf3 z)]
 rw[len,mK (λ j=>decide (j≠k)) ks] at hH
 have hH':J1 L=some (.lst ((keepI (but ks k)).map V.int)):=by rw[← bN];exact hH
 refine⟨_,rfl,g0,_,_,_,rfl,rfl,SqT.of (S1 _ _ hg0),rfl,_,rfl,g,_,_,_,rfl,rfl,SqT.of (S1 _ _ hg),bA (m9 _) hta,ta,_,rfl,SqT.of (S1 _ _ htie),rfl,_,_,rfl,_,_,rfl,_,_,rfl,rfl,?_⟩
 have wkl:WKL K J1 n ts (but ks k) (.ref g0) L:=⟨Is.same S1 _ wk.1,ok,hH',ko2⟩
 refine⟨_,rfl,_,rfl,_,rfl,n,ts,but ks k,_,L,t.1,rfl,wkl,by left,by left,λ p F J2 S2 e2 hF=>?_⟩
 have inn:∀ u v l k',(u,v,l,k')∈arcsB ts (but ks k)->u<n.toNat/\v<n.toNat:=λ u v l k' m=>eH ok ko2 m
 obtain⟨cs,as,B⟩:=Far.kJ KB inn (s:=t.1.toNat) (show t.1.toNat<n.toNat by left)
 have eF:=hF cs as B
 subst eF
 have lF:=B.alen
 have atb:atI (F.map oa) t.2.1=some (oa (Far.get F t.2.1.toNat)):=bA (by left) (jV (by left))
 have S12:=S1.trans S2
 have d:=B.dst1 KB t.2.1.toNat
 rw[cZ] at d
 refine⟨_,rfl,_,rfl,p,_,_,_,rfl,rfl,SqT.of e2,atb,?_,_,rfl,?_⟩
 ·cases Far.get F t.2.1.toNat <;> rfl
 cases eb:Far.get F t.2.1.toNat with
 | none =>
  have ec:Far.get cs t.2.1.toNat=none:=by
   cases ec:Far.get cs t.2.1.toNat with
   | none=>rfl
   | some c=>exact absurd eb (B.has _ _ ec (by left))
  rw[ec] at d
  exact iteT (q .non J2 S12 (.inl ⟨rfl,d⟩))
 | some u =>
  obtain⟨l,k',cu,_,_,ec⟩:=B.arc _ _ eb
  rw[ec] at d
  refine iteF ⟨_,rfl,_,rfl,_,rfl,p,arcsB ts (but ks k),n.toNat,t.1.toNat,t.2.1.toNat,cs,F,_,?_,e2,B,KB,by left,by left,by left,inn,ec,λ p2 wz J3 S3 e3 _ tp=>?_⟩
  ·rw[v8 (by left),v8 (by left)];rfl
  have mw:=wC KB B tp ec
  have mw2:=mw
  obtain⟨Sx,x,y,r,_⟩:=mw2
  have tr:=r.tr
  rw[cZ] at tr
  have pl:=r.places (show t.1.toNat<n.toNat by left) inn
  have wkk:=r.walk
  rw[cZ] at wkk
  have le:=vE r.unlike pl
  obtain⟨S9,r9⟩:=B.rt KB tp ec
  have tr9:=r9.tr
  rw[cZ] at tr9
  exact q _ J3 (S12.trans S3) (.inr ⟨p2,wz,_,rfl,e3,by left,mw,tr9,d⟩)
theorem qG (T:Bi mg)(D:DefOk K mg "_law_as_ring" s__law_as_ring ["way"]):‹1› "_law_as_ring" ["way"] (spAsRing K):=by
 exists 0,sc__law_as_ring
 obtain⟨t,ws,rfl,ht,l3,l24,ndw,q⟩:=h
 have htk:=ht
 rw[bN] at htk
 have lenN:∀ W:List Nat,(natV W).length=W.length:=λ W=>by unfold natV;rw[c6]
 have lk:(keepI ws).length=ws.length:=by unfold keepI;rw[c6]
 have ne:keepI ws≠[]:=λ z=>by rw[z] at lk;simp at lk;left
 refine⟨_,(aD (aI (i:=1) nd rfl (j7 rfl) (zO PySem.F.slot_tuple_index PySem.F.type_tuple_index vI (pv 0) (aA (aU (uG rfl) rfl T.z_min (by symm) (aA (pv 0) aC)) aC))) (aD (aI (i:=2) nd rfl (j7 rfl) (aJ dR (bZ cB (pv 0) (bT (pv 1)) bU) (bZ cB (pv 0) bU (bT (pv 1))))) (aD (aW (aN cG (aF aP (pv 2) aB (λ _ _=>rfl)) (aF aP (pv 2) (cV cS aB) (λ _ _=>rfl)) (nomark _)) (aE (aI (i:=2) nd rfl (j7 rfl) (aJ dR (bZ cB (pv 2) bU (bT aB)) (lJ zJ (pv 2) (bT aB) (cV cS aB))))) aX) (aE (aL (pv 2)))))),?_⟩
 refine⟨_,rfl,⟨_,_,rfl,ht⟩,_,rfl,t,keepI ws,rfl,htk,ne,λ b hb least=>?_⟩
 obtain⟨h,hh,rfl⟩:=ua5.mp hb
 obtain⟨p,q1,ew,hp,_⟩:∃ p q1,ws=p++h::q1/\(∀ x∈p,x≠h)/\True:=by
  obtain⟨p,u,r,e,hp,hu⟩:=Far.kF (P:=λ x=>x=h) (l:=ws) ⟨h,hh,rfl⟩
  subst hu
  exact⟨p,r,e,hp,trivial⟩
 have lmin:∀ x∈ws,h<=x:=λ x hx=>by
  have:=least (x:Int) (ua5.mpr ⟨x,hx,rfl⟩)
  left
 have hk1:(keepI ws)[p.length]?=some (h:Int):=by
  unfold keepI
  rw[j3,ew,x9 (c8 _),Nat.sub_self];rfl
 have hno:∀ z,z<p.length->(keepI ws)[z]?≠some (h:Int):=λ z hz e=>by
  unfold keepI at e
  rw[j3,uad] at e
  obtain⟨c,ec,eu⟩:=e
  rw[ew,uab hz] at ec
  exact hp c (i9 ec) (by left)
 refine⟨t,keepI ws,(h:Int),p.length,rfl,rfl,htk,hk1,hno,?_⟩
 have c1:cutV (natV ws) (some ((p.length:Nat):Int)) none=natV (h::q1):=by
  unfold cutV
  rw[HT.dA,HT.cY,ubo (by rw[lenN,ew,d6];left)]
  rw[ua7 (by rw[p9];exact c8 _)]
  unfold natV
  rw[← uep,ew,List.drop_left]
 have c2:cutV (natV ws) none (some ((p.length:Nat):Int))=natV p:=by
  unfold cutV
  rw[HT.dA,HT.cY,ubo (by rw[lenN,ew,d6];left),ubu,ud9]
  unfold natV
  rw[← uen,ew,List.take_left]
 have lw:ws.length=p.length+q1.length+1:=by rw[ew];simp only [d6,k9];left
 refine⟨_,rfl,_,rfl,_,rfl,t,_,rfl,ht,λ p1 J1 S1 e1=>?_⟩
 refine⟨_,rfl,_,rfl,_,rfl,t,_,rfl,S1 _ _ ht,λ p2 J2 S2 e2=>?_⟩
 rw[c1] at e1
 rw[c2] at e2
 refine⟨p1,p2,_,_,rfl,rfl,S2 _ _ e1,e2,o8 (show _<=1000 by rw[lenN,lenN,k9];left) (by decide),λ p3 J3 S3 e3=>?_⟩
 have e3':J3 p3=some (.tup (natV (h::(q1++p)))):=by rw[e3];unfold natV;rw[← o3];rfl
 clear e3
 have S13:=S1.trans (S2.trans S3)
 obtain⟨tl,etl⟩:∃ tl,tl=q1++p:=⟨_,rfl⟩
 have ltl:tl.length=q1.length+p.length:=by rw[etl,d6]
 rw[← etl] at e3'
 obtain⟨u,r1,eu⟩:∃ u r1,tl=u::r1:=by
  cases tl with
  | nil=>simp at ltl;left
  | cons u r1=>exact⟨u,r1,rfl⟩
 obtain⟨r2,v,ev⟩:∃ r2 v,tl=r2++[v]:=by
  rcases z9 tl with z | ⟨r2,v,z⟩
  ·rw[z] at eu;cases eu
  ·exact⟨r2,v,by rw[z];simp⟩
 have at1:atI (natV (h::tl)) 1=some (.int (u:Int)):=bA (by decide) (by rw[eu];rfl)
 have at9:atI (natV (h::tl)) (-1)=some (.int (v:Int)):=by
  unfold atI ixN
  rw[uf8 (by decide),uf7 (by rw[lenN];simp only [k9];left)]
  show (natV (h::tl))[(-1+((natV (h::tl)).length:Int)).toNat]?=_
  refine wW ?_
  rw[show (-1+((natV (h::tl)).length:Int)).toNat=r2.length+1 by rw[lenN,ev];simp only [k9,d6,uby];left,ucq,ev,x9 (c8 _),Nat.sub_self];rfl
 have ro:Far.RingOf ws h tl:=⟨p,q1,ew,.inl etl⟩
 have mn:∀ x∈tl,h<=x:=λ x hx=>lmin x (ro.mem.mp (j4 _ hx))
 refine⟨_,rfl,p3,_,_,_,rfl,rfl,SqT.of e3',at1,_,rfl,_,rfl,p3,_,_,_,rfl,rfl,SqT.of e3',at9,_,_,rfl,rfl,_,rfl,ite2 (λ c=>?_) (λ c=>?_)⟩
 ·have c':=uf4 c
  refine⟨_,rfl,_,rfl,p3,_,rfl,e3',λ p4 J4 S4 e4=>?_⟩
  refine⟨_,rfl,_,rfl,_,rfl,rfl,p3,_,1,rfl,S4 _ _ e3',.inr ⟨rfl,rfl,by rw[lenN];exact Nat.succ_pos _⟩,λ p5 J5 S5 f5 e5=>?_⟩
  have c4:cutV (natV (h::tl)) none (some 1)=natV [h]:=by
   unfold cutV
   rw[HT.cY,show HT.sIx (natV (h::tl)).length (natV (h::tl)).length (some 1)=min 1 (natV (h::tl)).length from HT.dA _ _ 1,ubo (by rw[lenN];exact Nat.succ_pos _)]
   rfl
  have c5:((natV (h::tl)).drop 1).reverse=natV tl.reverse:=by unfold natV;rw[uds];rfl
  rw[c4] at e4
  rw[c5] at e5
  refine⟨p4,p5,_,_,rfl,rfl,S5 _ _ e4,e5,o8 (show _<=1000 by rw[lenN,lenN,u7];simp only [k9,uby];left) (by decide),λ p6 J6 S6 e6=>?_⟩
  have e6':J6 p6=some (.tup (natV (h::tl.reverse))):=by rw[e6];unfold natV;rw[← o3];rfl
  refine⟨_,rfl,q p6 h tl.reverse J6 (S13.trans (S4.trans (S5.trans S6))) e6' ⟨p,q1,ew,.inr (by rw[etl])⟩ ⟨λ x hx=>mn x (ua4.mp hx),λ u' v' r r' z1 z2=>?_⟩⟩
  have h1:u'=v:=by
   rw[ev,uci] at z1
   injection z1 with z _
   exact z.symm
  have h2:v'=u:=by
   rw[eu,ua8] at z2
   obtain⟨_,y⟩:=uaf z2 rfl
   injection y with y _
   exact y.symm
  left
 ·have c':=uf6 (ub4.mpr c)
  refine⟨_,rfl,q p3 h tl J3 S13 e3' ro ⟨mn,λ u' v' r r' z1 z2=>?_⟩⟩
  have h1:u'=u:=by rw[eu] at z1;injection z1 with z _;exact z.symm
  have h2:v'=v:=by
   rw[ev] at z2
   obtain⟨_,y⟩:=uaf z2 rfl
   injection y with y _
   exact y.symm
  left
def nbr (ts:List Tie)(j k:Nat):Option Nat:=if (en ts k).1=j then some (en ts k).2 else if (en ts k).2=j then some (en ts k).1 else none
def rowsN (ts:List Tie)(ks:List Nat)(j:Nat):List Nat:=ks.filterMap (nbr ts j)
theorem mL {n:Int}{ts:List Tie}{ks:List Nat}(ok:WebOk n ts)(ko:KeepOk ts.length ks)(j c:Nat):c∈rowsN ts ks j↔Adj ts ks j c:=by
 unfold rowsN
 rw[uco]
 constructor
 ·rintro ⟨k,hk,e⟩
  refine⟨k,hk,a2_iff.mpr ?_⟩
  unfold nbr at e
  by_cases z:(en ts k).1=j
  ·rw[uf7 z] at e
   exact .inl ⟨z.symm,(j5 e).symm⟩
  ·rw[uf8 z] at e
   by_cases y:(en ts k).2=j
   ·rw[uf7 y] at e
    exact .inr ⟨y.symm,(j5 e).symm⟩
   ·rw[uf8 y] at e;cases e
 ·rintro ⟨k,hk,m⟩
  have lt:=(pQ ok (ko.2 k hk)).1
  refine⟨k,hk,?_⟩
  unfold nbr
  rcases a2_iff.mp m with ⟨z1,z2⟩ | ⟨z1,z2⟩
  ·rw[uf7 (show (en ts k).1=j from z1.symm),z2];rfl
  ·have z1':(en ts k).2=j:=z1.symm
   rw[uf8 (by left),uf7 z1',z2];rfl
theorem kK {n:Int}{ts:List Tie}{ks:List Nat}(ok:WebOk n ts)(ko:KeepOk ts.length ks)(j:Nat):(rowsN ts ks j).Nodup:=by
 unfold rowsN
 rw[uai,List.pairwise_filterMap]
 refine List.Pairwise.imp_of_mem ?_ ko.1
 intro k k' hk hk' lt c hc c' hc' e
 subst e
 have arc:∀ {k},k∈ks->nbr ts j k=some c->(j,c,(tieAt ts k).2.2)∈arcs2 (tieAt ts k):=λ {k} hk e=>by
  refine a2_iff.mpr ?_
  unfold nbr at e
  by_cases z:(en ts k).1=j
  ·rw[uf7 z] at e;exact .inl ⟨z.symm,(j5 e).symm⟩
  ·rw[uf8 z] at e
   by_cases y:(en ts k).2=j
   ·rw[uf7 y] at e;exact .inr ⟨y.symm,(j5 e).symm⟩
   ·rw[uf8 y] at e;cases e
 exact l9 lt (mE ok (ko.2 k hk) (ko.2 k' hk') (arc hk hc) (arc hk' hc'))
theorem uS {ts:List Tie}{ks:List Nat}{k j:Nat}:rowsN ts (ks++[k]) j=rowsN ts ks j++(nbr ts j k).toList:=by
 unfold rowsN
 rw[uan]
 cases e:nbr ts j k <;> simp [e]
def spBesN (K:a9):Sp:=λ vs H Q _=>∃ n ts ks wv kv,vs=[wv,kv]/\WK K H n ts ks wv kv/\∀ l as H',Same H H'->H l=none->Bes H' l as (λ j=>natV (rowsN ts ks j))->as.length=n.toNat->Q (.ref l) H'
theorem qF (T:Bi mg)(D:DefOk K mg "_law_beside" s__law_beside ["web","keep"]):‹1› "_law_beside" ["web","keep"] (spBesN K):=by
 exists 0,sc__law_beside
 obtain⟨n,ts,ks,wv,kv,rfl,wk,q⟩:=h
 have ok:=wk.2.1
 have ko:=wk.2.2.2
 have n1:=ok.n1
 have n24:=ok.n24
 have few60:=ok.few
 have kl:=ko.len
 obtain⟨g0,g,ws,rfl,hg0,hg,hall,hlw⟩:=bM wk.1
 obtain⟨kp,rfl,hkp⟩:=cL wk.2.2.1
 rw[← bN] at hkp
 have lenK:(natV ks).length=ks.length:=by unfold natV;rw[c6]
 have N24:n.toNat<=24:=by left
 refine⟨_,(aD (eY (i:=2) (N:=["web","keep","found","number","a","b","length"]) (sc0:=defScope s__law_beside) (own:=["place"]) (fr:=[]) (js:=[]) rfl (cM rfl T.z_range (aA (aF aP (pv 0) aB (λ _ _=>rfl)) aC)) (λ _ _ _ _=>(aH (i:=0) (by show uai [("place":Str)];decide +kernel) rfl (j7 rfl))) (λ _ _ _ _=>cP) (λ _ _ _ _=>(bK aC)) nd rfl (j7 rfl)) (aD (bD PassesOwn.never rfl (cT (pv 1)) (aH (i:=3) nd rfl (j7 rfl)) (aD (bJ (aF aP (aF aP (pv 0) aB (λ _ _=>rfl)) (pv 3) (λ _ _=>rfl)) (bP (n:=3) rfl (aO (aH (i:=4) nd rfl (j7 rfl)) (aO (aH (i:=5) nd rfl (j7 rfl)) (aO (aH (i:=6) nd rfl (j7 rfl)) bG))))) (aD (cQ (cJ z0 uau uat eZ (aF aQ (pv 2) (pv 4) (λ _ _=>rfl)) (aA (pv 5) aC))) (aE (cQ (cJ z0 uau uat eZ (aF aQ (pv 2) (pv 5) (λ _ _=>rfl)) (aA (pv 4) aC))))))) (aE (aL (pv 2))))),?_⟩
 refine⟨_,rfl,g0,_,_,_,rfl,rfl,SqT.of hg0,rfl,n,rfl,by left,by left,?_⟩
 refine tE (n:=n.toNat) (lo:=0) (λ σ'=>σ'.length=1) (by left) (by rfl) (λ i σ' H' hi s6 sg C hC=>?_) (λ L as J1 hL S1 hH las ndA noA new=>?_)
 ·match σ',sg with
  | [o],_=>exact⟨(by show 0<=1000;decide),λ l H5 s5 f5 e5=>hC _ _ _ rfl s5 f5 e5⟩
 have B1:=Bes.new hH ndA noA λ a ha=>(new a ha).2
 have fas:∀ a∈as,H a=none:=λ a ha=>(new a ha).1
 refine⟨_,rfl,kp,rfl,⟨_,SqT.of (S1 _ _ hkp)⟩,?_⟩
 refine eJ (xs:=natV ks) (λ i σ J=>∃ (y3 y4 y5 y6:Option V),σ=[some (.ref g0),some (.ref kp),some (.ref L),y3,y4,y5,y6]/\Same H J/\Bes J L as λ j=>natV (rowsN ts (ks.take i) j)) ⟨none,none,none,none,rfl,S1,B1⟩ (λ i σ J _ h=>?_) (λ i x σ J hx h=>?_) (λ σ J h=>?_)
 ·obtain⟨y3,y4,y5,y6,rfl,sm,_⟩:=h
  exact SqT.of (sm _ _ hkp)
 ·obtain⟨y3,y4,y5,y6,rfl,sm,B⟩:=h
  obtain⟨k,hk,rfl⟩:=bQ hx
  have hkm:=i9 hk
  have hkl:k<ts.length:=ko.2 k hkm
  obtain⟨ta,hta,htie⟩:=bR hall hkl
  obtain⟨e1,e2,e3,e4⟩:=pQ ok hkl
  have tn:ks.take (i+1)=ks.take i++[k]:=by rw[ub2,hk];rfl
  have lr:∀ j,(rowsN ts (ks.take i) j).length<=60:=λ j=>by
   unfold rowsN
   have h1:=ucl (nbr ts j) (ks.take i)
   have h2:=List.length_take_le i ks
   have h3:(ks.take i).length<=ks.length:=by rw[uag];left
   left
  have lrV:∀ j,(natV (rowsN ts (ks.take i) j)).length<=60:=λ j=>by unfold natV;rw[c6];exact lr j
  refine⟨_,rfl,g0,_,_,_,rfl,rfl,SqT.of (sm _ _ hg0),rfl,_,rfl,g,_,_,_,rfl,rfl,SqT.of (sm _ _ hg),bA (m9 _) hta,?_⟩
  refine⟨ta,_,rfl,SqT.of (sm _ _ htie),rfl,_,_,rfl,_,_,rfl,_,_,rfl,rfl,?_⟩
  rw[← e3,← e4]
  obtain⟨a1,i1,v1,r1⟩:=B.ix (i:=(en ts k).1) (by left)
  refine⟨_,rfl,_,rfl,L,_,_,.ref a1,rfl,rfl,SqL.of B.top,bA (m9 _) v1,.inl ⟨rfl,_,SqL.of r1⟩,_,rfl,?_⟩
  refine⟨a1,_,_,rfl,rfl,r1,by have:=lrV (en ts k).1;left,λ J3 b3 h3=>?_⟩
  have ma1:=i9 i1
  have B3:=B.put i1 b3 h3
  have sm3:Same H J3:=λ b o e=>b3 _ _ (aV e (fas a1 ma1)) (sm _ _ e)
  have nab:(en ts k).2≠(en ts k).1:=by left
  obtain⟨a2,i2,v2,r2⟩:=B3.ix (i:=(en ts k).2) (by left)
  rw[uf8 nab] at r2
  refine⟨_,rfl,_,rfl,L,_,_,.ref a2,rfl,rfl,SqL.of B3.top,bA (m9 _) v2,.inl ⟨rfl,_,SqL.of r2⟩,_,rfl,?_⟩
  refine⟨a2,_,_,rfl,rfl,r2,by have:=lrV (en ts k).2;left,λ J5 b5 h5=>?_⟩
  have ma2:=i9 i2
  have B5:=B3.put i2 b5 h5
  have ef:(λ j=>if j=(en ts k).2 then natV (rowsN ts (ks.take i) (en ts k).2)++[V.int (((en ts k).1:Nat):Int)] else if j=(en ts k).1 then natV (rowsN ts (ks.take i) (en ts k).1)++[V.int (((en ts k).2:Nat):Int)] else natV (rowsN ts (ks.take i) j))=λ j=>natV (rowsN ts (ks.take (i+1)) j):=funext λ j=>by
   rw[tn,uS]
   unfold nbr
   by_cases z:j=(en ts k).2
   ·subst z
    rw[uf7 rfl,uf8 (Ne.symm nab),uf7 rfl]
    unfold natV;rw[o3];rfl
   ·rw[uf8 z]
    by_cases y:j=(en ts k).1
    ·subst y
     rw[uf7 rfl,uf7 rfl]
     unfold natV;rw[o3];rfl
    ·rw[uf8 y,uf8 (Ne.symm y),uf8 (Ne.symm z)]
     unfold natV;rw[o3];simp
  rw[ef] at B5
  exact⟨_,_,_,_,rfl,λ b o e=>b5 _ _ (aV e (fas a2 ma2)) (sm3 _ _ e),B5⟩
 ·obtain⟨y3,y4,y5,y6,rfl,sm,B⟩:=h
  rw[lenK,ubk] at B
  exact⟨_,rfl,q L as J sm hL B las⟩
theorem nQ {K:a9}{J:Hp}{p:List Nat->Bool}:∀ {W:List (List Nat)}{xs:List V},IsAll K J (W.map keepD) xs->IsAll K J ((W.filter p).map keepD) ((c9 xs.length).filterMap λ j=>if p (W.getD j [])=true then xs[j]? else none)
 | [],xs,h=>by
  have:xs=[]:=udq.mp (h.length.trans rfl)
  subst this;rfl
 | w::W,xs,h=>by
  obtain⟨v,r,rfl,h1,h2⟩:=h
  rw[k9,udx,uam,ucr]
  have ih:=nQ (p:=p) h2
  have e:((λ j=>if p ((w::W).getD j [])=true then (v::r)[j]? else none) ∘ Nat.succ)=λ j=>if p (W.getD j [])=true then r[j]? else none:=funext λ j=>rfl
  rw[e]
  by_cases c:p w=true
  ·rw[uf1 c]
   have e0:(if p ((w::W).getD 0 [])=true then (v::r)[0]? else none)=some v:=uf7 c
   rw[e0]
   exact⟨v,_,rfl,h1,ih⟩
  ·rw[uf2 c]
   have e0:(if p ((w::W).getD 0 [])=true then (v::r)[0]? else none)=none:=uf8 c
   rw[e0]
   exact ih
theorem fU:∀ W:List (List Nat),tupAll (W.map keepD)=true
 | []=>rfl
 | w::W=>by show (tupD (keepD w)&&tupAll (W.map keepD))=true;rw[fD w,fU W];rfl
theorem jG {c:Nat->Bool}{f:Nat->uac}:∀ l:List Nat,(l.filterMap λ o=>if c o=true then some (f o) else none)=(l.filter c).map f
 | []=>rfl
 | o::l=>by
  rw[uam]
  by_cases z:c o=true
  ·rw[uf7 z,uf1 z,ua1,jG l]
  ·rw[uf8 z,uf2 z,jG l]
def spAllR (K:a9):Sp:=λ vs H Q _=>∃ (n:Int)(ts:List Tie)(ks:List Nat)(wv kv:V),vs=[wv,kv]/\WK K H n ts ks wv kv/\n<7/\∀ (l:j8)(RS:List (List Nat))(ys:List V) H',Same H H'->H' l=some (.lst ys)->IsAll K H' (RS.map keepD) ys->RS.length<=279936->(∀ W,W∈RS↔∃ h tl,W=h::tl/\Lr.Rg (Adj ts ks) h tl/\Lr.Cano h tl)->Q (.ref l) H'
theorem wN {ts:List Tie}{ks:List Nat}{n:Int}(ok:WebOk n ts)(ko:KeepOk ts.length ks)(n7:n<7)(w:List Nat):(Lr.stepW (rowsN ts ks) w).length<=6:=by
 unfold Lr.stepW
 rw[c6]
 have h1:=ucz (λ o=>decide (w.headD 0<o)&&!decide (o∈w)) (rowsN ts ks (w.getLast?.getD 0))
 have h2:=Peel.dZ n.toNat _ (kK ok ko (w.getLast?.getD 0)) λ c hc=>pM ok ko _ _ ((mL ok ko _ c).mp hc)
 left
theorem iW {ts:List Tie}{ks:List Nat}{n:Int}(ok:WebOk n ts)(ko:KeepOk ts.length ks)(n7:n<7):∀ W:List (List Nat),(W.flatMap (Lr.stepW (rowsN ts ks))).length<=W.length*6
 | []=>c8 _
 | w::W=>by
  rw[List.flatMap_cons,d6,k9,Nat.succ_mul]
  have:=wN ok ko n7 w
  have:=iW ok ko n7 W
  left
theorem iM {ts:List Tie}{ks:List Nat}{n:Int}(ok:WebOk n ts)(ko:KeepOk ts.length ks)(n7:n<7):∀ i,(Lr.ways (rowsN ts ks) n.toNat i).length<=6^(i+1)
 | 0=>by unfold Lr.ways;rw[c6,p8];left
 | i+1=>by
  have:=iM ok ko n7 i
  have h:=iW ok ko n7 (Lr.ways (rowsN ts ks) n.toNat i)
  show (List.flatMap _ _).length<=_
  rw[Nat.pow_succ]
  exact o8 h (Nat.mul_le_mul_right _ this)
def ringsN (rw_:Nat->List Nat)(n i:Nat):List (List Nat):=(c9 i).flatMap λ j=>(Lr.ways rw_ n j).filter (Lr.isRing rw_)
theorem kL (rw_:Nat->List Nat)(n i:Nat):ringsN rw_ n (i+1)=ringsN rw_ n i++(Lr.ways rw_ n i).filter (Lr.isRing rw_):=by
 unfold ringsN
 rw[ua0,List.flatMap_append]
 simp
theorem iG {ts:List Tie}{ks:List Nat}{n:Int}(ok:WebOk n ts)(ko:KeepOk ts.length ks)(n7:n<7):∀ i,i<=6->(ringsN (rowsN ts ks) n.toNat i).length<=i*46656
 | 0,_=>v4 _
 | i+1,h=>by
  rw[kL,d6]
  have:=iG ok ko n7 i (by left)
  have h2:=ucz (Lr.isRing (rowsN ts ks)) (Lr.ways (rowsN ts ks) n.toNat i)
  have h3:=iM ok ko n7 i
  have h4:6^(i+1)<=6^6:=ub9 (by decide) (by left)
  have h5:(6:Nat)^6=46656:=by decide
  left
theorem pU (T:Bi mg)(D:DefOk K mg "_law_all_rings" s__law_all_rings ["web","keep"])(O__law_beside:‹1› "_law_beside" ["web","keep"] (spBesN K)):‹2› "_law_all_rings" ["web","keep"] (spAllR K):=by
 exists 1,sc__law_all_rings
 obtain⟨n,ts,ks,wv,kv,rfl,wk,n7,q⟩:=h
 have ok:=wk.2.1
 have ko:=wk.2.2.2
 have n1:=ok.n1
 have n24:=ok.n24
 have N24:n.toNat<=24:=by left
 obtain⟨rw_,erw⟩:∃ r,r=rowsN ts ks:=⟨_,rfl⟩
 have hrm:∀ u c,c∈rw_ u↔Adj ts ks u c:=λ u c=>by rw[erw];exact mL ok ko u c
 have hnn:∀ u c,Adj ts ks u c->c<n.toNat:=pM ok ko
 have nrd:∀ u,(rw_ u).Nodup:=λ u=>by rw[erw];exact kK ok ko u
 have few:∀ i,i<=6->(Lr.ways rw_ n.toNat i).length<=279936:=λ i h=>by
  rw[erw]
  exact o8 (iM ok ko n7 i) (o8 (ub9 (by decide) (show i+1<=7 by left)) (by decide))
 obtain⟨g0,g,ws,rfl,hg0,hg,hall,hlw⟩:=bM wk.1
 refine⟨_,(aD (aI (i:=2) nd rfl (ueu rfl) (aM O__law_beside hr rfl (aA (pv 0) (aA (pv 1) aC)))) (aD (eY (i:=3) (N:=["web","keep","beside","ways","found","size","longer","way"]) (sc0:=defScope s__law_all_rings) (own:=["start"]) (fr:=[]) (js:=[]) rfl (cM rfl T.z_range (aA (aF aP (pv 0) aB (λ _ _=>rfl)) aC)) (λ _ _ _ _=>(aH (i:=0) (by show uai [("start":Str)];decide +kernel) rfl (j7 rfl))) (λ _ _ _ _=>cP) (λ _ _ _ _=>(bH (aA (pv 0) aC))) nd rfl (j7 rfl)) (aD (aI (i:=4) nd rfl (j7 rfl) (bK aC)) (aD (bD PassesOwn.never rfl (uY rfl T.z_range (aA aB (aA (aJ bL (aF aP (pv 0) aB (λ _ _=>rfl)) aB) aC))) (aH (i:=5) nd rfl (ueu rfl)) (aD (cQ (cJ z0 ufi ufh kQ (pv 4) (aA (cC (N:=["web","keep","beside","ways","found","size","longer","way"]) (sc0:=defScope s__law_all_rings) (own:=["way"]) (fr:=["size","beside"]) (js:=[5,2]) rfl (bV (pv 3)) (λ _ _ _ _=>(aH (i:=0) (by show uai [("way":Str),("size":Str),("beside":Str)];decide +kernel) rfl (j7 rfl))) (λ _ _ _ _=>(dQ (PW.pt (eM (aN cG (pv 1) aB (nomark _)) (eM (aN dH (aF dB (pv 0) aB (λ _ _=>rfl)) (aF dB (pv 0) (cV cS aB) (λ _ _=>rfl)) (nomark _)) (fI (aN tY (aF dB (pv 0) aB (λ _ _=>rfl)) (aF xC (pv 2) (aF dB (pv 0) (cV cS aB) (λ _ _=>rfl)) (λ _ _=>rfl)) (by with_unfolding_all rfl)))))))) (λ _ _ _ _=>(pv 0))) aC))) (aD (aI (i:=6) nd rfl (j7 rfl) (bK aC)) (aD (bD PassesOwn.never rfl (bV (pv 3)) (aH (i:=7) nd rfl (ueu rfl)) (aE (cQ (cJ z0 ufi ufh kQ (pv 6) (aA (cC (N:=["web","keep","beside","ways","found","size","longer","way"]) (sc0:=defScope s__law_all_rings) (own:=["other"]) (fr:=["way"]) (js:=[7]) rfl (bV (aF aQ (pv 2) (aF aP (pv 7) (cV cS aB) (λ _ _=>rfl)) (λ _ _=>rfl))) (λ _ _ _ _=>(aH (i:=0) (by show uai [("other":Str),("way":Str)];decide +kernel) rfl (j7 rfl))) (λ _ _ _ _=>(dQ (PW.pt (eM (aN cG (pv 0) (aF dB (pv 1) aB (λ _ _=>rfl)) (nomark _)) (fI (aN rG (pv 0) (pv 1) (by with_unfolding_all rfl))))))) (λ _ _ _ _=>(aJ dR (pv 1) (bH (aA (pv 0) aC))))) aC))))) (aE (aI (i:=3) nd rfl (j7 rfl) (pv 6))))))) (aE (aL (pv 4))))))),?_⟩
 refine⟨_,rfl,_,rfl,n,ts,ks,_,_,rfl,wk,λ lb as H1 S1 f1 B1 las=>?_⟩
 rw[← erw] at B1
 refine⟨_,rfl,g0,_,_,_,rfl,rfl,SqT.of (S1 _ _ hg0),rfl,n,rfl,by left,by left,?_⟩
 refine uD (n:=n.toNat) (lo:=0) (λ σ'=>σ'.length=1) (λ i v H=>∃ t,v=.ref t/\H t=some (.tup (natV [i]))) (by left) (by rfl) (λ i v H H' k ⟨t,h1,h2⟩=>⟨t,h1,k _ _ h2⟩) (λ i σ' H' hi s6 sg C hC=>?_) (λ lw0 xs0 H2 hlw0 S2 hH0 lx0 hx0=>?_)
 ·match σ',sg with
  | [o],_ =>
   refine⟨_,rfl,(by show 1<=1000;decide),λ t J S f e=>hC _ _ _ rfl S ⟨t,rfl,?_⟩⟩
   rw[e,Int.zero_add];rfl
 have ia0:IsAll K H2 ((Lr.ways rw_ n.toNat 0).map keepD) xs0:=by
  refine IsAll.of (by rw[lx0];unfold Lr.ways;simp) λ i d v hd hv=>?_
  have hi:i<n.toNat:=by have:=(i3.mp hv).1;left
  obtain⟨t,rfl,e⟩:=hx0 i v hv
  have ed:d=keepD [i]:=by
   unfold Lr.ways at hd
   rw[j3,j3,uaw hi] at hd
   exact (j5 hd).symm
  rw[ed]
  exact fY e
 refine⟨(by show 0<=1000;decide),λ lf H3 S3' flf hlf0=>?_⟩
 refine⟨_,rfl,g0,_,_,_,rfl,rfl,SqT.of (S3' _ _ (S2 _ _ (S1 _ _ hg0))),rfl,_,_,rfl,rfl,?_⟩
 refine⟨1,n+1,rfl,⟨by decide,by decide,by left,by left⟩,?_⟩
 refine dL (lo:=1) (n:=(n+1-1).toNat) (λ i σ J=>∃ (lw:j8)(xs fs:List V)(y5 y6 y7:Option V),σ=[some (.ref g0),some kv,some (.ref lb),some (.ref lw),some (.ref lf),y5,y6,y7]/\Same H2 J/\lw≠lf/\J lw=some (.lst xs)/\IsAll K J ((Lr.ways rw_ n.toNat i).map keepD) xs/\J lf=some (.lst fs)/\IsAll K J ((ringsN rw_ n.toNat i).map keepD) fs) ⟨lw0,xs0,[],none,none,none,rfl,S3',(λ z=>by rw[z,flf] at hH0;cases hH0),S3' _ _ hH0,IsAll.same S3' _ ia0,hlf0,rfl⟩ (λ i σ J hi h=>?_) (λ σ J h=>?_)
 ·obtain⟨lw,xs,fs,y5,y6,y7,rfl,sm0,nlf,hlw',ia,hlf,iaf⟩:=h
  have sm:=S2.trans sm0
  have i5:i<=5:=by left
  obtain⟨W,eW⟩:∃ W,W=Lr.ways rw_ n.toNat i:=⟨_,rfl⟩
  have fewi:=few i (by left)
  have lx:xs.length=W.length:=by rw[ia.length,c6,eW]
  rw[← eW] at ia fewi
  have wof:∀ (j:Nat)(x:V),xs[j]?=some x->∃ p,x=.ref p/\J p=some (.tup (natV (W.getD j [])))/\W[j]?=some (W.getD j [])/\(W.getD j []).length=i+1/\Lr.PW (Adj ts ks) n.toNat (W.getD j []):=λ j x hx=>by
   obtain⟨d,hd,isd⟩:=IsAll.get' ia hx
   have hj:j<W.length:=by have:=(i3.mp hx).1;left
   have ew:W[j]?=some (W.getD j []):=by rw[b8,b6 hj];rfl
   rw[j3,ew] at hd
   have ed:d=keepD (W.getD j []):=(j5 hd).symm
   rw[ed] at isd
   obtain⟨p,rfl,hp⟩:=cL isd
   rw[← bN] at hp
   obtain⟨l1,l2⟩:=(Lr.eC hrm hnn i _).mp (by rw[← eW];exact i9 ew)
   exact⟨p,rfl,hp,ew,l1,l2⟩
  have atW:∀ {w:List Nat}{m:Nat},m<w.length->atI (natV w) (m:Int)=some (.int ((w.getD m 0:Nat):Int)):=λ {w m} hm=>by
   refine bA (m9 _) ?_
   rw[uaq]
   unfold natV
   rw[j3,b8,b6 hm];rfl
  have at9:∀ {w:List Nat},w≠[]->atI (natV w) (-1)=some (.int ((w.getLast?.getD 0:Nat):Int)):=λ {w} hw=>by
   have pos:=uc9.mpr hw
   have len:(natV w).length=w.length:=by unfold natV;rw[c6]
   unfold atI ixN
   rw[uf8 (by left),uf7 (by rw[len];left),Option.bind_some,len]
   have e:(-1+((w.length:Nat):Int)).toNat=w.length-1:=by left
   rw[e]
   unfold natV
   rw[j3,List.getLast?_eq_getElem?,b6 (by left)];rfl
  have lastn:∀ {w:List Nat},w≠[]->(∀ v∈w,v<n.toNat)->w.getLast?.getD 0<n.toNat:=λ {w} hw h=>by
   have e:w.getLast?=some (w.getLast hw):=ue3 hw
   rw[e]
   exact h _ (List.getLast_mem hw)
  refine⟨_,rfl,.inl ⟨rfl,_,SqL.of hlf⟩,?_⟩
  refine⟨_,rfl,lw,rfl,⟨_,SqL.of hlw'⟩,?_⟩
  refine uC hlw' (λ σ'=>∃ o,σ'=[o,some (.int (1+(i:Int))),some (.ref lb)]) (λ j=>if Lr.isRing rw_ (W.getD j [])=true then xs[j]? else none) (by left) (by exact⟨none,rfl⟩) (λ j x σ' H' hx s3 sg C L hC hL=>?_) (λ lr J2 hlr S3 hH=>?_)
  ·obtain⟨o,rfl⟩:=sg
   obtain⟨p,rfl,hp,ew,lw_,pw⟩:=wof j x hx
   obtain⟨w,eww⟩:∃ w,w=W.getD j []:=⟨_,rfl⟩
   rw[← eww] at hp lw_ pw hC hL
   have hp':=s3 _ _ hp
   have Bx:=(B1.same sm).same s3
   refine⟨_,rfl,_,_,rfl,rfl,_,rfl,?_⟩
   by_cases c1:2<=i
   ·rw[uf3 (show (1+(i:Int))>2 by left)]
    refine iteT ?_
    refine⟨_,rfl,p,_,_,_,rfl,rfl,SqT.of hp',atW (m:=1) (by left),_,rfl,_,rfl,p,_,_,_,rfl,rfl,SqT.of hp',at9 pw.ne,_,_,rfl,rfl,_,rfl,?_⟩
    have w1:w.getD 1 0<w.getLast?.getD 0\/¬ w.getD 1 0<w.getLast?.getD 0:=Classical.em _
    have ln:=lastn pw.ne pw.lt
    rcases w1 with w1 | w1
    ·rw[uf3 (show ((w.getD 1 0:Nat):Int)<((w.getLast?.getD 0:Nat):Int) by left)]
     refine iteT ?_
     obtain⟨a1,i1,v1,r1⟩:=Bx.ix (i:=w.getLast?.getD 0) (by left)
     refine⟨_,rfl,p,_,_,_,rfl,rfl,SqT.of hp',atW (m:=0) (by left),_,rfl,_,rfl,_,rfl,p,_,_,_,rfl,rfl,SqT.of hp',at9 pw.ne,lb,_,_,_,rfl,rfl,SqL.of Bx.top,bA (m9 _) v1,a1,_,rfl,.inl (SqL.of r1),rfl,mY _,_,rfl,?_⟩
     show if inV (V.int ((w.getD 0 0:Nat):Int)) (natV (rw_ (w.getLast?.getD 0)))=true then _ else _
     rw[oE (m9 _),uaq]
     have ei:Lr.isRing rw_ w=decide (w.getD 0 0∈rw_ (w.getLast?.getD 0)):=by
      unfold Lr.isRing
      rw[uf3 (show 2<w.length by left),uf3 w1];rfl
     rw[← ei]
     refine ite2 (λ c=>⟨_,rfl,hC _ _ _ ⟨_,rfl⟩ (Same.refl _) ?_⟩) (λ c=>hL _ _ ⟨_,rfl⟩ (Same.refl _) ?_)
     ·rw[uf7 c];exact hx
     ·rw[uf8 c]
    ·rw[uf5 (show ¬ ((w.getD 1 0:Nat):Int)<((w.getLast?.getD 0:Nat):Int) by left)]
     refine iteF (iteF (hL _ _ ⟨_,rfl⟩ (Same.refl _) ?_))
     rw[uf8]
     unfold Lr.isRing
     rw[uf5 w1,udj,uee];exact i6
   ·rw[uf5 (show ¬ (1+(i:Int))>2 by left)]
    refine iteF (iteF (hL _ _ ⟨_,rfl⟩ (Same.refl _) ?_))
    rw[uf8]
    unfold Lr.isRing
    rw[uf5 (show ¬ 2<w.length by left),udj];exact i6
  obtain⟨R,eR⟩:∃ R,R=W.filter (Lr.isRing rw_):=⟨_,rfl⟩
  have iaR:IsAll K J2 (R.map keepD) ((c9 xs.length).filterMap λ j=>if Lr.isRing rw_ (W.getD j [])=true then xs[j]? else none):=by rw[eR];exact nQ (IsAll.same S3 _ ia)
  obtain⟨rs,ers⟩:∃ rs,rs=(c9 xs.length).filterMap λ j=>if Lr.isRing rw_ (W.getD j [])=true then xs[j]? else none:=⟨_,rfl⟩
  rw[← ers] at iaR hH
  have lrs:rs.length=R.length:=by rw[iaR.length,c6]
  have lfs:fs.length<=279936:=by
   rw[iaf.length,c6,erw]
   exact o8 (iG ok ko n7 i (by left)) (by left)
  have lR:R.length<=279936:=by rw[eR];exact o8 (ucz _ _) fewi
  refine⟨lf,lr,fs,rs,rfl,rfl,S3 _ _ hlf,hH,?_,λ J2b b2 e2=>?_⟩
  ·exact o8 (show fs.length+rs.length<=279936+279936 by left) (by decide)
  have hlf2:=S3 _ _ hlf
  have smb:Same H2 J2b:=λ b o e=>b2 _ _ (aV e flf) (S3 _ _ (sm0 _ _ e))
  have hlwb:J2b lw=some (.lst xs):=b2 _ _ nlf (S3 _ _ hlw')
  have iab:IsAll K J2b (W.map keepD) xs:=IsAll.but b2 hlf2 _ (fU _) (IsAll.same S3 _ ia)
  have iafb:IsAll K J2b ((ringsN rw_ n.toNat (i+1)).map keepD) (fs++rs):=by
   rw[kL,← eW,← eR]
   refine IsAll.but b2 hlf2 _ (fU _) ?_
   rw[o3]
   exact IsAll.append (IsAll.same S3 _ iaf) iaR
  have wofb:∀ (j:Nat)(x:V),xs[j]?=some x->∃ p,x=.ref p/\J2b p=some (.tup (natV (W.getD j [])))/\W[j]?=some (W.getD j [])/\(W.getD j []).length=i+1/\Lr.PW (Adj ts ks) n.toNat (W.getD j []):=λ j x hx=>by
   obtain⟨p,h1,h2,h3⟩:=wof j x hx
   exact⟨p,h1,b2 _ _ (λ z=>by rw[z,hlf] at h2;cases h2) (S3 _ _ h2),h3⟩
  have Bb:=B1.same (S2.trans smb)
  refine⟨(by show 0<=1000;decide),λ ll J3 S4 f4 e4=>?_⟩
  have hlw3:=S4 _ _ hlwb
  refine⟨_,rfl,lw,rfl,⟨_,SqL.of hlw3⟩,?_⟩
  refine dP (xs:=xs) (λ i' σ J'=>∃ (zs:List V)(y7:Option V),σ=[some (.ref g0),some kv,some (.ref lb),some (.ref lw),some (.ref lf),some (.int (1+(i:Int))),some (.ref ll),y7]/\Same J2b J'/\J' ll=some (.lst zs)/\IsAll K J' (((W.take i').flatMap (Lr.stepW rw_)).map keepD) zs) ⟨[],_,rfl,S4,e4,rfl⟩ (λ i' σ J' _ h=>?_) (λ i' x σ J' hx h=>?_) (λ σ J' h=>?_)
  ·obtain⟨zs,y7,rfl,sm2,_⟩:=h
   exact SqL.of (sm2 _ _ hlwb)
  ·obtain⟨zs,y7,rfl,sm2,hll,iaz⟩:=h
   obtain⟨p,rfl,hp,ew,lw_,pw⟩:=wofb i' x hx
   obtain⟨w,eww⟩:∃ w,w=W.getD i' []:=⟨_,rfl⟩
   rw[← eww] at hp lw_ pw ew
   have hp2:=sm2 _ _ hp
   have Bx:=Bb.same sm2
   have ln:=lastn pw.ne pw.lt
   obtain⟨a1,i1,v1,r1⟩:=Bx.ix (i:=w.getLast?.getD 0) (by left)
   obtain⟨rw1,er1⟩:∃ r,r=rw_ (w.getLast?.getD 0):=⟨_,rfl⟩
   have lr1:rw1.length<=24:=by
    have:=Peel.dZ n.toNat rw1 (by rw[er1];exact nrd _) λ c hc=>hnn _ _ ((hrm (w.getLast?.getD 0) c).mp (by rw[← er1];exact hc))
    left
   rw[← er1] at r1
   have lrV:(natV rw1).length=rw1.length:=by unfold natV;rw[c6]
   have lwV:(natV w).length=w.length:=by unfold natV;rw[c6]
   refine⟨_,rfl,.inl ⟨rfl,_,SqL.of hll⟩,?_⟩
   refine⟨_,rfl,_,rfl,_,rfl,p,_,_,_,rfl,rfl,SqT.of hp2,at9 pw.ne,lb,_,_,_,rfl,rfl,SqL.of Bx.top,bA (m9 _) v1,a1,rfl,⟨_,SqL.of r1⟩,?_⟩
   refine iD (K':=K) r1 (λ σ'=>∃ o,σ'=[o,some (.ref p)]) (λ j=>if (decide (w.headD 0<rw1.getD j 0)&&!decide (rw1.getD j 0∈w))=true then some (keepD (w++[rw1.getD j 0])) else none) (λ j d e=>?_) (by left) (by exact⟨none,rfl⟩) (λ j x σ' H' hx2 s5 sg C L hC hL=>?_) (λ L ys J4 hL S5 hH4 ly ia4=>?_)
   ·by_cases z:(decide (w.headD 0<rw1.getD j 0)&&!decide (rw1.getD j 0∈w))=true
    ·rw[uf7 z] at e
     rw[← j5 e]
     exact fD _
    ·rw[uf8 z] at e;cases e
   ·obtain⟨o,rfl⟩:=sg
    obtain⟨c,hc,rfl⟩:=bQ hx2
    have ec:rw1.getD j 0=c:=by rw[b8,hc];rfl
    rw[ec] at hC hL
    have hp5:=s5 _ _ hp2
    have e0:w.getD 0 0=w.headD 0:=by cases w with
     | nil=>rfl
     | cons _ _=>rfl
    refine⟨_,rfl,_,rfl,p,_,_,_,rfl,rfl,SqT.of hp5,atW (m:=0) (by left),_,_,rfl,rfl,_,rfl,?_⟩
    rw[e0]
    by_cases c1:w.headD 0<c
    ·rw[uf3 (show ((c:Nat):Int)>((w.headD 0:Nat):Int) by left)]
     refine iteT ⟨_,rfl,_,rfl,p,_,rfl,.inr (SqT.of hp5),rfl,mY _,_,rfl,?_⟩
     show if (!inV (V.int (c:Int)) (natV w))=true then _ else _
     rw[oE (m9 _),uaq]
     by_cases c2:c∈w
     ·rw[uf3 c2]
      refine iteF (hL _ _ ⟨_,rfl⟩ (Same.refl _) ?_)
      rw[uf8 (by rw[uf3 c2,Bool.not_true,uee];exact i6)]
     ·rw[uf5 c2]
      refine iteT ⟨_,rfl,_,rfl,(by show 1<=1000;decide),λ t5 J5 S6 f6 e6=>⟨p,t5,_,_,rfl,rfl,S6 _ _ hp5,e6,?_,λ t6 J6 S7 e7=>hC _ _ (keepD (w++[c])) _ ⟨_,rfl⟩ (S6.trans S7) ?_ (fY ?_)⟩⟩
      ·exact o8 (show _<=1000 by rw[lwV];show w.length+1<=1000;left) (by decide)
      ·rw[uf7 (by rw[uf3 c1,uf5 c2];rfl)]
      ·rw[e7];unfold natV;rw[o3];rfl
    ·rw[uf5 (show ¬ ((c:Nat):Int)>((w.headD 0:Nat):Int) by left)]
     refine iteF (iteF (hL _ _ ⟨_,rfl⟩ (Same.refl _) ?_))
     rw[uf8 (by rw[uf5 c1,udj];exact i6)]
   have est:(c9 (natV rw1).length).filterMap (λ j=>if (decide (w.headD 0<rw1.getD j 0)&&!decide (rw1.getD j 0∈w))=true then some (keepD (w++[rw1.getD j 0])) else none)=(Lr.stepW rw_ w).map keepD:=by
    rw[lrV,lH (λ o=>if (decide (w.headD 0<o)&&!decide (o∈w))=true then some (keepD (w++[o])) else none) 0 rw1,jG]
    unfold Lr.stepW
    rw[ubd,← er1];rfl
   rw[est] at ia4
   have lzs:zs.length<=279936*6:=by
    rw[iaz.length,c6,erw]
    have h1:=iW ok ko n7 (W.take i')
    have h2:(W.take i').length<=279936:=by rw[uag];left
    exact o8 h1 (Nat.mul_le_mul_right _ h2)
   have hll4:=S5 _ _ hll
   refine⟨ll,L,zs,ys,rfl,rfl,hll4,hH4,?_,λ J5 b5 e5=>?_⟩
   ·exact o8 (show zs.length+ys.length<=279936*6+24 by left) (by decide)
   have tkw:W.take (i'+1)=W.take i'++[w]:=by rw[ub2,ew];rfl
   refine⟨zs++ys,_,rfl,λ b o e=>b5 _ _ (aV e f4) (S5 _ _ (sm2 _ _ e)),e5,?_⟩
   rw[tkw,List.flatMap_append,o3]
   have:[w].flatMap (Lr.stepW rw_)=Lr.stepW rw_ w:=by simp
   rw[this]
   refine IsAll.but b5 hll4 _ ?_ (IsAll.append (IsAll.same S5 _ iaz) ia4)
   rw[← o3]
   exact fU _
  ·obtain⟨zs,y7,rfl,sm2,hll,iaz⟩:=h
   rw[lx,ubk] at iaz
   have ew:(Lr.ways rw_ n.toNat (i+1))=W.flatMap (Lr.stepW rw_):=by rw[eW];rfl
   exact⟨_,rfl,ll,zs,fs++rs,_,_,_,rfl,smb.trans sm2,(λ z=>by rw[z,e2] at f4;cases f4),hll,by rw[ew];exact iaz,sm2 _ _ e2,IsAll.same sm2 _ iafb⟩
 ·obtain⟨lw,xs,fs,y5,y6,y7,rfl,sm0,nlf,hlw',ia,hlf,iaf⟩:=h
  have en:(n+1-1).toNat=n.toNat:=by left
  rw[en] at iaf
  refine⟨_,rfl,q lf (ringsN rw_ n.toNat n.toNat) fs J (S1.trans (S2.trans sm0)) hlf iaf ?_ λ W=>?_⟩
  ·rw[erw]
   exact o8 (iG ok ko n7 n.toNat (by left)) (by left)
  ·unfold ringsN
   rw[uc3]
   constructor
   ·rintro ⟨j,hj,hW⟩
    obtain⟨h',tl',e,_,r',cn⟩:=(Lr.mM pL hrm hnn j W).mp (w8.mp hW)
    exact⟨h',tl',e,r',cn⟩
   ·rintro ⟨h',tl',rfl,r',cn⟩
    have mm:=(Lr.mM pL hrm hnn tl'.length (h'::tl')).mpr ⟨h',tl',rfl,rfl,r',cn⟩
    obtain⟨_,pw⟩:=(Lr.eC hrm hnn _ _).mp mm.1
    have lb:=Peel.dZ n.toNat _ pw.nd pw.lt
    exact⟨tl'.length,o9.mpr (by rw[k9] at lb;left),w8.mpr mm⟩
noncomputable def spW (ts:List Tie)(ks:List Nat)(k:Nat):Option (List Nat):=@dite _ (∃ ws,Far.MinW (arcsB ts (but ks k)) (eA ts k) (eB ts k) ws) (Classical.propDecidable _) (λ h=>some (Classical.choose h)) (λ _=>none)
theorem mJ {n:Int}{ts:List Tie}{ks:List Nat}(ok:WebOk n ts)(ko:KeepOk ts.length ks){k:Nat}{ws:List Nat}(h:Far.MinW (arcsB ts (but ks k)) (eA ts k) (eB ts k) ws):spW ts ks k=some ws:=by
 have ex:∃ ws,Far.MinW (arcsB ts (but ks k)) (eA ts k) (eB ts k) ws:=⟨ws,h⟩
 unfold spW
 rw[dif_pos ex]
 exact congrArg some (h.unique (bB ok (bI ko)) (Classical.choose_spec ex))
theorem jM {ts:List Tie}{ks:List Nat}{k:Nat}{ws:List Nat}(e:spW ts ks k=some ws):Far.MinW (arcsB ts (but ks k)) (eA ts k) (eB ts k) ws:=by
 unfold spW at e
 split at e
 ·rename_i h
  have:=Classical.choose_spec h
  rw[j5 e] at this
  exact this
 ·cases e
theorem wO {ts:List Tie}{ks:List Nat}{k:Nat}(h:∀ ws,¬ Far.MinW (arcsB ts (but ks k)) (eA ts k) (eB ts k) ws):spW ts ks k=none:=by
 cases e:spW ts ks k with
 | none=>rfl
 | some ws=>exact absurd (jM e) (h ws)
noncomputable def aR (ws:List Nat):List Nat:=@dite _ (∃ W,∃ h tl,W=h::tl/\Far.RingOf ws h tl/\Turn h tl) (Classical.propDecidable _) (λ h=>Classical.choose h) (λ _=>[])
theorem jY {ws:List Nat}(nd:ws.Nodup)(l3:3<=ws.length){h:Nat}{tl:List Nat}(ro:Far.RingOf ws h tl)(tu:Turn h tl):aR ws=h::tl:=by
 have ex:∃ W,∃ h tl,W=h::tl/\Far.RingOf ws h tl/\Turn h tl:=⟨_,h,tl,rfl,ro,tu⟩
 unfold aR
 rw[dif_pos ex]
 obtain⟨h',tl',e,r',t'⟩:=Classical.choose_spec ex
 obtain⟨e1,e2⟩:=wS nd l3 r' t' ro tu
 rw[e,e1,e2]
theorem uU {ws:List Nat}(nd:ws.Nodup)(l3:3<=ws.length):∃ h tl,Far.RingOf ws h tl/\Turn h tl:=by
 obtain⟨h,hm,hl⟩:=Lr.iU (l:=ws) (λ z=>by rw[z] at l3;simp at l3)
 obtain⟨p,q,e⟩:=udf hm
 obtain⟨X,eX⟩:∃ X,X=q++p:=⟨_,rfl⟩
 have mX:∀ x∈X,h<=x:=λ x hx=>hl x (by
  rw[eX] at hx
  rw[e]
  rcases l8.mp hx with z | z
  ·exact l4 _ (j4 _ z)
  ·exact r8 _ z)
 have lX:2<=X.length:=by rw[e] at l3;rw[eX];simp only [d6,k9] at l3 ⊢;left
 obtain⟨u,m,v,e2⟩:=Lr.eE lX
 by_cases c:u<=v
 ·refine⟨h,X,⟨p,q,e,.inl eX⟩,mX,λ u' v' r r' z1 z2=>?_⟩
  have h1:u'=u:=by rw[e2] at z1;injection z1 with z _;exact z.symm
  have h2:v'=v:=by
   have:(u::m)++[v]=r'++[v']:=by rw[← z2,e2];rfl
   obtain⟨_,y⟩:=uaf this rfl
   cases y;rfl
  left
 ·refine⟨h,X.reverse,⟨p,q,e,.inr (by rw[eX])⟩,λ x hx=>mX x (ua4.mp hx),λ u' v' r r' z1 z2=>?_⟩
  have er:X.reverse=v::(m.reverse++[u]):=by rw[e2];simp
  have h1:u'=v:=by rw[er] at z1;injection z1 with z _;exact z.symm
  have h2:v'=u:=by
   have:(v::m.reverse)++[u]=r'++[v']:=by rw[← z2,er];rfl
   obtain⟨_,y⟩:=uaf this rfl
   cases y;rfl
  left
def spClosedS (K:a9):Sp:=λ vs H Q _=>∃ (n:Int)(ts:List Tie)(ks som:List Nat)(wv kv:V)(sp:j8),vs=[wv,kv,.ref sp]/\WK K H n ts ks wv kv/\H sp=some (.tup (natV som))/\som.length<=60/\(∀ k∈som,k∈ks)/\∀ l ys H',Same H H'->H' l=some (.lst ys)->IsAll K H' ((som.filterMap λ k=>(spW ts ks k).map aR).map keepD) ys->(∀ W∈som.filterMap (λ k=>(spW ts ks k).map aR),∃ k∈ks,∃ ws h tl,spW ts ks k=some ws/\W=h::tl/\Far.RingOf ws h tl/\Turn h tl)->Q (.ref l) H'
theorem qE (T:Bi mg)(D:DefOk K mg "_law_closed" s__law_closed ["web","keep","some"])(O__law_spare:‹4› "_law_spare" ["web","keep","tie"] (spSpareM K))(O__law_as_ring:‹4› "_law_as_ring" ["way"] (spAsRing K)):‹5› "_law_closed" ["web","keep","some"] (spClosedS K):=by
 exists 4,sc__law_closed
 obtain⟨n,ts,ks,som,wv,kv,sp,rfl,wk,hsp,l60,hin,q⟩:=h
 have ok:=wk.2.1
 have ko:=wk.2.2.2
 have lenN:∀ W:List Nat,(natV W).length=W.length:=λ W=>by unfold natV;rw[c6]
 refine⟨_,(aD (eY (i:=3) (N:=["web","keep","some","ways"]) (sc0:=defScope s__law_closed) (own:=["number"]) (fr:=["web","keep"]) (js:=[0,1]) rfl (cT (pv 2)) (λ _ _ _ _=>(aH (i:=0) (by show uai [("number":Str),("web":Str),("keep":Str)];decide +kernel) rfl (j7 rfl))) (λ _ _ _ _=>cP) (λ _ _ _ _=>(aM O__law_spare hr rfl (aA (pv 1) (aA (pv 2) (aA (pv 0) aC))))) nd rfl (j7 rfl)) (aE (aL (cC (N:=["web","keep","some","ways"]) (sc0:=defScope s__law_closed) (own:=["way"]) (fr:=[]) (js:=[]) rfl (bV (pv 3)) (λ _ _ _ _=>(aH (i:=0) (by show uai [("way":Str)];decide +kernel) rfl (j7 rfl))) (λ _ _ _ _=>(dQ (aN jH (pv 0) bC (nomark _)))) (λ _ _ _ _=>(aM O__law_as_ring hr rfl (aA (pv 0) aC))))))),?_⟩
 refine⟨_,rfl,sp,rfl,⟨_,SqT.of hsp⟩,?_⟩
 refine xM hsp (λ σ'=>∃ o,σ'=[o,some wv,some kv]) (λ i v J=>(spW ts ks (som.getD i 0)=none/\v=.non)\/∃ t ws,spW ts ks (som.getD i 0)=some ws/\v=.ref t/\J t=some (.tup (natV ws))/\3<=ws.length/\ws.length<=24/\ws.Nodup) (by rw[lenN];left) (by exact⟨none,rfl⟩) (λ i v J J' k h=>?_) (λ i x σ' H' hx s2 sg C hC=>?_) (λ L ys J1 hL S1 hH hly hys=>?_)
 ·rcases h with e | ⟨t,ws,e1,e,r,rest⟩
  ·exact .inl e
  ·exact .inr ⟨t,ws,e1,e,k _ _ r,rest⟩
 ·obtain⟨o,rfl⟩:=sg
  obtain⟨k,hk,rfl⟩:=bQ hx
  have hks:=hin k (i9 hk)
  have ek:som.getD i 0=k:=by rw[b8,hk];rfl
  refine⟨_,rfl,_,rfl,_,rfl,n,ts,ks,wv,kv,k,rfl,wk.same s2,ko.2 k hks,λ v H5 s5 w5=>hC _ _ _ ⟨_,rfl⟩ s5 ?_⟩
  rw[ek]
  rcases w5 with ⟨e,d⟩ | ⟨t,ws,x,e,ht,l24,mw,_⟩
  ·refine .inl ⟨wO λ ws m=>?_,e⟩
   obtain⟨S,x,y,r,_⟩:=m
   exact pN ok ko hks d r.walkC
  ·exact .inr ⟨t,ws,mJ ok ko mw,e,ht,eU ok ko hks mw,l24,mw.nodup⟩
 rw[lenN] at hly
 refine⟨_,rfl,L,rfl,⟨_,SqL.of hH⟩,?_⟩
 refine iD (K':=K) hH (λ σ'=>∃ o,σ'=[o]) (λ j=>(spW ts ks (som.getD j 0)).map λ ws=>keepD (aR ws)) (λ j d e=>?_) (by left) (by exact⟨none,rfl⟩) (λ i x σ' H' hx s2 sg C L hC hL=>?_) (λ L2 zs J2 hL2 S2 hH2 hlz hzs=>?_)
 ·rw[uad] at e
  obtain⟨ws,_,rfl⟩:=e
  exact fD _
 ·obtain⟨o,rfl⟩:=sg
  rcases hys i x hx with ⟨e0,rfl⟩ | ⟨t,ws,e0,rfl,ht,l3,l24,ndw⟩
  ·exact⟨_,rfl,rfl,_,rfl,iteF (hL _ _ ⟨_,rfl⟩ (Same.refl _) (by rw[e0];rfl))⟩
  ·refine⟨_,rfl,rfl,_,rfl,iteT ⟨_,rfl,t,ws,rfl,s2 _ _ ht,l3,l24,ndw,λ p h tl H5 s5 e5 ro tu=>hC _ _ (keepD (aR ws)) _ ⟨_,rfl⟩ s5 (by rw[e0];rfl) ?_⟩⟩
   rw[jY ndw l3 ro tu]
   exact fY e5
 have eS:(c9 ys.length).filterMap (λ j=>(spW ts ks (som.getD j 0)).map λ ws=>keepD (aR ws))=(som.filterMap λ k=>(spW ts ks k).map aR).map keepD:=by
  rw[hly,lH (λ k=>(spW ts ks k).map λ ws=>keepD (aR ws)) 0 som,List.map_filterMap]
  congr 1
  funext k
  cases spW ts ks k <;> rfl
 rw[eS] at hzs
 refine q L2 zs J2 (S1.trans S2) hH2 hzs λ W hW=>?_
 obtain⟨k,hk,e⟩:=uco.mp hW
 rw[uad] at e
 obtain⟨ws,e1,rfl⟩:=e
 have hks:=hin k hk
 have mw:=jM e1
 obtain⟨S,x,y,r,_⟩:=id mw
 have l3:=eU ok ko hks mw
 obtain⟨h,tl,ro,tu⟩:=uU mw.nodup l3
 exact⟨k,hks,ws,h,tl,e1,jY mw.nodup l3 ro tu,ro,tu⟩
def spHeavy (K:a9):Sp:=λ vs H Q _=>∃ (n:Int)(ts:List Tie)(wv:V)(t:j8)(W:List Nat),vs=[wv,.ref t]/\Is K H (webD n ts) wv/\WebOk n ts/\H t=some (.tup (natV W))/\2<=W.length/\W.length<=24/\linked ts (W++W.take 1)/\∀ v H',Same H H'->Is K H' (hevD (keyW ts W)) v->Q v H'
def pairsW (W:List Nat):List uac:=(c9 W.length).map λ i=>.tuple (([min ((W.getD i 0:Nat):Int) (((W++W.take 1).getD (i+1) 0:Nat):Int),max ((W.getD i 0:Nat):Int) (((W++W.take 1).getD (i+1) 0:Nat):Int)]:List Int).map .int)
theorem wV {n:Int}{ts:List Tie}(ok:WebOk n ts){W:List Nat}(l2:2<=W.length)(lk:linked ts (W++W.take 1)){k:Nat}(hk:k<ts.length):((pairsW W).any λ d=>uav d (.tuple (([(tieAt ts k).1,(tieAt ts k).2.1]:List Int).map .int)))=decide (k∈alongN ts (W++W.take 1)):=by
 have t1:(W.take 1).length=1:=by rw[uag];left
 have gl:∀ i,i<W.length->(W++W.take 1).getD i 0=W.getD i 0:=λ i hi=>by
  rw[b8,uab hi,b8]
 have key:∀ i,i<W.length->∃ j,tbN ts (W.getD i 0) ((W++W.take 1).getD (i+1) 0)=some j/\j<ts.length/\(alongN ts (W++W.take 1))[i]?=some j:=λ i hi=>by
  have h1:(W++W.take 1)[i]?=some (W.getD i 0):=by rw[← gl i hi,b8,b6 (by rw[d6];left)];rfl
  have h2:(W++W.take 1)[i+1]?=some ((W++W.take 1).getD (i+1) 0):=by rw[b8,b6 (by rw[d6];left)];rfl
  obtain⟨j,e,hj⟩:=fX lk h1 h2
  exact⟨j,e,hj,xT h1 h2 e⟩
 rw[ubm,decide_eq_true_iff,udu]
 constructor
 ·rintro ⟨d,hd,e⟩
  obtain⟨i,hi,rfl⟩:=ua5.mp hd
  have hi:=o9.mp hi
  obtain⟨j,ej,hj,ea⟩:=key i hi
  rw[iR,r6,decide_eq_true_iff,decide_eq_true_iff] at e
  have b1:isTB ts (W.getD i 0) ((W++W.take 1).getD (i+1) 0) k=true:=by
   unfold isTB
   rw[e.1,e.2,uf3 rfl,uf3 rfl];rfl
  have:=yD ok ej k hk b1
  rw[this]
  exact i9 ea
 ·intro h
  obtain⟨i,hi,e⟩:=ua9 h
  have hi':i<W.length:=by rw[wE,d6] at hi;left
  obtain⟨j,ej,hj,ea⟩:=key i hi'
  rw[b6 hi,e] at ea
  cases ea
  obtain⟨e1,e2⟩:=jD ej
  refine⟨_,ua5.mpr ⟨i,o9.mpr hi',rfl⟩,?_⟩
  rw[iR,e1,e2,uf3 rfl,uf3 rfl];rfl
theorem rM (T:Bi mg)(D:DefOk K mg "_law_heavy" s__law_heavy ["web","ring"]):‹1› "_law_heavy" ["web","ring"] (spHeavy K):=by
 exists 0,sc__law_heavy
 obtain⟨n,ts,wv,t,W,rfl,isw,ok,ht,l2,l24,lk,q⟩:=h
 have units:∀ {x:Nat},x<=3->(A.deeper (envOfC "_law_heavy" (defScope s__law_heavy) s.heap.objs.size f cdv)).units+x<cLine:=λ {x} hu=>by have:=hr.units;left
 have few60:=ok.few
 obtain⟨g0,g,tws,rfl,hg0,hg,hall,hlw⟩:=bM isw
 have lenN:∀ W:List Nat,(natV W).length=W.length:=λ W=>by unfold natV;rw[c6]
 have t1:(W.take 1).length=1:=by rw[uag];left
 have c1:cutV (natV W) (some 1) none=natV (W.drop 1):=by
  unfold cutV
  rw[show HT.sIx (natV W).length 0 (some 1)=min 1 (natV W).length from HT.dA _ _ 1,HT.cY,ua7 (by rw[p9,lenN];left)]
  unfold natV
  rw[c6,ubo (by left),uep]
 have c2:cutV (natV W) none (some 1)=natV (W.take 1):=by
  unfold cutV
  rw[HT.cY,show HT.sIx (natV W).length (natV W).length (some 1)=min 1 (natV W).length from HT.dA _ _ 1]
  unfold natV
  rw[c6,ubo (by left),ud9,ubu,uen]
 refine⟨_,(aD (aI (i:=2) nd rfl (ueu rfl) (cC (N:=["web","ring","along","ties"]) (sc0:=defScope s__law_heavy) (own:=["one","other"]) (fr:=[]) (js:=[]) rfl (gS true true rfl T.z_zip (aA (pv 1) (aA (aJ dR (bZ cB (pv 1) (bT aB) bU) (bZ cB (pv 1) bU (bT aB))) aC))) (λ _ _ _ _=>(fJ (n:=2) rfl (aO (aH (i:=0) (by show uai [("one":Str),("other":Str)];decide +kernel) rfl (j7 rfl)) (aO (aH (i:=1) (by show uai [("one":Str),("other":Str)];decide +kernel) rfl (j7 rfl)) bG)))) (λ _ _ _ _=>cP) (λ _ _ _ _=>(bH (aA (aU (fZ rfl) rfl T.z_min (by symm) (aA (pv 0) (aA (pv 1) aC))) (aA (aU (gB rfl) rfl T.z_max (by symm) (aA (pv 0) (aA (pv 1) aC))) aC)))))) (aD (eY (i:=3) (N:=["web","ring","along","ties"]) (sc0:=defScope s__law_heavy) (own:=["number","tie"]) (fr:=["along"]) (js:=[2]) rfl (nX true rfl T.z_enumerate (aA (aF aP (pv 0) aB (λ _ _=>rfl)) aC)) (λ _ _ _ _=>(fJ (n:=2) rfl (aO (aH (i:=0) (by show uai [("number":Str),("tie":Str),("along":Str)];decide +kernel) rfl (j7 rfl)) (aO (aH (i:=1) (by show uai [("number":Str),("tie":Str),("along":Str)];decide +kernel) rfl (j7 rfl)) bG)))) (λ _ _ _ _=>(dQ (aN yM (bZ cB (pv 1) bU (bT aB)) (pv 2) (by with_unfolding_all rfl)))) (λ _ _ _ _=>(pv 0)) nd rfl (j7 rfl)) (aE (aL (bH (aA (aU (vW rfl) rfl T.z_sum (by symm) (aA (cC (N:=["web","ring","along","ties"]) (sc0:=defScope s__law_heavy) (own:=["number"]) (fr:=["web"]) (js:=[0]) rfl (bV (pv 3)) (λ _ _ _ _=>(aH (i:=0) (by show uai [("number":Str),("web":Str)];decide +kernel) rfl (j7 rfl))) (λ _ _ _ _=>cP) (λ _ _ _ _=>(aF dB (aF dB (aF dB (pv 1) aB (λ _ _=>rfl)) (pv 0) (λ _ _=>rfl)) aB (λ _ _=>rfl)))) aC)) (aA (bY eQ rfl T.z_tuple (by symm) (aA (lJ yG (pv 3) bU (cV cS aB)) aC)) aC))))))),?_⟩
 refine⟨_,rfl,_,rfl,_,rfl,t,_,rfl,ht,λ p1 J1 S1 e1=>?_⟩
 refine⟨_,rfl,_,rfl,t,_,rfl,S1 _ _ ht,λ p2 J2 S2 e2=>?_⟩
 rw[c1] at e1
 rw[c2] at e2
 refine⟨p1,p2,_,_,rfl,rfl,S2 _ _ e1,e2,?_,λ p3 J3 S3 e3=>?_⟩
 ·exact o8 (show _<=1000 by rw[lenN,lenN,p9];left) (by decide)
 have e3':J3 p3=some (.tup (natV (W.drop 1++W.take 1))):=by rw[e3];unfold natV;rw[o3]
 have S13:=S1.trans (S2.trans S3)
 have W1:(W++W.take 1).drop 1=W.drop 1++W.take 1:=by rw[List.drop_append_of_le_length (by left)]
 refine⟨t,p3,rfl,⟨_,SqX.of (t:=true) (S13 _ _ ht)⟩,⟨_,SqX.of (t:=true) e3'⟩,?_⟩
 have lz:(W.drop 1++W.take 1).length=W.length:=by rw[d6,p9];left
 refine iZ (t1:=true) (t2:=true) (xs:=natV W) (zs:=natV (W.drop 1++W.take 1)) (S13 _ _ ht) e3' (λ σ'=>∃ o1 o2,σ'=[o1,o2]) (λ i v J=>∃ a,v=.ref a/\J a=some (.tup (([min ((W.getD i 0:Nat):Int) (((W++W.take 1).getD (i+1) 0:Nat):Int),max ((W.getD i 0:Nat):Int) (((W++W.take 1).getD (i+1) 0:Nat):Int)]:List Int).map V.int))) (by rw[lenN];left) (by exact⟨none,none,rfl⟩) (λ i v J J' k h=>?_) (λ i x z U σ' H' hxi hzi s2 hU sg C hC=>?_) (λ L ys J4 hL S4 hH hly hys=>?_)
 ·obtain⟨a,e,r⟩:=h
  exact⟨a,e,k _ _ r⟩
 ·obtain⟨o1,o2,rfl⟩:=sg
  obtain⟨u,hu,rfl⟩:=bQ hxi
  obtain⟨v,hv,rfl⟩:=bQ hzi
  rw[← W1,ueq,Nat.add_comm] at hv
  have eu:W.getD i 0=u:=by rw[b8,hu];rfl
  have ev:(W++W.take 1).getD (i+1) 0=v:=by rw[b8,hv];rfl
  have eMin:(if (v:Int)<(u:Int) then (v:Int) else u)=min (u:Int) v:=by split <;> left
  have eMax:(if (v:Int)>(u:Int) then (v:Int) else u)=max (u:Int) v:=by split <;> left
  have SU:=aS (o:=.tup [V.int (u:Int),.int (v:Int)]) hU
  refine⟨U,_,rfl,SqT.of aK,rfl,_,_,rfl,_,_,rfl,rfl,_,rfl,_,rfl,_,_,rfl,_,rfl,_,rfl,_,_,rfl,(by show 2<=1000;decide),λ a J5 S5 f5 e5=>hC _ _ _ ⟨_,_,rfl⟩ (SU.trans S5) ⟨a,rfl,?_⟩⟩
  rw[eu,ev,e5,eMin,eMax];rfl
 rw[lenN,lenN,lz,Nat.min_self] at hly
 have S14:=S13.trans S4
 have hA:IsAll K J4 (pairsW W) ys:=by
  refine IsAll.of (by rw[hly];unfold pairsW;rw[c6,p8]) λ i d v hd hv=>?_
  obtain⟨a,rfl,ha⟩:=hys i v hv
  have hi:i<W.length:=by have:=(i3.mp hv).1;left
  unfold pairsW at hd
  rw[j3,uaw hi] at hd
  cases hd
  exact⟨a,_,rfl,ha,IsAll.ints _⟩
 obtain⟨bf,ebf⟩:∃ bf:Nat->Bool,bf=λ k=>decide (k∈alongN ts (W++W.take 1)):=⟨_,rfl⟩
 refine⟨_,rfl,g0,_,_,_,rfl,rfl,SqT.of (S14 _ _ hg0),rfl,g,rfl,⟨tws,SqX.of (S14 _ _ hg)⟩,?_⟩
 refine vT (t:=true) (S14 _ _ hg) (λ σ'=>∃ o1 o2,σ'=[o1,o2,some (.ref L)]) (λ i=>if bf i=true then some (V.int (i:Nat)) else none) (by left) (by exact⟨none,none,rfl⟩) (λ i x U σ' H' hxi s2 hU sg C L' hC hL'=>?_) (λ L2 J5 hL2 S5 hH5=>?_)
 ·obtain⟨o1,o2,rfl⟩:=sg
  have hil:i<ts.length:=by have:=(i3.mp hxi).1;left
  obtain⟨ta,hta,htie⟩:=bR hall hil
  rw[hta] at hxi
  cases hxi
  have SU:=aS (o:=.tup [.int (i:Nat),.ref ta]) hU
  have s3:=(S14.trans s2).trans SU
  have depT:∀ l:List Int,uar (.tuple (l.map .int))<=2:=λ l=>udv (iJ l)
  refine⟨U,_,rfl,SqT.of aK,rfl,_,_,rfl,_,_,rfl,rfl,_,rfl,_,rfl,ta,_,rfl,s3 _ _ htie,λ tb J6 S6 e6=>?_⟩
  have e6':J6 tb=some (.tup (([(tieAt ts i).1,(tieAt ts i).2.1]:List Int).map V.int)):=e6
  have hu2:=depT [(tieAt ts i).1,(tieAt ts i).2.1]
  have sA:=(s2.trans SU).trans S6
  refine⟨_,rfl,L,pairsW W,ys,.tuple (([(tieAt ts i).1,(tieAt ts i).2.1]:List Int).map .int),rfl,sA _ _ hH,IsAll.same sA _ hA,⟨tb,_,rfl,e6',IsAll.ints _⟩,(λ d hd=>?_),cH _,?_,_,rfl,?_⟩
  ·unfold pairsW at hd
   obtain⟨m,_,rfl⟩:=ua5.mp hd
   exact cH _
  ·exact uak (Nat.add_le_add (c8 _) hu2) (units (x:=3) (c8 _))
  have eb:((pairsW W).any λ d=>uav d (.tuple (([(tieAt ts i).1,(tieAt ts i).2.1]:List Int).map .int)))=bf i:=by rw[ebf];exact wV ok l2 lk hil
  rw[eb]
  cases e:bf i with
  | true=>exact iteT ⟨_,rfl,hC _ _ _ ⟨_,_,rfl⟩ (SU.trans S6) (by rw[uf7 e])⟩
  | false=>exact iteF (hL' _ _ ⟨_,_,rfl⟩ (SU.trans S6) (by rw[uf8 (by rw[e];decide)]))
 have eT:(c9 tws.length).filterMap (λ i=>if bf i=true then some (V.int (i:Nat)) else none)=natV (tieL ts W):=by
  rw[hlw]
  unfold tieL natV
  rw[ebf]
  induction c9 ts.length with
  | nil=>rfl
  | cons a r ih =>
   rw[uam,List.filter_cons]
   by_cases c:decide (a∈alongN ts (W++W.take 1))=true
   ·rw[uf7 c,uf7 c,ua1,ih]
   ·rw[uf8 c,uf8 c,ih]
 rw[eT] at hH5
 have S15:=S14.trans S5
 have lT:(tieL ts W).length<=60:=by
  unfold tieL
  have:=ucz (λ k=>decide (k∈alongN ts (W++W.take 1))) (c9 ts.length)
  rw[p8] at this
  left
 refine⟨_,rfl,L2,rfl,⟨_,SqL.of hH5⟩,?_⟩
 refine xN hH5 (λ σ'=>∃ o,σ'=[o,some (.ref g0)]) (λ i x _=>x=V.int (tieAt ts ((tieL ts W).getD i 0)).2.2) (by rw[lenN];left) (by exact⟨none,rfl⟩) (λ _ _ _ _ _ h=>h) (λ i x σ' H' hx s2 sg C hC=>?_) (λ L3 zs J6 hL3 S6 hH6 hlz hzs=>?_)
 ·obtain⟨o,rfl⟩:=sg
  obtain⟨k,hk,rfl⟩:=bQ hx
  have hkm:=i9 hk
  have hkl:k<ts.length:=by unfold tieL at hkm;exact o9.mp (w8.mp hkm).1
  obtain⟨ta,hta,htie⟩:=bR hall hkl
  have s12:=S15.trans s2
  have ek:(tieL ts W).getD i 0=k:=by rw[b8,hk];rfl
  exact⟨_,rfl,g0,_,_,_,rfl,rfl,SqT.of (s12 _ _ hg0),rfl,_,rfl,g,_,_,_,rfl,rfl,SqT.of (s12 _ _ hg),bA (m9 _) hta,ta,_,_,_,rfl,rfl,SqT.of (s12 _ _ htie),rfl,hC _ _ _ ⟨_,rfl⟩ (Same.refl _) (by rw[ek])⟩
 have ez:zs=((tieL ts W).map (tL ts)).map V.int:=by
  refine uba λ i=>?_
  rw[lenN] at hlz
  rw[ubd,j3]
  by_cases hi:i<(tieL ts W).length
  ·have e:zs[i]?=some zs[i]:=b6 (by left)
   rw[e,hzs i _ e,b6 hi,b8,b6 hi];rfl
  ·rw[o7 (by left),o7 (by left)];rfl
 rw[ez] at hH6
 refine⟨L3,_,rfl,hH6,?_⟩
 have S16:=S15.trans S6
 refine⟨_,rfl,_,rfl,rfl,L2,_,0,rfl,S6 _ _ hH5,.inl ⟨rfl,rfl⟩,λ L4 J7 S7 f7 e7=>?_⟩
 refine⟨L4,_,rfl,e7,λ d J8 S8 f8 e8=>⟨(by show 2<=1000;decide),λ p J9 S9 f9 e9=>?_⟩⟩
 have er:((natV (tieL ts W)).drop 0).reverse=(keepI (tieL ts W).reverse).map V.int:=by
  rw[ubu,bN]
  unfold keepI
  rw[← uds,← uds]
 rw[er] at e8
 exact q (.ref p) J9 (S16.trans (S7.trans (S8.trans S9))) ⟨p,_,rfl,e9,_,_,rfl,rfl,_,_,rfl,⟨d,_,rfl,S9 _ _ e8,IsAll.ints _⟩,rfl⟩
theorem brT15 {α β:Sort _}{A T:α->β->Prop}{B:Prop}(main:(∀ x y,A x y->T x y)->B)(tail:∀ x y,A x y->T x y):B:=main tail
def GoodR (ts:List Tie)(ks:List Nat)(RS:List (List Nat)):Prop:=(∀ W∈RS,∃ k ws S x y,LR ts ks k ws S x y/\ringL ws=W)/\((∃ k,k∈ks/\∃ L,Wk ts ks k L)->∃ W0,W0∈RS/\IsSho ts ks W0)
theorem pP {n:Int}{ts:List Tie}{ks:List Nat}(ok:WebOk n ts)(ko:KeepOk ts.length ks){k:Nat}(hk:k∈ks){L:Int}(w:Wk ts ks k L):∃ k ws S x y,FM ts ks k ws S x y:=by
 have t1:=ok.tie _ (aZ (ko.2 k hk)).2
 obtain⟨ws,S,x,y,r,_⟩:=Far.hZ (bB ok (bI (k:=k) ko)) (gY ok ko) (show eA ts k<n.toNat by show (tieAt ts k).1.toNat<_;left) w
 exact zag ok ko _ k ws S x y hk r (uch _)
theorem iV {n:Int}{ts:List Tie}{ks:List Nat}(ok:WebOk n ts)(ko:KeepOk ts.length ks){RS:List (List Nat)}(h:∀ W,W∈RS↔∃ h tl,W=h::tl/\Lr.Rg (Adj ts ks) h tl/\Lr.Cano h tl):GoodR ts ks RS:=by
 refine⟨λ W hW=>?_,λ ⟨k,hk,L,w⟩=>?_⟩
 ·obtain⟨h',tl,rfl,r,c⟩:=(h W).mp hW
  exact zae ok ko r c
 ·obtain⟨k,ws,S,x,y,fm⟩:=pP ok ko hk w
  obtain⟨h',tl,e,r,c,_⟩:=(fm.lr ok ko).rg ok ko
  exact⟨ringL ws,(h _).mpr ⟨h',tl,e,r,c⟩,fm.sho ok ko⟩
theorem sZ {n:Int}{ts:List Tie}{ks:List Nat}(ok:WebOk n ts)(ko:KeepOk ts.length ks)(h:∀ W∈ks.filterMap (λ k=>(spW ts ks k).map aR),∃ k∈ks,∃ ws h tl,spW ts ks k=some ws/\W=h::tl/\Far.RingOf ws h tl/\Turn h tl):GoodR ts ks (ks.filterMap λ k=>(spW ts ks k).map aR):=by
 refine⟨λ W hW=>?_,λ ⟨k,hk,L,w⟩=>?_⟩
 ·obtain⟨k,hk,ws,h',tl,e,rfl,ro,tu⟩:=h W hW
  exact uT ok ko hk (jM e) ro tu
 ·obtain⟨k,ws,S,x,y,fm⟩:=pP ok ko hk w
  have mw:=fm.minw ok ko
  obtain⟨h',tl,e,_,_,tu,ro⟩:=(fm.lr ok ko).rg ok ko
  refine⟨ringL ws,uco.mpr ⟨k,fm.kin,?_⟩,fm.sho ok ko⟩
  rw[mJ ok ko mw]
  show some (aR ws)=_
  rw[jY mw.nodup (eU ok ko fm.kin mw) ro tu,e]
def spLaw (K:a9):Sp:=λ vs H Q _=>∃ (a:j8)(ns:List Int),vs=[.ref a]/\SqL K H a (ns.map V.int)/\ns.length<=63/\∀ H',Q (.bl true) H'
theorem zR {f:j8}{fd:FuncData}(T:Bi mg)(F:Fun K "law" "law" s_law f fd)(O__law_pot:‹7› "_law_pot" ["script","k"] (spPot K))(O__law_most:‹7› "_law_most" ["pot","k"] spMost)(O__law_web:‹7› "_law_web" ["pot","most"] (spWeb K))
  (O__law_keep:‹7› "_law_keep" ["pot","web"] (spKeep K)) (O__law_all_rings:‹7› "_law_all_rings" ["web","keep"] (spAllR K)) (O__law_closed:‹7› "_law_closed" ["web","keep","some"] (spClosedS K)) (O__law_heavy:‹7› "_law_heavy" ["web","ring"] (spHeavy K)) (O_shortest_ring:‹7› "shortest_ring" ["web","keep"] (spShort K)) (O__law_same:‹7› "_law_same" ["found","due"] (spSame2 K)):FnOk P w K mg base CX0 8 f fd ["script"] (spLaw K):=by
 refine F.ok (k:=7) sc_law (λ vs H Q E h=>?_) (λ cdv A outer s H vs Q E hr h=>?_)
 ·obtain⟨a,ns,rfl,_⟩:=h
  rfl
 obtain⟨a,ns,rfl,hS,h63,q⟩:=h
 have nd:=sc_law.nd
 have hu:(A.deeper (envOfC "law" (defScope s_law) s.heap.objs.size f cdv)).units+9<cLine:=by have:=hr.units;left
 have hl:(ns.map V.int).length=ns.length:=c6 _
 refine⟨_,(aD (bD PassesOwn.never rfl (cM rfl T.z_range (aA (aU (gB rfl) rfl T.z_max (by symm) (aA aB (aA (aU (fZ rfl) rfl T.z_min (by symm) (aA aB (aA (aU bX rfl T.z_len (by symm) (aA (pv 0) aC)) aC))) aC))) aC)) (aH (i:=1) nd rfl (j7 rfl)) (aD (aI (i:=2) nd rfl (j7 rfl) (aM O__law_pot hr rfl (aA (pv 0) (aA (pv 1) aC)))) (aE (bD PassesOwn.never rfl (bV (bK (aA aB (aA (aM O__law_most hr rfl (aA (pv 2) (aA (pv 1) aC))) aC)))) (aH (i:=3) nd rfl (j7 rfl)) (aD (aI (i:=4) nd rfl (ueu rfl) (aM O__law_web hr rfl (aA (pv 2) (aA (pv 3) aC)))) (aD (aI (i:=5) nd rfl (j7 rfl) (aM O__law_keep hr rfl (aA (pv 2) (aA (pv 4) aC)))) (aD (aW (aN dH (aF aP (pv 4) aB (λ _ _=>rfl)) aB (nomark _)) (aE (aI (i:=6) nd rfl (j7 rfl) (aM O__law_all_rings hr rfl (aA (pv 4) (aA (pv 5) aC))))) (aE (aI (i:=6) nd rfl (j7 rfl) (aM O__law_closed hr rfl (aA (pv 4) (aA (pv 5) (aA (pv 5) aC))))))) (aD (aI (i:=7) nd rfl (j7 rfl) bC) (aD (aW (aN cG (aU bX rfl T.z_len (by symm) (aA (pv 6) aC)) aB (nomark _)) (aE (aI (i:=7) nd rfl (j7 rfl) (aF aP (aU (vX rfl hu) rfl T.z_min (by symm) (aA (cC (N:=["script","k","pot","most","web","keep","rings","due"]) (sc0:=defScope s_law) (own:=["ring"]) (fr:=["web"]) (js:=[4]) rfl (bV (pv 6)) (λ _ _ _ _=>(aH (i:=0) (by show uai [("ring":Str),("web":Str)];decide +kernel) rfl (j7 rfl))) (λ _ _ _ _=>cP) (λ _ _ _ _=>(bH (aA (aM O__law_heavy hr rfl (aA (pv 1) (aA (pv 0) aC))) (aA (pv 0) aC))))) aC)) aB (λ _ _=>rfl)))) aX) (aE (aW (jO (dS (aM O__law_same hr rfl (aA (aM O_shortest_ring hr rfl (aA (pv 4) (aA (pv 5) aC))) (aA (pv 7) aC))))) (aE (aL dG)) aX))))))))))) (aE (aL dG))),?_⟩
 refine⟨_,rfl,a,_,rfl,.inl hS,_,_,rfl,_,_,rfl,_,rfl,?_,?_,?_⟩
 ·split <;> split <;> left
 ·rw[hl];split <;> split <;> left
 generalize hj:(if (if (((ns.map V.int).length:Nat):Int)<5 then (((ns.map V.int).length:Nat):Int) else 5)>1 then (if (((ns.map V.int).length:Nat):Int)<5 then (((ns.map V.int).length:Nat):Int) else 5) else 1)=j
 have j12:j<=5:=by rw[← hj];split <;> split <;> left
 refine dL (n:=j.toNat) (λ i σ H'=>∃ x1 x2 x3 x4 x5 x6 x7:Option V,σ=[some (.ref a),x1,x2,x3,x4,x5,x6,x7]/\Same H H') ⟨none,none,none,none,none,none,none,rfl,Same.refl H⟩ ?turn (λ σ H' _=>q H')
 rintro i σ H0 hi ⟨x1,x2,x3,x4,x5,x6,x7,rfl,s0⟩
 refine⟨_,rfl,_,rfl,a,_,ns,rfl,s0.seq hS,by left,by left,λ l H1 s1 fl p1=>?_⟩
 have s01:Same H H1:=s0.trans s1
 have fl0:H l=none:=s0.free fl
 refine⟨_,rfl,_,rfl,l,_,rfl,p1,λ m H2 b2 p2 m1 m24=>⟨(by show 2<=1000;decide),λ l6 J6 S6 f6 e6=>?_⟩⟩
 have p6:=p2.same S6
 have nl6:l6≠l:=λ z=>by
  obtain⟨xs,e⟩:=p2.lst
  rw[z,e] at f6;cases f6
 refine⟨l6,rfl,⟨_,SqL.of e6⟩,?_⟩
 refine dP (xs:=[.int 6,.int m]) (λ i' σ J=>∃ y3 y4 y5 y6 y7:Option V,σ=[some (.ref a),some (.int (0+(i:Nat))),some (.ref l),y3,y4,y5,y6,y7]/\But l J6 J/\Pot J l) ⟨_,_,_,_,_,rfl,But.refl,p6⟩ (λ i' σ J _ h=>?_) (λ i' x σ J hx h=>?_) (λ σ J h=>?_)
 ·obtain⟨y3,y4,y5,y6,y7,rfl,bt,_⟩:=h
  exact SqL.of (bt _ _ nl6 e6)
 ·obtain⟨y3,y4,y5,y6,y7,rfl,bt,pj⟩:=h
  obtain⟨m',rfl,h1,h24⟩:∃ m':Int,x=.int m'/\1<=m'/\m'<=24:=by
   match i',hx with
   | 0,hx=>cases hx;exact⟨6,rfl,by decide,by decide⟩
   | 1,hx=>cases hx;exact⟨m,rfl,m1,m24⟩
  refine⟨_,rfl,_,rfl,l,m',rfl,pj,h1,h24,λ wv H3 n ts b3 p3 ok _ isw=>?_⟩
  have few60:=ok.few
  refine⟨_,rfl,_,rfl,l,n,ts,wv,rfl,p3,isw,few60,λ kv H4 ks b4 p4 ko isk=>?_⟩
  obtain⟨xs3,e3'⟩:=p3.lst
  have isw4:Is K H4 (webD n ts) wv:=Is.but b4 e3' _ (xW n ts) isw
  have wk:WK K H4 n ts ks wv kv:=⟨isw4,ok,isk,ko⟩
  obtain⟨g0,g,ws,rfl,hg0,hg,hall,hlw⟩:=bM isw4
  obtain⟨kp,rfl,hkp⟩:=cL isk
  rw[← bN] at hkp
  have B4:But l J6 H4:=bt.trans (b3.trans b4)
  have lks:=ko.len
  apply brT15 (A:=λ (lr:j8) (J7:Hp)=>Same H4 J7/\∃ (RS:List (List Nat))(ys:List V),J7 lr=some (.lst ys)/\IsAll K J7 (RS.map keepD) ys/\RS.length<=279936/\GoodR ts ks RS)
  case main =>
   intro k
   refine⟨_,rfl,g0,_,_,_,rfl,rfl,SqT.of hg0,rfl,_,_,rfl,rfl,_,rfl,ite2 (λ c=>?_) (λ c=>?_)⟩
   ·have n7:=uf4 c
    exact⟨_,rfl,_,rfl,n,ts,ks,_,_,rfl,wk,n7,λ lr RS ys J7 S7 hl7 ia7 lR hR=>k lr J7 ⟨S7,RS,ys,hl7,ia7,lR,iV ok ko hR⟩⟩
   ·refine⟨_,rfl,_,rfl,_,rfl,n,ts,ks,ks,_,_,kp,rfl,wk,hkp,by left,λ k hk=>hk,λ lr ys J7 S7 hl7 ia7 hR=>k lr J7 ⟨S7,_,ys,hl7,ia7,?_,sZ ok ko hR⟩⟩
    exact o8 (ucl _ _) (by left)
  case tail =>
   rintro lr J7 ⟨S7,RS,ys,hl7,ia7,lR,gR,g2⟩
   have wk7:=wk.same S7
   have lys:ys.length=RS.length:=by rw[ia7.length,c6]
   have Bl:∀ {J8:Hp},Same J7 J8->But l J6 J8:=λ S=>B4.trans (Same.but (S7.trans S))
   have Pl:∀ {J8:Hp},Same J7 J8->Pot J8 l:=λ S=>(p4.same S7).same S
   have lenN:∀ W:List Nat,(natV W).length=W.length:=λ W=>by unfold natV;rw[c6]
   refine⟨_,rfl,lr,_,rfl,.inl (SqL.of hl7),_,_,rfl,rfl,_,rfl,?_⟩
   by_cases c:0<RS.length
   ·rw[uf3 (show ((ys.length:Nat):Int)>0 by left)]
    refine iteT ?_
    have wof:∀ (j:Nat)(x:V),ys[j]?=some x->∃ p,x=.ref p/\J7 p=some (.tup (natV (RS.getD j [])))/\RS.getD j []∈RS:=λ j x hx=>by
     obtain⟨d,hd,isd⟩:=IsAll.get' ia7 hx
     have hj:j<RS.length:=by have:=(i3.mp hx).1;left
     have ew:RS[j]?=some (RS.getD j []):=by rw[b8,b6 hj];rfl
     rw[j3,ew] at hd
     have ed:d=keepD (RS.getD j []):=(j5 hd).symm
     rw[ed] at isd
     obtain⟨p,rfl,hp⟩:=cL isd
     rw[← bN] at hp
     exact⟨p,rfl,hp,i9 ew⟩
    have ring:∀ W∈RS,2<=W.length/\W.length<=24/\linked ts (W++W.take 1):=λ W hW=>by
     obtain⟨k,ws,S,x,y,lr',rfl⟩:=gR W hW
     obtain⟨w1,rest,e,_⟩:=lr'.can ok ko
     obtain⟨e2,lk,_⟩:=nR ok ko lr'.kin lr'.rt
     have:=lr'.len ok ko
     refine⟨by rw[e];simp,by left,by rw[e2];exact lk⟩
    refine⟨_,rfl,lr,rfl,⟨_,SqL.of hl7⟩,?_⟩
    refine iD (K':=K) hl7 (λ σ'=>∃ o,σ'=[o,some (.ref g0)]) (λ j=>some (nestD (keyW ts (RS.getD j [])))) (λ j d e=>?_) (by left) (by exact⟨none,rfl⟩) (λ j x σ' H' hx s2 sg C L hC hL=>?_) (λ L zs J8 hL S8 hH8 lz hz=>?_)
    ·rw[← j5 e]
     show ((true&&(tupD (keepD (tieL ts (RS.getD j [])).reverse)&&true))&&(tupD (keepD (RS.getD j []))&&true))=true
     rw[fD,fD];rfl
    ·obtain⟨o,rfl⟩:=sg
     obtain⟨p,rfl,hp,hm⟩:=wof j x hx
     obtain⟨r2,r24,rl⟩:=ring _ hm
     refine⟨_,rfl,_,rfl,n,ts,_,p,_,rfl,Is.same s2 _ wk7.1,ok,s2 _ _ hp,r2,r24,rl,λ hv J5 S5 hk5=>?_⟩
     refine⟨_,rfl,(by show 2<=1000;decide),λ t5 J6' S6' f6' e6'=>hC _ _ (nestD (keyW ts (RS.getD j []))) _ ⟨_,rfl⟩ (S5.trans S6') rfl ⟨t5,_,rfl,e6',_,_,rfl,Is.same S6' _ hk5,_,_,rfl,fY (S6' _ _ (S5 _ _ (s2 _ _ hp))),rfl⟩⟩
    have iaz:IsAll K J8 ((RS.map (keyW ts)).map nestD) zs:=by
     have e:(c9 ys.length).filterMap (λ j=>some (nestD (keyW ts (RS.getD j []))))=(RS.map (keyW ts)).map nestD:=by
      rw[lys,ubd]
      refine uba λ i=>?_
      rw[List.filterMap_eq_map',j3,j3]
      by_cases hi:i<RS.length
      ·rw[uaw hi,b6 hi]
       show some (nestD (keyW ts (RS.getD i [])))=some (nestD (keyW ts RS[i]))
       rw[b8,b6 hi];rfl
      ·rw[o7 (by rw[p8];left),o7 (by left)];rfl
     rw[← e];exact hz
    have lzs:zs.length=RS.length:=by rw[iaz.length,c6,c6]
    refine⟨L,zs,RS.map (keyW ts),rfl,hH8,(λ z=>by rw[z] at lzs;simp at lzs;left),iaz,λ b v key hv hk mn=>?_⟩
    obtain⟨d,hd,isd⟩:=IsAll.get' iaz hv
    rw[j3,hk] at hd
    cases hd
    rw[j3,uad] at hk
    obtain⟨W,hW,rfl⟩:=hk
    have hWm:=i9 hW
    obtain⟨a',vs2,rfl,ha',h0,r0,rfl,_,v1,r1,rfl,isr,er⟩:=isd
    have er:r1=[]:=er
    subst er
    obtain⟨tW,rfl,htW⟩:=cL isr
    rw[← bN] at htW
    have good:∃ W0,W0∈RS/\IsSho ts ks W0:=by
     obtain⟨k,ws,S,x,y,l1,_⟩:=gR W hWm
     exact g2 ⟨k,l1.kin,_,l1.rt.walkC⟩
    obtain⟨W0,m0,s0'⟩:=good
    have sW:=yP ok ko gR m0 s0' hWm λ W' hW'=>mn _ (ua5.mpr ⟨W',hW',rfl⟩)
    refine⟨a',_,_,_,rfl,rfl,SqT.of ha',rfl,?_⟩
    refine⟨_,rfl,_,rfl,n,ts,ks,_,_,rfl,wk7.same S8,λ v J9 S9 hv9=>?_⟩
    rcases hv9 with ⟨rfl,no⟩ | ⟨t,W',rfl,ht,l24,sho⟩
    ·exfalso
     obtain⟨k,ws,S,x,y,l1,_⟩:=gR W hWm
     exact no k l1.kin _ l1.rt.walkC
    ·have eW:=sho.one ok ko sW
     subst eW
     refine⟨_,rfl,_,_,rfl,.inr ⟨t,tW,W',rfl,rfl,ht,S9 _ _ htW,l24⟩,λ J10 S10=>⟨_,rfl,iteF ?_⟩⟩
     exact⟨_,_,_,_,_,rfl,Bl (S8.trans (S9.trans S10)),Pl (S8.trans (S9.trans S10))⟩
   ·have R0:RS=[]:=udq.mp (by left)
    rw[uf5 (show ¬ ((ys.length:Nat):Int)>0 by left)]
    refine iteF ?_
    refine⟨_,rfl,_,rfl,n,ts,ks,_,_,rfl,wk7,λ v J8 S8 hv=>?_⟩
    rcases hv with ⟨rfl,no⟩ | ⟨t,W',rfl,ht,l24,k,ws,S,x,y,l1,_⟩
    ·refine⟨_,rfl,_,_,rfl,.inl ⟨rfl,rfl⟩,λ J9 S9=>⟨_,rfl,iteF ?_⟩⟩
     exact⟨_,_,_,_,_,rfl,Bl (S8.trans S9),Pl (S8.trans S9)⟩
    ·exfalso
     obtain⟨W0,m0,_⟩:=g2 ⟨k,l1.kin,_,l1.rt.walkC⟩
     rw[R0] at m0;cases m0
 ·obtain⟨y3,y4,y5,y6,y7,rfl,bt,_⟩:=h
  exact⟨_,_,_,_,_,_,_,rfl,λ b o e=>bt _ _ (aV e fl0) (S6 _ _ (b2 _ _ (aV e fl0) (s01 _ _ e)))⟩
end
end Me
namespace Me
open PySem PySem.Spec PyProof.Rows L2 L3
abbrev Bdq (x:Str)(st:ucy)(ps:List Str):Prop:=∀ (kV doc pm:b9)(an:Option j8)(cdv ct:b9)(us:List b9),us.length=ps.length->bindArgs (ubi x x (defArgs st) (defBody st) (defScope st) .none kV doc pm an cdv ct) ⟨us,[]⟩=pure (ps.zip us)
theorem zab {K:a9}{h:Heap}{mg:Str->Option b9}{x:Str}{st:ucy}{ps:List Str}{f:j8}{od an:Option j8}{sl:Array (Option b9)}{oc kV dc pm cd ct:b9}(X:K.In h)(G:h.Ns mainGlobals mg)
  (b:∀ (kV doc pm:b9)(an:Option j8)(cdv ct:b9)(us:List b9),us.length=ps.length->bindArgs (ubi x x (defArgs st) (defBody st) (defScope st) .none kV doc pm an cdv ct) ⟨us,[]⟩=pure (ps.zip us))
  (a:uem K mainGlobals x=some (some (.ref f))) (l:K.lookup f=some ⟨oc,od,.func (ubi x x (defArgs st) (defBody st) (defScope st) .none kV dc pm an cd ct),sl⟩) (c:uda K cd x=true) (k:ub5 K (.ref f)=true):DefOk K mg x st ps:=by
 have F:=pC (st:=st) l c k
 exact⟨f,_,F,F.binds b,PySem.W.mg_of X G a⟩
theorem dq {p:j9}{K:a9}{h:Heap}{mg:Str->Option b9}{x:Str}{st:ucy}{ps:List Str}(f c j u:Nat)(X:K.In h)(G:h.Ns mainGlobals mg)
  (b:∀ (kV doc pm:b9)(an:Option j8)(cdv ct:b9)(us:List b9),us.length=ps.length->bindArgs (ubi x x (defArgs st) (defBody st) (defScope st) .none kV doc pm an cdv ct) ⟨us,[]⟩=pure (ps.zip us))
  (a:uem K mainGlobals x=some (some (.ref f)):=by kernel_rfl) (l:K.lookup f=some ⟨.type "function",none,.func (ubi x x (defArgs st) (defBody st) (defScope st) .none .none .none (Hx.mdV p ⟨0,0,0,j,u,0⟩) none (.ref c) .none),#[]⟩:=by kernel_rfl) (cc:uda K (.ref c) x=true:=by kernel_rfl) (k:ub5 K (.ref f)=true:=by kernel_rfl):DefOk K mg x st ps:=zab X G b a l cc k
theorem qY:Bdq "tie_between" s_tie_between ["web","a","b"]:=by ac_rfl
theorem rP:Bdq "ties_along" s_ties_along ["web","places"]:=by ac_rfl
theorem qX:Bdq "tie_weights" s_tie_weights ["web"]:=by ac_rfl
theorem sG:Bdq "cost_with" s_cost_with ["cost","length","weight"]:=by ac_rfl
theorem rQ:Bdq "cost_along" s_cost_along ["web","places"]:=by ac_rfl
theorem qI:Bdq "reached_from" s_reached_from ["web","keep","root"]:=by ac_rfl
theorem sF:Bdq "tree_from" s_tree_from ["web","keep","root"]:=by ac_rfl
theorem uK:Bdq "the_way" s_the_way ["web","keep","a","b"]:=by ac_rfl
theorem uJ:Bdq "without" s_without ["keep","tie"]:=by ac_rfl
theorem xR:Bdq "spare" s_spare ["web","keep","tie"]:=by ac_rfl
theorem tH:Bdq "round_by" s_round_by ["web","keep","tie"]:=by ac_rfl
theorem qA:Bdq "shortest_ring" s_shortest_ring ["web","keep"]:=by ac_rfl
theorem tJ:Bdq "_law_pot" s__law_pot ["script","k"]:=by ac_rfl
theorem sK:Bdq "_law_take" s__law_take ["pot","many"]:=by ac_rfl
theorem rA:Bdq "_law_length" s__law_length ["pot","way"]:=by ac_rfl
theorem sJ:Bdq "_law_tied" s__law_tied ["pot","n","style","a","b"]:=by ac_rfl
theorem rS:Bdq "_law_order" s__law_order ["pot","many"]:=by ac_rfl
theorem tI:Bdq "_law_web" s__law_web ["pot","most"]:=by ac_rfl
theorem sN:Bdq "_law_keep" s__law_keep ["pot","web"]:=by ac_rfl
theorem rE:Bdq "_law_beside" s__law_beside ["web","keep"]:=by ac_rfl
theorem qJ:Bdq "_law_weights" s__law_weights ["web"]:=by ac_rfl
theorem qK:Bdq "_law_weighed" s__law_weighed ["web","keep","start"]:=by ac_rfl
theorem sI:Bdq "_law_tree" s__law_tree ["web","keep","root"]:=by ac_rfl
theorem qZ:Bdq "_law_way_by" s__law_way_by ["tree","root","place"]:=by ac_rfl
theorem rR:Bdq "_law_spare" s__law_spare ["web","keep","tie"]:=by ac_rfl
theorem qL:Bdq "_law_as_ring" s__law_as_ring ["way"]:=by ac_rfl
theorem rD:Bdq "_law_closed" s__law_closed ["web","keep","some"]:=by ac_rfl
theorem sM:Bdq "_law_most" s__law_most ["pot","k"]:=by ac_rfl
theorem sL:Bdq "_law_same" s__law_same ["found","due"]:=by ac_rfl
theorem pW:Bdq "_law_all_rings" s__law_all_rings ["web","keep"]:=by ac_rfl
theorem rT:Bdq "_law_heavy" s__law_heavy ["web","ring"]:=by ac_rfl
theorem yU {P:j9}{w:v9}{K:a9}{mg:Str->Option b9}{base:Heap}{f:j8}{fd:FuncData}(T:Bi mg)
  (D_tie_between:DefOk K mg "tie_between" s_tie_between ["web","a","b"])
  (D_ties_along:DefOk K mg "ties_along" s_ties_along ["web","places"])
  (D_tie_weights:DefOk K mg "tie_weights" s_tie_weights ["web"])
  (D_cost_with:DefOk K mg "cost_with" s_cost_with ["cost","length","weight"])
  (D_cost_along:DefOk K mg "cost_along" s_cost_along ["web","places"])
  (D_reached_from:DefOk K mg "reached_from" s_reached_from ["web","keep","root"])
  (D_tree_from:DefOk K mg "tree_from" s_tree_from ["web","keep","root"])
  (D_the_way:DefOk K mg "the_way" s_the_way ["web","keep","a","b"])
  (D_without:DefOk K mg "without" s_without ["keep","tie"])
  (D_spare:DefOk K mg "spare" s_spare ["web","keep","tie"])
  (D_round_by:DefOk K mg "round_by" s_round_by ["web","keep","tie"])
  (D_shortest_ring:DefOk K mg "shortest_ring" s_shortest_ring ["web","keep"])
  (D__law_pot:DefOk K mg "_law_pot" s__law_pot ["script","k"])
  (D__law_take:DefOk K mg "_law_take" s__law_take ["pot","many"])
  (D__law_length:DefOk K mg "_law_length" s__law_length ["pot","way"])
  (D__law_tied:DefOk K mg "_law_tied" s__law_tied ["pot","n","style","a","b"])
  (D__law_order:DefOk K mg "_law_order" s__law_order ["pot","many"])
  (D__law_web:DefOk K mg "_law_web" s__law_web ["pot","most"])
  (D__law_keep:DefOk K mg "_law_keep" s__law_keep ["pot","web"])
  (D__law_beside:DefOk K mg "_law_beside" s__law_beside ["web","keep"])
  (D__law_weights:DefOk K mg "_law_weights" s__law_weights ["web"])
  (D__law_weighed:DefOk K mg "_law_weighed" s__law_weighed ["web","keep","start"])
  (D__law_tree:DefOk K mg "_law_tree" s__law_tree ["web","keep","root"])
  (D__law_way_by:DefOk K mg "_law_way_by" s__law_way_by ["tree","root","place"])
  (D__law_spare:DefOk K mg "_law_spare" s__law_spare ["web","keep","tie"])
  (D__law_as_ring:DefOk K mg "_law_as_ring" s__law_as_ring ["way"])
  (D__law_closed:DefOk K mg "_law_closed" s__law_closed ["web","keep","some"])
  (D__law_most:DefOk K mg "_law_most" s__law_most ["pot","k"])
  (D__law_same:DefOk K mg "_law_same" s__law_same ["found","due"])
  (D__law_all_rings:DefOk K mg "_law_all_rings" s__law_all_rings ["web","keep"])
  (D__law_heavy:DefOk K mg "_law_heavy" s__law_heavy ["web","ring"])
  (F:Fun K "law" "law" s_law f fd):FnOk P w K mg base CX0 8 f fd ["script"] (spLaw K):=by
 have O__law_take:=rZ (P:=P) (w:=w) (base:=base) T D__law_take
 have O__law_pot:=sU (P:=P) (w:=w) (base:=base) T D__law_pot
 have O__law_length:=qS T D__law_length O__law_take
 have O__law_tied:=rY T D__law_tied O__law_take
 have O__law_order:=rL T D__law_order O__law_take
 have O__law_web:=sS T D__law_web (O__law_take.mono (by decide)) O__law_order O__law_tied O__law_length
 have O__law_keep:=sB T D__law_keep O__law_take
 have O__law_most:=qR T D__law_most O__law_take
 have O_tie_weights:=qO (P:=P) (w:=w) (base:=base) T D_tie_weights
 have O_cost_with:=rX (P:=P) (w:=w) (base:=base) T D_cost_with
 have O_reached_from:=pY T D_reached_from O_tie_weights O_cost_with
 have O_tree_from:=rH T D_tree_from O_reached_from
 have O_the_wayB:=sQ T D_the_way O_tree_from
 have O_the_way:‹4› "the_way" ["web","keep","a","b"] (spWayM K):=O_the_wayB.imp zad
 have O_without:=tZ (P:=P) (w:=w) (base:=base) T D_without
 have O_spare:=vC T D_spare (O_without.mono (by decide)) O_the_way
 have O_tie_between:=qP (P:=P) (w:=w) (base:=base) T D_tie_between
 have O_ties_along:=qN T D_ties_along O_tie_between
 have O_cost_along:=rJ T D_cost_along (O_tie_weights.mono (by decide)) (O_ties_along.mono (by decide)) (O_cost_with.mono (by decide))
 have O_round_by:=sR T D_round_by O_spare
 have O_shortest_ring:=pX T D_shortest_ring O_round_by (O_cost_along.mono (by decide))
 have O__law_beside:=qF (P:=P) (w:=w) (base:=base) T D__law_beside
 have O__law_all_rings:=pU T D__law_all_rings O__law_beside
 have O__law_weights:=qC (P:=P) (w:=w) (base:=base) T D__law_weights
 have O__law_weighed:=pZ T D__law_weighed O__law_weights
 have O__law_tree:=rK T D__law_tree (O__law_weights.mono (by decide)) O__law_weighed
 have O__law_way_by:=qQ (P:=P) (w:=w) (K:=K) (base:=base) T D__law_way_by
 have O__law_spare:=qD T D__law_spare O__law_tree (O__law_way_by.mono (by decide))
 have O__law_as_ring:=qG (P:=P) (w:=w) (K:=K) (base:=base) T D__law_as_ring
 have O__law_closed:=qE T D__law_closed O__law_spare (O__law_as_ring.mono (by decide))
 have O__law_heavy:=rM (P:=P) (w:=w) (base:=base) T D__law_heavy
 have O__law_same0:=wR (P:=P) (w:=w) (base:=base) D__law_same
 have O__law_same1:=wQ T D__law_same O__law_same0
 have O__law_same:=wP T D__law_same O__law_same1
 exact zR T F (O__law_pot.mono (by decide)) (O__law_most.mono (by decide)) (O__law_web.mono (by decide)) (O__law_keep.mono (by decide)) (O__law_all_rings.mono (by decide)) (O__law_closed.mono (by decide)) (O__law_heavy.mono (by decide)) O_shortest_ring (O__law_same.mono (by decide))
theorem walk {l:PySem.W.OpenLaw}{q:j9}{loose:List Str}{XP:(Str->Option b9)->Heap->Prop}{YP:v9->Heap->Prop}{d:DefRec}{K:Params->a9}(hn:l.most=some 63)(hdf:d.params.defaults=[])
  (hY:∀ (w:v9)(h:Heap),YP w h->(K w.params).In h)
  (F:∀ (w:v9)(mg:Str->Option b9)(fa:j8)(h:Heap),(K w.params).In h->h.Ns mainGlobals mg->mg d.name=some (.ref fa) ->
   ∃ fd:FuncData,(∀ (s:c7)(u:b9),BindsTo s fd ⟨[u],[]⟩ [("script",u)])/\∀ base:Heap,(K w.params).In base->base.Ns mainGlobals mg->FnOk l.prog w (K w.params) mg base CX0 8 fa fd ["script"] (spLaw (K w.params))) :
  PySem.W.WalkO q loose XP YP l.row.toRowW d [] (λ f vs=>PySem.call f vs) :=
 L2.xV (n:=63) (k:=8) (x:="script") (CX:=λ _=>CX0) (sp:=λ w=>spLaw (K w.params)) hn (by decide) hdf ⟨rfl,by decide,by decide,rfl⟩ hY F (λ _ _ a ns hl _ hS=>⟨a,ns,rfl,hS,hl,λ _=>rfl⟩) λ _ _ _ _ _ z=>z
end Me
namespace Hy
open PySem PySem.W Hx
def cs:List Ch:=[⟨0,15,187,0,187,0⟩,⟨1,15,189,0,187,0⟩,⟨2,22,201,2,201,0⟩,⟨3,22,203,2,201,0⟩,⟨4,27,209,2,201,0⟩,⟨5,34,219,2,201,0⟩,⟨6,41,228,2,201,0⟩,⟨7,48,239,2,201,0⟩,⟨8,55,259,2,201,0⟩,⟨9,62,270,2,201,0⟩,⟨10,69,282,10,282,0⟩,⟨11,69,284,10,282,0⟩,⟨12,74,290,10,282,0⟩,⟨13,81,302,13,302,0⟩,⟨14,81,304,13,302,0⟩,⟨15,88,314,13,302,0⟩,⟨16,95,327,16,327,0⟩,⟨17,95,329,16,327,0⟩,⟨18,102,339,16,327,0⟩,⟨19,109,348,16,327,0⟩,⟨20,116,356,16,327,0⟩,⟨21,123,368,16,327,0⟩,⟨22,130,379,16,327,0⟩,⟨23,137,396,16,327,0⟩,⟨24,142,402,16,327,0⟩,⟨25,147,408,16,327,0⟩,⟨26,154,420,16,327,0⟩,⟨27,161,440,16,327,0⟩,⟨28,168,458,16,327,0⟩,⟨29,175,469,16,327,0⟩,⟨30,180,475,16,327,0⟩,⟨31,187,484,16,327,0⟩,⟨32,192,490,16,327,0⟩,⟨33,199,499,16,327,0⟩,⟨34,204,505,16,327,0⟩,⟨35,209,511,16,327,0⟩,⟨36,214,517,16,327,0⟩]
end Hy
lay_quick Hx.PieceT Hx.PreT Hx.BlockT Hx.LookA Hx.LookB Hx.LookC PySem.Challenge.pw_thinways_k15_shortest_rings_told
namespace Hy
open PySem PySem.W Hx
theorem pre:PreT a7 boots boot_drawn boot_heap boot_toks cs ⟨0,15,187⟩:=by
 rw[PySem.W.Fast.te16428918119715843241,PySem.W.Fast.te5013301811300395786];delta PySem.W.Fast.tw16428918119715843241;intro w;kernel_rfl
theorem pc0:PieceT a7 boots boot_drawn cs ⟨0,15,187⟩ ⟨15,88,314⟩ 394:=by
 rw[PySem.W.Fast.te4643275101561185336,PySem.W.Fast.te5013301811300395786];delta PySem.W.Fast.tw4643275101561185336;intro w;kernel_rfl
theorem pc1:PieceT a7 boots boot_drawn cs ⟨15,88,314⟩ ⟨27,161,440⟩ 372:=by
 rw[PySem.W.Fast.te4643275101561185336,PySem.W.Fast.te5013301811300395786];delta PySem.W.Fast.tw4643275101561185336;intro w;kernel_rfl
theorem pc2:PieceT a7 boots boot_drawn cs ⟨27,161,440⟩ ⟨37,219,523⟩ 292:=by
 rw[PySem.W.Fast.te4643275101561185336,PySem.W.Fast.te5013301811300395786];delta PySem.W.Fast.tw4643275101561185336;intro w;kernel_rfl
theorem blk:BlockT a7 :=by
 rw[PySem.W.Fast.te421534021395069552,PySem.W.Fast.te5013301811300395786];delta PySem.W.Fast.tw421534021395069552;intro w s;kernel_rfl
theorem run (w:v9)(os:OsState):topRun treeTable a7 w 11 ann0 (12+(1+(394+(372+(292+2))))) ⟨boot_heap w.params,udp [],boot_drawn,boot_toks,os⟩ (topStub a7)=some (stT a7 boots boot_drawn cs ⟨37,219,523⟩ w os).abs:=yH pre blk (chain pc0 (by decide) (chain pc1 (by decide) (chain pc2 (by decide) (vV (by kernel_rfl)))))
theorem size (w:v9):((boot_heap w.params).isNs mainGlobals&&(udp []:Array GenState).size==0,(boot_heap w.params).objs.size,(boot_heap w.params).nsMap mainGlobals "__annotations__")=(true,11,ann0):=by kernel_rfl
theorem lkA:LookA a7 boots boot_drawn boot_heap cs ⟨37,219,523⟩:=by
 rw[PySem.W.Fast.te7818774390570169022,PySem.W.Fast.te5013301811300395786];delta PySem.W.Fast.tw7818774390570169022;intro w;kernel_rfl
theorem lkB:LookB a7 boots boot_drawn cs ⟨37,219,523⟩ [36] (OpenRow.toRowW (l7).row).records:=by
 rw[PySem.W.Fast.te13889730532244352606,PySem.W.Fast.te5013301811300395786];delta PySem.W.Fast.tw13889730532244352606;intro w;kernel_rfl
theorem lkC:LookC a7 boots cs ⟨37,219,523⟩ [3,20,21,25,26,32,33,39,40,46,47,53,54,60,61,67,68,72,73,79,80,86,87,93,94,100,101,107,108,114,115,121,122,128,129,135,136,140,141,145,146,152,153,159,160,166,167,173,174,178,179,185,186,190,191,197,198,202,203,207,208,212,213,217,218]:=by
 rw[PySem.W.Fast.te6241646928739474683,PySem.W.Fast.te5013301811300395786];delta PySem.W.Fast.tw6241646928739474683;intro w;kernel_rfl
noncomputable abbrev K:=Kf a7 boots cs
theorem Kas (P:Params):[3,20,21,25,26,32,33,39,40,46,47,53,54,60,61,67,68,72,73,79,80,86,87,93,94,100,101,107,108,114,115,121,122,128,129,135,136,140,141,145,146,152,153,159,160,166,167,173,174,178,179,185,186,190,191,197,198,202,203,207,208,212,213,217,218]=(K P).map (·.1):=by kernel_rfl
noncomputable abbrev H:Hook:=kHook K [3,20,21,25,26,32,33,39,40,46,47,53,54,60,61,67,68,72,73,79,80,86,87,93,94,100,101,107,108,114,115,121,122,128,129,135,136,140,141,145,146,152,153,159,160,166,167,173,174,178,179,185,186,190,191,197,198,202,203,207,208,212,213,217,218] Kas
theorem opn:opening a7=plainProg (a7).main.scope.names:=by kernel_rfl
theorem fnc (s:c7):fenceModules? a7 s=some s:=by kernel_rfl
theorem left:LeftO a7 (qv a7 [36]) (lz a7 [36] 37) (λ s=>xlAt (qv a7 [36]) [] s&&recOk (OpenRow.toRowW (l7).row).records s) (Hook.obs H) (Hook.val H) 2746 :=
 yS (p:=a7) (cs:=cs) (is:=[36]) (as:=[3,20,21,25,26,32,33,39,40,46,47,53,54,60,61,67,68,72,73,79,80,86,87,93,94,100,101,107,108,114,115,121,122,128,129,135,136,140,141,145,146,152,153,159,160,166,167,173,174,178,179,185,186,190,191,197,198,202,203,207,208,212,213,217,218]) (rc:=(OpenRow.toRowW (l7).row).records) (c:=⟨37,219,523⟩) (M:=12+(1+(394+(372+(292+2))))) (N:=2746) (e:=Kas) opn (by decide) fnc size run (by decide) lkA lkB lkC
end Hy
namespace Hy
open PySem PySem.W PyProof.Rows L2 L3 Hx Me
theorem all {w:v9}{h:Heap}{mg:Str->Option b9}{fa:j8}(X:(K w.params).In h)(G:h.Ns mainGlobals mg)(hfa:mg "law"=some (.ref fa)) :
  ∃ fd:FuncData,(∀ (s:c7)(v:b9),BindsTo s fd ⟨[v],[]⟩ [("script",v)])/\∀ base:Heap,(K w.params).In base->base.Ns mainGlobals mg->FnOk (l7).prog w (K w.params) mg base CX0 8 fa fd ["script"] (spLaw (K w.params)):=by
 have b0:∀ x:Str,uem (K w.params) mainGlobals x=some none->mg x=none:=λ x h=>PySem.W.mg_none_of X G h
 have T:Bi mg:=⟨b0 "len" (by kernel_rfl),b0 "range" (by kernel_rfl),b0 "zip" (by kernel_rfl),b0 "all" (by kernel_rfl),b0 "sorted" (by kernel_rfl),b0 "isinstance" (by kernel_rfl),b0 "min" (by kernel_rfl),b0 "max" (by kernel_rfl),b0 "tuple" (by kernel_rfl),b0 "list" (by kernel_rfl),b0 "int" (by kernel_rfl),b0 "bool" (by kernel_rfl),b0 "str" (by kernel_rfl),b0 "enumerate" (by kernel_rfl),b0 "sum" (by kernel_rfl),b0 "abs" (by kernel_rfl),b0 "set" (by kernel_rfl),b0 "reversed" (by kernel_rfl),b0 "any" (by kernel_rfl),b0 "repr" (by kernel_rfl),b0 "dict" (by kernel_rfl)⟩
 have D_tie_between:=dq (p:=a7) (ps:=["web","a","b"]) 21 20 0 187 X G qY
 have D_ties_along:=dq (p:=a7) (ps:=["web","places"]) 26 25 2 201 X G rP
 have D_tie_weights:=dq (p:=a7) (ps:=["web"]) 33 32 2 201 X G qX
 have D_cost_with:=dq (p:=a7) (ps:=["cost","length","weight"]) 40 39 2 201 X G sG
 have D_cost_along:=dq (p:=a7) (ps:=["web","places"]) 47 46 2 201 X G rQ
 have D_reached_from:=dq (p:=a7) (ps:=["web","keep","root"]) 54 53 2 201 X G qI
 have D_tree_from:=dq (p:=a7) (ps:=["web","keep","root"]) 61 60 2 201 X G sF
 have D_the_way:=dq (p:=a7) (ps:=["web","keep","a","b"]) 68 67 2 201 X G uK
 have D_without:=dq (p:=a7) (ps:=["keep","tie"]) 73 72 10 282 X G uJ
 have D_spare:=dq (p:=a7) (ps:=["web","keep","tie"]) 80 79 10 282 X G xR
 have D_round_by:=dq (p:=a7) (ps:=["web","keep","tie"]) 87 86 13 302 X G tH
 have D_shortest_ring:=dq (p:=a7) (ps:=["web","keep"]) 94 93 13 302 X G qA
 have D__law_pot:=dq (p:=a7) (ps:=["script","k"]) 101 100 16 327 X G tJ
 have D__law_take:=dq (p:=a7) (ps:=["pot","many"]) 108 107 16 327 X G sK
 have D__law_length:=dq (p:=a7) (ps:=["pot","way"]) 115 114 16 327 X G rA
 have D__law_tied:=dq (p:=a7) (ps:=["pot","n","style","a","b"]) 122 121 16 327 X G sJ
 have D__law_order:=dq (p:=a7) (ps:=["pot","many"]) 129 128 16 327 X G rS
 have D__law_web:=dq (p:=a7) (ps:=["pot","most"]) 136 135 16 327 X G tI
 have D__law_keep:=dq (p:=a7) (ps:=["pot","web"]) 141 140 16 327 X G sN
 have D__law_beside:=dq (p:=a7) (ps:=["web","keep"]) 146 145 16 327 X G rE
 have D__law_weights:=dq (p:=a7) (ps:=["web"]) 153 152 16 327 X G qJ
 have D__law_weighed:=dq (p:=a7) (ps:=["web","keep","start"]) 160 159 16 327 X G qK
 have D__law_tree:=dq (p:=a7) (ps:=["web","keep","root"]) 167 166 16 327 X G sI
 have D__law_way_by:=dq (p:=a7) (ps:=["tree","root","place"]) 174 173 16 327 X G qZ
 have D__law_spare:=dq (p:=a7) (ps:=["web","keep","tie"]) 179 178 16 327 X G rR
 have D__law_as_ring:=dq (p:=a7) (ps:=["way"]) 186 185 16 327 X G qL
 have D__law_closed:=dq (p:=a7) (ps:=["web","keep","some"]) 191 190 16 327 X G rD
 have D__law_most:=dq (p:=a7) (ps:=["pot","k"]) 198 197 16 327 X G sM
 have D__law_same:=dq (p:=a7) (ps:=["found","due"]) 203 202 16 327 X G sL
 have D__law_all_rings:=dq (p:=a7) (ps:=["web","keep"]) 208 207 16 327 X G pW
 have D__law_heavy:=dq (p:=a7) (ps:=["web","ring"]) 213 212 16 327 X G rT
 have e:=hfa.symm.trans (PySem.W.mg_of X G (show uem (K w.params) mainGlobals "law"=some (some (.ref 218)) by kernel_rfl))
 cases e
 have F:=pC (x:="law") (qual:="law") (st:=s_law) (K:=K w.params) (f:=218) (oc:=.type "function") (od:=none) (an:=none) (osl:=#[]) (kV:=.none) (doc:=.none) (pm:=Hx.mdV a7 ⟨0,0,0,16,327,0⟩) (cdv:=.ref 217) (ct:=.none) (by kernel_rfl) (by kernel_rfl) (by kernel_rfl)
 exact⟨_,λ s v=>.of_eq rfl,λ base _ _=>yU (P:=(l7).prog) (w:=w) (base:=base) T D_tie_between D_ties_along D_tie_weights D_cost_with D_cost_along D_reached_from D_tree_from D_the_way D_without D_spare D_round_by D_shortest_ring D__law_pot D__law_take D__law_length D__law_tied D__law_order D__law_web D__law_keep D__law_beside D__law_weights D__law_weighed D__law_tree D__law_way_by D__law_spare D__law_as_ring D__law_closed D__law_most D__law_same D__law_all_rings D__law_heavy F⟩
end Hy
open PySem PySem.W PyProof.Rows
set_option maxRecDepth 100000 in
set_option maxHeartbeats 0 in
theorem PySem.Challenge.cw_thinways_k15_shortest_rings_told_holds : PySem.Challenge.rw_thinways_k15_shortest_rings_told.Holds := by
 w_on;o_law
 refine holds_open (q:=(Hx.qv PySem.Challenge.pw_thinways_k15_shortest_rings_told [36])) (loose:=Hx.lz PySem.Challenge.pw_thinways_k15_shortest_rings_told [36] 37) (Xt:=λ s=>xlAt (Hx.qv PySem.Challenge.pw_thinways_k15_shortest_rings_told [36]) [] s&&recOk (OpenRow.toRowW (PySem.Challenge.rw_thinways_k15_shortest_rings_told).row).records s) (XP:=XL (Hx.qv PySem.Challenge.pw_thinways_k15_shortest_rings_told [36]) []) (Yf:=Hook.obs Hy.H) (Ya:=Hook.val Hy.H) (YP:=Hook.says Hy.H) (N:=2746) Hy.left (Hook.of Hy.H) (Hook.keeps Hy.H) (λ s e=>xl_of s (Bool.and_eq_true_iff.mp e).1) XL.keeps (by rfl) (by rfl) (by rfl) (λ s e=>recFacts_of (Bool.and_eq_true_iff.mp e).2) (by rfl) (by first | assumption | decide +kernel) (by symm) ⟨rfl,rfl,rfl,rfl,rfl,by symm⟩ ?hw ?hc
 case hw=>w_witness2
 case hc =>
  refine Me.walk (l:=PySem.Challenge.rw_thinways_k15_shortest_rings_told) rfl rfl (λ w h Y=>PySem.W.kIn_of Y) λ w mg fa h KX G hmg=>Hy.all KX G hmg
